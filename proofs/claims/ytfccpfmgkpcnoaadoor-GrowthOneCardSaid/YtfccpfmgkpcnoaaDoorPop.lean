/- How many bits of a number are 1: the library's OnesCount64, OnesCount. -/
import Derived.Test.YtfccpfmgkpcnoaaDoorGx14
import Derived.Lib.Walk
import Derived.Laws.BitsLemmas
namespace Go.Proofs.YtfccpfmgkpcnoaaDoor.Da
set_option linter.unusedVariables false
/-- the sum of so many digits -/
def sd (b : Nat) : Nat → Nat → Nat
  | 0, _ => 0
  | n + 1, y => y % b + sd b n (y / b)
/-- every other digit, of base B -/
def evd (B : Nat) : Nat → Nat → Nat
  | 0, _ => 0
  | n + 1, y => y % B + B * B * evd B n (y / (B * B))
/-- its mask -/
def evm (B : Nat) : Nat → Nat
  | 0 => 0
  | n + 1 => (B - 1) + B * B * evm B n
/-- all digits are at most c -/
def dle (b c : Nat) : Nat → Nat → Prop
  | 0, _ => True
  | n + 1, y => y % b ≤ c ∧ dle b c n (y / b)
theorem ones_sd : ∀ (n x : Nat), x < 2 ^ n → ones x = sd 2 n x
  | 0, x, h => by
    obtain rfl : x = 0 := by simpa using h
    rw [ones_zero]; rfl
  | n + 1, x, h => by
    by_cases h0 : x = 0
    · subst h0
      rw [ones_zero]
      show 0 = 0 % 2 + sd 2 n (0 / 2)
      have := ones_sd n 0 (Nat.two_pow_pos n)
      rw [ones_zero] at this
      rw [Nat.zero_div, ← this]
    · rw [ones_pos h0, ones_sd n (x / 2) (by rw [Nat.pow_succ] at h; omega)]
      rfl
theorem and_split (a b k : Nat) : a &&& b = ((a % 2 ^ k) &&& (b % 2 ^ k)) + 2 ^ k * ((a / 2 ^ k) &&& (b / 2 ^ k)) := by
  rw [← Nat.and_mod_two_pow, ← Nat.and_div_two_pow]
  exact (Nat.mod_add_div _ _).symm
theorem and_evd (k : Nat) : ∀ (n y : Nat), y &&& evm (2 ^ k) n = evd (2 ^ k) n y
  | 0, y => by simp [evm, evd]
  | n + 1, y => by
    have hp := Nat.two_pow_pos k
    have e2 : (2 ^ k * 2 ^ k : Nat) = 2 ^ (k + k) := (Nat.pow_add 2 k k).symm
    obtain ⟨B, hB⟩ : ∃ B, 2 ^ k = B := ⟨_, rfl⟩
    have ih := and_evd k n (y / 2 ^ (k + k))
    have hlt : 2 ^ k - 1 < 2 ^ (k + k) := by
      rw [← e2, hB]
      rw [hB] at hp
      have := Nat.le_mul_of_pos_left B hp
      omega
    show y &&& ((2 ^ k - 1) + 2 ^ k * 2 ^ k * evm (2 ^ k) n) = y % 2 ^ k + 2 ^ k * 2 ^ k * evd (2 ^ k) n (y / (2 ^ k * 2 ^ k))
    rw [e2, and_split y _ (k + k), Nat.add_mul_mod_self_left, Nat.mod_eq_of_lt hlt, Nat.add_mul_div_left _ _ (Nat.two_pow_pos _), Nat.div_eq_of_lt hlt, Nat.zero_add, ih, Nat.and_two_pow_sub_one_eq_mod]
    congr 1
    rw [Nat.pow_add]
    exact Nat.mod_mul_right_mod y (2 ^ k) (2 ^ k)
/-- both neighbours summed -/
def two (B n y : Nat) : Nat := evd B n (y / B) + evd B n y
theorem two_succ (B n y : Nat) : two B (n + 1) y = ((y / B) % B + y % B) + B * B * two B n (y / (B * B)) := by
  unfold two
  show (y / B % B + B * B * evd B n (y / B / (B * B))) + (y % B + B * B * evd B n (y / (B * B))) = _
  rw [Nat.div_div_eq_div_mul, Nat.mul_comm B (B * B), ← Nat.div_div_eq_div_mul, Nat.mul_add]
  omega
theorem sd_two (B : Nat) (hB : 2 ≤ B) : ∀ (n y : Nat), sd (B * B) n (two B n y) = sd B (2 * n) y
  | 0, y => rfl
  | n + 1, y => by
    have hp : 0 < B := by omega
    have h1 : y / B % B + y % B < B * B := by
      have a := Nat.mod_lt (y / B) hp
      have b := Nat.mod_lt y hp
      have : 2 * B ≤ B * B := Nat.mul_le_mul_right B hB
      omega
    show two B (n + 1) y % (B * B) + sd (B * B) n (two B (n + 1) y / (B * B)) = y % B + (y / B % B + sd B (2 * n) (y / B / B))
    rw [two_succ, Nat.add_mul_mod_self_left, Nat.mod_eq_of_lt h1, Nat.add_mul_div_left _ _ (Nat.mul_pos hp hp), Nat.div_eq_of_lt h1, Nat.zero_add, sd_two B hB n, Nat.div_div_eq_div_mul]
    omega
theorem dle_two (B c : Nat) (hB : 2 ≤ B) : ∀ (n y : Nat), dle B c (2 * n) y → dle (B * B) (c + c) n (two B n y)
  | 0, y, _ => trivial
  | n + 1, y, h => by
    have hp : 0 < B := by omega
    obtain ⟨d0, d1, d2⟩ : y % B ≤ c ∧ y / B % B ≤ c ∧ dle B c (2 * n) (y / B / B) := h
    have h1 : y / B % B + y % B < B * B := by
      have a := Nat.mod_lt (y / B) hp
      have b := Nat.mod_lt y hp
      have : 2 * B ≤ B * B := Nat.mul_le_mul_right B hB
      omega
    show two B (n + 1) y % (B * B) ≤ c + c ∧ dle (B * B) (c + c) n (two B (n + 1) y / (B * B))
    rw [two_succ, Nat.add_mul_mod_self_left, Nat.mod_eq_of_lt h1, Nat.add_mul_div_left _ _ (Nat.mul_pos hp hp), Nat.div_eq_of_lt h1, Nat.zero_add]
    rw [Nat.div_div_eq_div_mul] at d2
    exact ⟨by omega, dle_two B c hB n _ d2⟩
theorem dle_one (b : Nat) (hb : 0 < b) : ∀ (n y : Nat), dle b (b - 1) n y
  | 0, _ => trivial
  | n + 1, y => ⟨by have := Nat.mod_lt y hb; omega, dle_one b hb n _⟩
theorem two_lt (B : Nat) (hB : 2 ≤ B) : ∀ (n y : Nat), two B n y < (B * B) ^ n
  | 0, y => by simp [two, evd]
  | n + 1, y => by
    have hp : 0 < B := by omega
    have h1 : y / B % B + y % B < B * B := by
      have a := Nat.mod_lt (y / B) hp
      have b := Nat.mod_lt y hp
      have : 2 * B ≤ B * B := Nat.mul_le_mul_right B hB
      omega
    have ih := two_lt B hB n (y / (B * B))
    rw [two_succ, Nat.pow_succ]
    obtain ⟨Q, hQ⟩ : ∃ Q, B * B = Q := ⟨_, rfl⟩
    rw [hQ] at h1 ih ⊢
    generalize two B n (y / Q) = t at ih ⊢
    have : Q * t + Q ≤ Q * Q ^ n := by
      rw [← Nat.mul_succ]
      exact Nat.mul_le_mul_left Q ih
    rw [Nat.mul_comm (Q ^ n) Q]
    omega
/-- where no digit is carried, summed first and picked then is the same -/
theorem evd_sum (B : Nat) (hB : 0 < B) (c : Nat) (hc : c + c < B) : ∀ (n y : Nat), dle B c (2 * n) y → dle B c (2 * n) (y / B) → evd B n (y / B + y) = two B n y
  | 0, y, _, _ => rfl
  | n + 1, y, h, k => by
    obtain ⟨d0, d1, d2⟩ : y % B ≤ c ∧ y / B % B ≤ c ∧ dle B c (2 * n) (y / B / B) := h
    obtain ⟨k0, k1, k2⟩ : y / B % B ≤ c ∧ y / B / B % B ≤ c ∧ dle B c (2 * n) (y / B / B / B) := k
    have m1 : (y / B + y) % B = y / B % B + y % B := by
      rw [Nat.add_mod, Nat.mod_eq_of_lt (by omega)]
    have q1 : (y / B + y) / B = y / B / B + y / B := by
      rw [Nat.add_div hB, if_neg (by omega), Nat.add_zero]
    have q2 : (y / B + y) / (B * B) = y / (B * B) / B + y / (B * B) := by
      rw [← Nat.div_div_eq_div_mul, q1, Nat.add_div hB, if_neg (by omega), Nat.add_zero, Nat.div_div_eq_div_mul y B B]
    rw [two_succ]
    show (y / B + y) % B + B * B * evd B n ((y / B + y) / (B * B)) = _
    rw [m1, q2]
    rw [Nat.div_div_eq_div_mul] at d2
    rw [Nat.div_div_eq_div_mul y B B] at k2
    rw [evd_sum B hB c hc n _ d2 k2]
set_option maxHeartbeats 2000000 in
/-- the digits summed by shifts -/
theorem fold8 (y : Nat) (h : dle 256 8 8 y) (hl : y < 256 ^ 8) :
    (y + y / 256 + (y + y / 256) / 65536 + (y + y / 256 + (y + y / 256) / 65536) / 4294967296) % 128 = sd 256 8 y ∧ y + y / 256 + (y + y / 256) / 65536 + (y + y / 256 + (y + y / 256) / 65536) / 4294967296 < 9223372036854775808 := by
  obtain ⟨h0, h1, h2, h3, h4, h5, h6, h7, _⟩ := h
  have e : sd 256 8 y = y % 256 + (y / 256 % 256 + (y / 256 / 256 % 256 + (y / 256 / 256 / 256 % 256 + (y / 256 / 256 / 256 / 256 % 256 + (y / 256 / 256 / 256 / 256 / 256 % 256 + (y / 256 / 256 / 256 / 256 / 256 / 256 % 256 + (y / 256 / 256 / 256 / 256 / 256 / 256 / 256 % 256 + 0))))))) := rfl
  rw [e]
  generalize hd0 : y % 256 = d0 at *
  generalize hy1 : y / 256 = y1 at *
  generalize hd1 : y1 % 256 = d1 at *
  generalize hy2 : y1 / 256 = y2 at *
  generalize hd2 : y2 % 256 = d2 at *
  generalize hy3 : y2 / 256 = y3 at *
  generalize hd3 : y3 % 256 = d3 at *
  generalize hy4 : y3 / 256 = y4 at *
  generalize hd4 : y4 % 256 = d4 at *
  generalize hy5 : y4 / 256 = y5 at *
  generalize hd5 : y5 % 256 = d5 at *
  generalize hy6 : y5 / 256 = y6 at *
  generalize hd6 : y6 % 256 = d6 at *
  generalize hy7 : y6 / 256 = y7 at *
  generalize hd7 : y7 % 256 = d7 at *
  have hy7l : y7 < 256 := by omega
  have g7 : y7 = d7 := by omega
  have g6 : y6 = d6 + 256 * d7 := by omega
  have g5 : y5 = d5 + 256 * d6 + 65536 * d7 := by omega
  have g4 : y4 = d4 + 256 * d5 + 65536 * d6 + 16777216 * d7 := by omega
  have g3 : y3 = d3 + 256 * d4 + 65536 * d5 + 16777216 * d6 + 4294967296 * d7 := by omega
  have g2 : y2 = d2 + 256 * d3 + 65536 * d4 + 16777216 * d5 + 4294967296 * d6 + 1099511627776 * d7 := by omega
  have g1 : y1 = d1 + 256 * d2 + 65536 * d3 + 16777216 * d4 + 4294967296 * d5 + 1099511627776 * d6 + 281474976710656 * d7 := by omega
  have g0 : y = d0 + 256 * d1 + 65536 * d2 + 16777216 * d3 + 4294967296 * d4 + 1099511627776 * d5 + 281474976710656 * d6 + 72057594037927936 * d7 := by omega
  obtain ⟨z, hz⟩ : ∃ z, y + y1 = z := ⟨_, rfl⟩
  rw [hz]
  have z0 : z = (d0 + d1) + 256 * (d1 + d2) + 65536 * (d2 + d3) + 16777216 * (d3 + d4) + 4294967296 * (d4 + d5) + 1099511627776 * (d5 + d6) + 281474976710656 * (d6 + d7) + 72057594037927936 * d7 := by omega
  have z1 : z / 65536 = (d2 + d3) + 256 * (d3 + d4) + 65536 * (d4 + d5) + 16777216 * (d5 + d6) + 4294967296 * (d6 + d7) + 1099511627776 * d7 := by
    clear g0 g1 g2 g3 g4 g5 g6 g7 hd0 hd1 hd2 hd3 hd4 hd5 hd6 hd7 hy1 hy2 hy3 hy4 hy5 hy6 hy7 hl hy7l hz e
    omega
  obtain ⟨u, hu⟩ : ∃ u, z + z / 65536 = u := ⟨_, rfl⟩
  rw [hu]
  have u0 : u = (d0 + d1 + d2 + d3) + 256 * (d1 + d2 + d3 + d4) + 65536 * (d2 + d3 + d4 + d5) + 16777216 * (d3 + d4 + d5 + d6) + 4294967296 * (d4 + d5 + d6 + d7) + 1099511627776 * (d5 + d6 + d7) + 281474976710656 * (d6 + d7) + 72057594037927936 * d7 := by omega
  have u1 : u / 4294967296 = (d4 + d5 + d6 + d7) + 256 * (d5 + d6 + d7) + 65536 * (d6 + d7) + 16777216 * d7 := by
    clear g0 g1 g2 g3 g4 g5 g6 g7 hd0 hd1 hd2 hd3 hd4 hd5 hd6 hd7 hy1 hy2 hy3 hy4 hy5 hy6 hy7 hl hy7l hz z0 z1 hu e
    omega
  clear g0 g1 g2 g3 g4 g5 g6 g7 hd0 hd1 hd2 hd3 hd4 hd5 hd6 hd7 hy1 hy2 hy3 hy4 hy5 hy6 hy7 hl hy7l hz z0 z1 hu e
  rw [u1, u0]
  constructor <;> omega
set_option maxHeartbeats 2000000 in
/-- what the library computes -/
theorem pop64 (x : Nat) (h : x < 18446744073709551616) : ∃ a b c, a = two 2 32 x ∧ b = two 4 16 a ∧ c = two 16 8 b ∧ evd 16 8 (b / 16 + b) = c ∧ a < 18446744073709551616 ∧ b < 18446744073709551616 ∧ b / 16 + b < 18446744073709551616 ∧ c < 18446744073709551616 ∧
    c + c / 256 < 18446744073709551616 ∧ c + c / 256 + (c + c / 256) / 65536 < 18446744073709551616 ∧ c + c / 256 + (c + c / 256) / 65536 + (c + c / 256 + (c + c / 256) / 65536) / 4294967296 < 9223372036854775808 ∧
    (c + c / 256 + (c + c / 256) / 65536 + (c + c / 256 + (c + c / 256) / 65536) / 4294967296) % 128 = ones x := by
  have d1 := dle_two 2 1 (by omega) 32 x (dle_one 2 (by omega) 64 x)
  rw [show 2 * 2 = 4 from rfl, show 1 + 1 = 2 from rfl] at d1
  have d2 := dle_two 4 2 (by omega) 16 (two 2 32 x) d1
  rw [show 4 * 4 = 16 from rfl, show 2 + 2 = 4 from rfl] at d2
  have d3 := dle_two 16 4 (by omega) 8 (two 4 16 (two 2 32 x)) d2
  rw [show 16 * 16 = 256 from rfl, show 4 + 4 = 8 from rfl] at d3
  have l1 := two_lt 2 (by omega) 32 x
  rw [show (2 * 2 : Nat) ^ 32 = 18446744073709551616 by decide] at l1
  have l2 := two_lt 4 (by omega) 16 (two 2 32 x)
  rw [show (4 * 4 : Nat) ^ 16 = 18446744073709551616 by decide] at l2
  have l3 := two_lt 16 (by omega) 8 (two 4 16 (two 2 32 x))
  rw [show (16 * 16 : Nat) ^ 8 = 18446744073709551616 by decide] at l3
  have s1 := sd_two 2 (by omega) 32 x
  rw [show 2 * 2 = 4 from rfl, show 2 * 32 = 64 from rfl] at s1
  have s2 := sd_two 4 (by omega) 16 (two 2 32 x)
  rw [show 4 * 4 = 16 from rfl, show 2 * 16 = 32 from rfl] at s2
  have s3 := sd_two 16 (by omega) 8 (two 4 16 (two 2 32 x))
  rw [show 16 * 16 = 256 from rfl, show 2 * 8 = 16 from rfl] at s3
  have hs := ones_sd 64 x (by rw [show (2 : Nat) ^ 64 = 18446744073709551616 by decide]; exact h)
  obtain ⟨a, ha⟩ : ∃ a, two 2 32 x = a := ⟨_, rfl⟩
  rw [ha] at d1 d2 d3 l1 l2 l3 s1 s2 s3
  obtain ⟨b, hb⟩ : ∃ b, two 4 16 a = b := ⟨_, rfl⟩
  rw [hb] at d2 d3 l2 l3 s2 s3
  obtain ⟨c, hc⟩ : ∃ c, two 16 8 b = c := ⟨_, rfl⟩
  rw [hc] at d3 l3 s3
  have hb1 : dle 16 4 16 (b / 16) := by
    obtain ⟨_, e1, e2, e3, e4, e5, e6, e7, e8, e9, e10, e11, e12, e13, e14, e15, _⟩ := d2
    refine ⟨e1, e2, e3, e4, e5, e6, e7, e8, e9, e10, e11, e12, e13, e14, e15, ?_, trivial⟩
    have : b / 16 / 16 / 16 / 16 / 16 / 16 / 16 / 16 / 16 / 16 / 16 / 16 / 16 / 16 / 16 / 16 = 0 := by
      simp only [Nat.div_div_eq_div_mul]
      exact Nat.div_eq_of_lt (by omega)
    rw [this]
    decide
  have he := evd_sum 16 (by omega) 4 (by omega) 8 b d2 hb1
  rw [hc] at he
  have F := fold8 c d3 (by rw [show (256 : Nat) ^ 8 = 18446744073709551616 by decide]; exact l3)
  have hb15 : b / 16 + b < 18446744073709551616 := by
    clear d3 l3 s1 s2 s3 hs hb hc ha he F l1 d1 hb1
    have : b / 16 / 16 / 16 / 16 / 16 / 16 / 16 / 16 / 16 / 16 / 16 / 16 / 16 / 16 / 16 % 16 ≤ 4 := d2.2.2.2.2.2.2.2.2.2.2.2.2.2.2.2.1
    simp only [Nat.div_div_eq_div_mul] at this
    omega
  refine ⟨a, b, c, ha.symm, hb.symm, hc.symm, he, l1, l2, hb15, l3, by omega, by omega, F.2, ?_⟩
  rw [F.1, hs]
  exact (s3.trans (s2.trans s1))
end Go.Proofs.YtfccpfmgkpcnoaaDoor.Da
namespace Go.Proofs.YtfccpfmgkpcnoaaDoor
open Go.RowKit
set_option linter.unusedVariables false
set_option linter.unusedSimpArgs false
theorem u64_and (a b : Nat) (ha : a < 18446744073709551616) (hb : b < 18446744073709551616) : bits .and .u64 (a : Int) (b : Int) = ((a &&& b : Nat) : Int) :=
  (bits_nat .u64 64 (by decide) (fun n h0 h1 => by rw [IntKind.wrap_u64]; omega) _ _ ha hb).1
theorem pop_evm1 : Da.evm 2 32 = 6148914691236517205 := by decide +kernel
theorem pop_evm2 : Da.evm 4 16 = 3689348814741910323 := by decide +kernel
theorem pop_evm4 : Da.evm 16 8 = 1085102592571150095 := by decide +kernel
theorem pop_and1 (y : Nat) (h : y < 18446744073709551616) : bits .and .u64 (y : Int) 6148914691236517205 = ((Da.evd 2 32 y : Nat) : Int) := by
  have := u64_and y 6148914691236517205 h (by decide)
  rw [show ((6148914691236517205 : Nat) : Int) = 6148914691236517205 from rfl] at this
  rw [this, ← pop_evm1, show Da.evm 2 32 = Da.evm (2 ^ 1) 32 from rfl, Da.and_evd 1 32 y]
theorem pop_and2 (y : Nat) (h : y < 18446744073709551616) : bits .and .u64 (y : Int) 3689348814741910323 = ((Da.evd 4 16 y : Nat) : Int) := by
  have := u64_and y 3689348814741910323 h (by decide)
  rw [show ((3689348814741910323 : Nat) : Int) = 3689348814741910323 from rfl] at this
  rw [this, ← pop_evm2, show Da.evm 4 16 = Da.evm (2 ^ 2) 16 from rfl, Da.and_evd 2 16 y]
theorem pop_and4 (y : Nat) (h : y < 18446744073709551616) : bits .and .u64 (y : Int) 1085102592571150095 = ((Da.evd 16 8 y : Nat) : Int) := by
  have := u64_and y 1085102592571150095 h (by decide)
  rw [show ((1085102592571150095 : Nat) : Int) = 1085102592571150095 from rfl] at this
  rw [this, ← pop_evm4, show Da.evm 16 8 = Da.evm (2 ^ 4) 8 from rfl, Da.and_evd 4 8 y]
theorem pop_low (y : Nat) (h : y < 9223372036854775808) : bits .and .i64 (y : Int) 127 = ((y % 128 : Nat) : Int) := by
  have := (bits_nat .i64 63 (by decide) (fun n h0 h1 => by rw [IntKind.wrap_i64]; omega) y 127 h (by decide)).1
  rw [show ((127 : Nat) : Int) = 127 from rfl] at this
  rw [this, show (127 : Nat) = 2 ^ 7 - 1 from rfl, Nat.and_two_pow_sub_one_eq_mod]
set_option maxHeartbeats 2000000 in
set_option maxRecDepth 100000 in
theorem ones64_any (x : Nat) (h : x < 9223372036854775808) (w : World) :
    Calls Tryd.prog 52 #[.int .u64 (x : Int)] w fun e w' => e = .returned (.int .i64 ((Da.ones x : Nat) : Int)) ∧ w' = w := by
  obtain ⟨a, b, c, ha, hb, hc, he, la, lb, lb2, lc, l1, l2, l3, hr⟩ := Da.pop64 x (by omega)
  unfold Da.two at ha hb hc
  have a1 := pop_and1 (x / 2) (by omega)
  have a2 := pop_and1 x (by omega)
  have b1 := pop_and2 (a / 4) (by omega)
  have b2 := pop_and2 a la
  have c1 := pop_and4 (b / 16 + b) lb2
  rw [he] at c1
  obtain ⟨g, hg⟩ : ∃ g, b / 16 + b = g := ⟨_, rfl⟩
  obtain ⟨d, hd⟩ : ∃ d, c + c / 256 = d := ⟨_, rfl⟩
  rw [hg] at c1 lb2
  rw [hd] at l1 l2 l3 hr
  obtain ⟨e, hee⟩ : ∃ e, d + d / 65536 = e := ⟨_, rfl⟩
  rw [hee] at l2 l3 hr
  obtain ⟨f, hf⟩ : ∃ f, e + e / 4294967296 = f := ⟨_, rfl⟩
  rw [hf] at l3 hr
  have f1 := pop_low f l3
  rw [hr] at f1
  obtain ⟨u1, hu1⟩ : ∃ u, Da.evd 2 32 (x / 2) = u := ⟨_, rfl⟩
  obtain ⟨u2, hu2⟩ : ∃ u, Da.evd 2 32 x = u := ⟨_, rfl⟩
  obtain ⟨u3, hu3⟩ : ∃ u, Da.evd 4 16 (a / 4) = u := ⟨_, rfl⟩
  obtain ⟨u4, hu4⟩ : ∃ u, Da.evd 4 16 a = u := ⟨_, rfl⟩
  rw [hu1] at a1 ha
  rw [hu2] at a2 ha
  rw [hu3] at b1 hb
  rw [hu4] at b2 hb
  have x1 : (x : Int) / 2 = ((x / 2 : Nat) : Int) := by omega
  have x2 : (a : Int) / 4 = ((a / 4 : Nat) : Int) := by omega
  rw [← x1] at a1
  rw [← x2] at b1
  have w1 : IntKind.u64.wrap ((u1 : Int) + (u2 : Int)) = (a : Int) := by rw [IntKind.wrap_u64]; omega
  have w2 : IntKind.u64.wrap ((u3 : Int) + (u4 : Int)) = (b : Int) := by rw [IntKind.wrap_u64]; omega
  have w3 : IntKind.u64.wrap ((b : Int) / 16 + (b : Int)) = (g : Int) := by rw [IntKind.wrap_u64]; omega
  have w4 : IntKind.u64.wrap ((c : Int) + (c : Int) / 256) = (d : Int) := by rw [IntKind.wrap_u64]; omega
  have w5 : IntKind.u64.wrap ((d : Int) + (d : Int) / 65536) = (e : Int) := by rw [IntKind.wrap_u64]; omega
  have w6 : IntKind.u64.wrap ((e : Int) + (e : Int) / 4294967296) = (f : Int) := by rw [IntKind.wrap_u64]; omega
  have w7 : IntKind.i64.wrap (f : Int) = (f : Int) := by rw [IntKind.wrap_i64]; omega
  clear ha hb hc he la lb lb2 lc l1 l2 hr hg hd hee hf hu1 hu2 hu3 hu4 x1 x2
  go_enter Tryd.func52, Tryd.ntmps52
  go_wp2_with fail
  go_ret
  exact ⟨rfl, rfl⟩
set_option maxRecDepth 100000 in
theorem ones_any (x : Nat) (h : x < 9223372036854775808) (w : World) :
    Calls Tryd.prog 33 #[.int .u64 (x : Int)] w fun e w' => e = .returned (.int .i64 ((Da.ones x : Nat) : Int)) ∧ w' = w := by
  have H := Lib.hid (ones64_any x h w)
  go_enter Tryd.func33, Tryd.ntmps33
  go_wp2_with fail
  refine H.out.mono ?_
  rintro e w1 ⟨rfl, rfl⟩
  go_wp2_with fail
  go_ret
  exact ⟨rfl, rfl⟩
end Go.Proofs.YtfccpfmgkpcnoaaDoor
