/- Contracts of the functions of package field that compute with numbers alone. The document's own product (package baileeref01) is the field's. Contracts of field.turn, Pow and Exp. The table that field.Make makes. A table in memory, and its products. Contract of a table's Div. Contracts of field.Inv and field.Div. Contracts of a table's other methods, and of field.Div. -/
import Derived.Test.YtgifbpjmblemhaaGreatDoorRows
import Derived.Test.YtgifbpjmblemhaaGreatDoorGf
import Derived.WalkKit
import Derived.ProofKit
import Derived.OpenShut
import Derived.Laws.BitsAllLaws
import Derived.Lib.Hide
import Derived.RegionTactic
import Derived.Outline
import Derived.Deep.QuietTactic
import Derived.BigQuiet
import Derived.ChangeAlike
namespace Go.Proofs.YtgifbpjmblemhaaGreatDoor
open Go.RowKit
set_option linter.unusedVariables false
theorem ret_int {k : IntKind} {a b : Int} (h : a = b) : Ending.returned (.int k a) = .returned (.int k b) := by rw [h]

namespace Gf
theorem and_128 (a : Nat) (ha : a < 256) : a &&& 128 = if a < 128 then 0 else 128 := by
  have h : (List.range 256).all (fun a => a &&& 128 == if a < 128 then 0 else 128) = true := by decide +kernel
  simpa using all_of h a ha
theorem and_1 (a : Nat) : a &&& 1 = a % 2 := Nat.and_two_pow_sub_one_eq_mod a 1
end Gf

theorem double_any (a : Nat) (ha : a < 256) (w : World) :
    Calls Tryz.prog 67 #[.int .u8 (a : Int)] w fun e w' => e = .returned (.int .u8 (Gf.dbl a : Nat)) ∧ w = w' := by
  have hb : bits .and .u8 (a : Int) 128 = ((a &&& 128 : Nat) : Int) := u8_and_nat a 128 ha (by decide)
  rw [Gf.and_128 a ha] at hb
  by_cases h : a < 128
  · rw [if_pos h] at hb
    have hc : (bits .and .u8 (a : Int) 128 != 0) = false := by rw [hb]; rfl
    clear hb
    have hd : Gf.dbl a = 2 * a := by unfold Gf.dbl; rw [if_pos h]
    have HD := Lib.hid hd
    clear hd
    go_enter Tryz.func67, Tryz.ntmps67
    go_wp2
    go_ret
    exact ⟨ret_int (by rw [HD.out]; omega), rfl⟩
  · rw [if_neg h] at hb
    have hc : (bits .and .u8 (a : Int) 128 != 0) = true := by rw [hb]; rfl
    clear hb
    have hx : bits .xor .u8 (IntKind.u8.wrap (a * 2)) 29 = (Gf.dbl a : Nat) := by
      have : IntKind.u8.wrap (a * 2) = ((2 * a - 256 : Nat) : Int) := by rw [IntKind.wrap_u8]; omega
      rw [this, show (29 : Int) = ((29 : Nat) : Int) from rfl, u8_xor_nat _ 29 (by omega) (by decide)]
      unfold Gf.dbl; rw [if_neg h]
    rw [IntKind.wrap_u8] at hx
    have HX := Lib.hid hx
    clear hx
    go_enter Tryz.func67, Tryz.ntmps67
    go_wp2
    go_ret
    exact ⟨ret_int (by rw [HX.out]), rfl⟩
theorem add_any (a b : Nat) (ha : a < 256) (hb : b < 256) (w : World) :
    Calls Tryz.prog 66 #[.int .u8 (a : Int), .int .u8 (b : Int)] w fun e w' => e = .returned (.int .u8 (a ^^^ b : Nat)) ∧ w = w' := by
  go_enter Tryz.func66, Tryz.ntmps66
  go_wp2
  go_ret
  exact ⟨ret_int (u8_xor_nat a b ha hb), rfl⟩

def MulAt (a b : Nat) (x y p : Value) : Prop :=
  ∃ k x' y' p' : Nat, x' < 256 ∧ y' < 256 ∧ p' < 256 ∧ y' < 2 ^ k ∧ Gf.mul a b = p' ^^^ Gf.mulN k x' y' ∧ x = .int .u8 x' ∧ y = .int .u8 y' ∧ p = .int .u8 p'
theorem mul_nat (a b : Nat) (ha : a < 256) (hb : b < 256) (w : World) :
    Calls Tryz.prog 85 #[.int .u8 (a : Int), .int .u8 (b : Int)] w fun e w' => e = .returned (.int .u8 (Gf.mul a b : Nat)) ∧ w = w' := by
  go_enter Tryz.func85, Tryz.ntmps85
  go_wp2
  go_loop [0, 1, 5] (fun x y p => MulAt a b x y p) (fun _ y _ => (intOf y).toNat)
  case atStart => exact ⟨8, a, b, 0, ha, hb, by decide, hb, by simp [Gf.mul], rfl, rfl, rfl⟩
  case round =>
    obtain ⟨k, x, y, p, hx, hy, hp, hk, hm, rfl, rfl, rfl⟩ := hrel
    have HM := Lib.hid hm
    clear hm
    by_cases h0 : y = 0
    · subst h0
      go_wp2
      go_ret
      exact ⟨ret_int (by rw [HM.out, Gf.mulN_zero_right]; simp), rfl⟩
    · have hne : ((y : Int) != 0) = true := by simpa using h0
      have hand : bits .and .u8 (y : Int) 1 = ((y % 2 : Nat) : Int) := by
        rw [← Gf.and_1]; exact u8_and_nat y 1 hy (by decide)
      obtain ⟨k, rfl⟩ : ∃ j, k = j + 1 := by
        cases k with
        | zero => omega
        | succ j => exact ⟨j, rfl⟩
      have hk2 : y / 2 < 2 ^ k := by rw [Nat.pow_succ] at hk; omega
      have hdl := Gf.dbl_lt x hx
      by_cases h1 : y % 2 = 1
      · have ht : (bits .and .u8 (y : Int) 1 == 1) = true := by rw [hand, h1]; rfl
        have hs : p ^^^ (x ^^^ Gf.mulN k (Gf.dbl x) (y / 2)) = (p ^^^ x) ^^^ Gf.mulN k (Gf.dbl x) (y / 2) := (Nat.xor_assoc _ _ _).symm
        have HS : Hid (Gf.mul a b = (p ^^^ x) ^^^ Gf.mulN k (Gf.dbl x) (y / 2)) := Lib.hid (by rw [← hs, HM.out, Gf.mulN, if_pos h1])
        have hpx := Gf.xor_lt hp hx
        have hbx : bits .xor .u8 (p : Int) (x : Int) = ((p ^^^ x : Nat) : Int) := u8_xor_nat p x hp hx
        have HB := Lib.hid hbx
        clear hand hs hbx h1
        go_wp2_with (go_at_call 67; refine (double_any x hx _).mono ?_; rintro e w' ⟨rfl, rfl⟩)
        go_round
        case rel => exact ⟨k, Gf.dbl x, y / 2, p ^^^ x, hdl, by omega, hpx, hk2, HS.out, rfl, by go_num, by rw [HB.out]⟩
        case measure => simp [intOf]; omega
      · have ht : (bits .and .u8 (y : Int) 1 == 1) = false := by rw [hand, show y % 2 = 0 by omega]; rfl
        have HS : Hid (Gf.mul a b = p ^^^ Gf.mulN k (Gf.dbl x) (y / 2)) := Lib.hid (by rw [HM.out, Gf.mulN, if_neg h1, Nat.zero_xor])
        clear hand h1
        go_wp2_with (go_at_call 67; refine (double_any x hx _).mono ?_; rintro e w' ⟨rfl, rfl⟩)
        go_round
        case rel => exact ⟨k, Gf.dbl x, y / 2, p, hdl, by omega, hp, hk2, HS.out, rfl, by go_num, rfl⟩
        case measure => simp [intOf]; omega

theorem mul_any (a b : Int) (ha0 : 0 ≤ a) (ha : a < 256) (hb0 : 0 ≤ b) (hb : b < 256) (w : World) :
    Calls Tryz.prog 85 #[.int .u8 a, .int .u8 b] w fun e w' => e = .returned (.int .u8 (Gf.mul a.toNat b.toNat : Nat)) ∧ w = w' := by
  obtain ⟨a, rfl⟩ := Int.eq_ofNat_of_zero_le ha0
  obtain ⟨b, rfl⟩ := Int.eq_ofNat_of_zero_le hb0
  exact mul_nat a b (by omega) (by omega) w

end Go.Proofs.YtgifbpjmblemhaaGreatDoor
namespace Go.Proofs.YtgifbpjmblemhaaGreatDoor
open Go.RowKit
set_option linter.unusedVariables false
namespace Gf
/-- one bit's part of a sum -/
def part (b i x : Nat) : Nat := if b.testBit i then x else 0
/-- the product of two polynomials, after n bits -/
def cl (a b : Nat) : Nat → Nat
  | 0 => 0
  | n + 1 => cl a b n ^^^ part b n (a * 2 ^ n)
/-- the rest, from bit 7 + n down -/
def rd : Nat → Nat → Nat
  | 0, p => p
  | n + 1, p => rd n (p ^^^ part p (8 + n) (285 * 2 ^ n))
theorem part_xor (p q i x : Nat) : part (p ^^^ q) i x = part p i x ^^^ part q i x := by
  unfold part
  rw [Nat.testBit_xor]
  cases p.testBit i <;> cases q.testBit i <;> simp
theorem rd_xor (n p q : Nat) : rd n (p ^^^ q) = rd n p ^^^ rd n q := by
  induction n generalizing p q with
  | zero => rfl
  | succ n ih =>
    unfold rd
    rw [part_xor, ← ih]
    congr 1
    ac_rfl
theorem rd_zero (n : Nat) : rd n 0 = 0 := by
  induction n with
  | zero => rfl
  | succ n ih => unfold rd; simp [part, ih]
theorem rd_part (n b i x : Nat) : rd n (part b i x) = part b i (rd n x) := by
  unfold part
  split
  · rfl
  · exact rd_zero n
theorem dbls_succ (n a : Nat) : dbls n (dbl a) = dbls (n + 1) a := by
  induction n with
  | zero => rfl
  | succ n ih => rw [dbls, ih]; rfl
theorem mulN_succ (n a b : Nat) : mulN (n + 1) a b = mulN n a b ^^^ part b n (dbls n a) := by
  induction n generalizing a b with
  | zero =>
    simp only [mulN, part, dbls, Nat.testBit_zero, Nat.xor_zero, Nat.zero_xor, decide_eq_true_eq]
  | succ n ih =>
    rw [mulN, ih, mulN, dbls_succ, ← Nat.xor_assoc]
    unfold part
    rw [Nat.testBit_succ]
theorem rd_dbls (a n : Nat) (ha : a < 256) (hn : n < 8) : rd 7 (a * 2 ^ n) = dbls n a := by
  have h : (List.range 8).all (fun n => (List.range 256).all fun a => rd 7 (a * 2 ^ n) == dbls n a) = true := by decide +kernel
  simpa using all_of (all_of h n hn) a ha
theorem rd_cl (a b n : Nat) (ha : a < 256) (hn : n ≤ 8) : rd 7 (cl a b n) = mulN n a b := by
  induction n with
  | zero => exact rd_zero 7
  | succ n ih => rw [cl, rd_xor, rd_part, rd_dbls a n ha (by omega), ih (by omega), mulN_succ]
theorem cl_rd (a b : Nat) (ha : a < 256) : rd 7 (cl a b 8) = mul a b := rd_cl a b 8 ha (Nat.le_refl _)
theorem part_lt (b i x m : Nat) (h : x < 2 ^ m) : part b i x < 2 ^ m := by
  unfold part
  split
  · exact h
  · exact Nat.two_pow_pos m
theorem shift_lt (a n : Nat) (ha : a < 512) (hn : n < 8) : a * 2 ^ n < 2 ^ 16 := by
  have h1 : 2 ^ n ≤ 2 ^ 7 := Nat.pow_le_pow_right (by decide) (by omega)
  have h2 : a * 2 ^ n ≤ 511 * 2 ^ 7 := Nat.mul_le_mul (by omega) h1
  omega
theorem cl_lt (a b n : Nat) (ha : a < 256) (hn : n ≤ 8) : cl a b n < 2 ^ 16 := by
  induction n with
  | zero => exact Nat.two_pow_pos 16
  | succ n ih => exact Nat.xor_lt_two_pow (ih (by omega)) (part_lt _ _ _ _ (shift_lt a n (by omega) (by omega)))
theorem bit_test (b i : Nat) : (((b : Int) / 2 ^ i).tmod 2 == 1) = b.testBit i := by
  have h : ((b : Int) / 2 ^ i).tmod 2 = ((b / 2 ^ i % 2 : Nat) : Int) := by
    rw [show ((b : Int) / 2 ^ i) = ((b / 2 ^ i : Nat) : Int) by simp]
    rfl
  rw [h, Nat.testBit_eq_decide_div_mod_eq, Bool.eq_iff_iff]
  simp only [beq_iff_eq, decide_eq_true_eq]
  omega
theorem shl_int (a i : Nat) : (a : Int) * 2 ^ i = ((a * 2 ^ i : Nat) : Int) := by simp
theorem xor64 (p q : Nat) (hp : p < 2 ^ 16) (hq : q < 2 ^ 16) : bits .xor .i64 (p : Int) (q : Int) = ((p ^^^ q : Nat) : Int) := by
  have hx : p ^^^ q < 2 ^ 16 := Nat.xor_lt_two_pow hp hq
  have hp' : p % 2 ^ IntKind.i64.bits = p := Nat.mod_eq_of_lt (by show p < 2 ^ 64; omega)
  have hq' : q % 2 ^ IntKind.i64.bits = q := Nat.mod_eq_of_lt (by show q < 2 ^ 64; omega)
  simp only [bits, BitVec.ofInt_natCast, BitVec.toNat_xor, BitVec.toNat_ofNat, hp', hq']
  rw [IntKind.wrap_i64]
  omega
end Gf
def ClAt (a b : Nat) (p i : Value) : Prop := ∃ i' : Nat, i' ≤ 8 ∧ p = .int .i64 (Gf.cl a b i' : Nat) ∧ i = .int .i64 i'
def RdAt (a b : Nat) (p i : Value) : Prop := ∃ p' n : Nat, n ≤ 7 ∧ p' < 65536 ∧ Gf.rd n p' = Gf.mul a b ∧ p = .int .i64 p' ∧ i = .int .i64 ((n : Int) + 7)
set_option maxHeartbeats 1000000 in
theorem rmul_nat (a b : Nat) (ha : a < 256) (hb : b < 256) (w : World) :
    Calls Tryz.prog 45 #[.int .u8 (a : Int), .int .u8 (b : Int)] w fun e w' => e = .returned (.int .u8 (Gf.mul a b : Nat)) ∧ w = w' := by
  have hmul := Gf.mul_lt a b ha
  go_enter Tryz.func45, Tryz.ntmps45
  go_wp2
  go_loop [5, 6] (fun p i => ClAt a b p i) (fun _ i => 8 - (intOf i).toNat)
  case atStart => exact ⟨0, by decide, rfl, rfl⟩
  case round =>
    obtain ⟨i, hi, rfl, rfl⟩ := hrel
    have hp := Gf.cl_lt a b i ha hi
    by_cases hlt : i < 8
    · have hs := Gf.shift_lt a i (by omega) hlt
      have ht := Gf.bit_test b i
      have hw : wrap64 ((a : Int) * 2 ^ i) = ((a * 2 ^ i : Nat) : Int) := by rw [Gf.shl_int]; exact IntWalk.wrap64_in _ ⟨by omega, by omega⟩
      have HX : Hid (bits .xor .i64 (Gf.cl a b i : Nat) (wrap64 ((a : Int) * 2 ^ i)) = ((Gf.cl a b i ^^^ (a * 2 ^ i) : Nat) : Int)) := Lib.hid (by rw [hw]; exact Gf.xor64 _ _ hp hs)
      clear hw
      by_cases hbit : b.testBit i = true
      · rw [hbit] at ht
        have HN : Hid (Gf.cl a b (i + 1) = Gf.cl a b i ^^^ (a * 2 ^ i)) := Lib.hid (by simp [Gf.cl, Gf.part, hbit])
        clear hbit hs
        go_wp2
        go_round
        case rel => exact ⟨i + 1, by omega, by rw [HX.out, HN.out], by go_num⟩
        case measure => simp [intOf]; omega
      · have hbf : b.testBit i = false := by simpa using hbit
        rw [hbf] at ht
        have HN : Hid (Gf.cl a b (i + 1) = Gf.cl a b i) := Lib.hid (by simp [Gf.cl, Gf.part, hbf])
        clear hbit hbf hs
        go_wp2
        go_round
        case rel => exact ⟨i + 1, by omega, by rw [HN.out], by go_num⟩
        case measure => simp [intOf]; omega
    · obtain rfl : i = 8 := by omega
      have HR := Lib.hid (Gf.cl_rd a b ha)
      generalize hc : Gf.cl a b 8 = c0 at *
      clear hc
      go_wp2
      go_loop [5, 7] (fun p i => RdAt a b p i) (fun _ i => (intOf i).toNat - 7)
      case atStart => exact ⟨_, 7, by decide, hp, HR.out, rfl, rfl⟩
      case round =>
        obtain ⟨p, n, hn, hp2, hr, rfl, rfl⟩ := hrel
        have HQ := Lib.hid hr
        clear hr
        by_cases h0 : n = 0
        · subst h0
          have hpe : (p : Int) = (Gf.mul a b : Nat) := by have h := HQ.out; simp only [Gf.rd] at h; rw [h]
          have HE := Lib.hid hpe
          have hp3 : (p : Int) < 256 := by omega
          clear hpe
          go_wp2
          go_ret
          exact ⟨ret_int HE.out, rfl⟩
        · obtain ⟨m, rfl⟩ : ∃ m, n = m + 1 := ⟨n - 1, by omega⟩
          have hs := Gf.shift_lt 285 m (by omega) (by omega)
          have ht := Gf.bit_test p (m + 1 + 7)
          have hw : wrap64 ((285 : Int) * 2 ^ m) = ((285 * 2 ^ m : Nat) : Int) := by rw [show ((285 : Int) * 2 ^ m) = ((285 * 2 ^ m : Nat) : Int) by simp]; exact IntWalk.wrap64_in _ ⟨by omega, by omega⟩
          have HX : Hid (bits .xor .i64 (p : Int) (wrap64 ((285 : Int) * 2 ^ m)) = ((p ^^^ (285 * 2 ^ m) : Nat) : Int)) := Lib.hid (by rw [hw]; exact Gf.xor64 _ _ hp2 hs)
          have hpx : p ^^^ (285 * 2 ^ m) < 65536 := Nat.xor_lt_two_pow (n := 16) hp2 hs
          have hm8 : 8 + m = m + 1 + 7 := by omega
          clear hw
          by_cases hbit : p.testBit (m + 1 + 7) = true
          · rw [hbit] at ht
            have HN : Hid (Gf.rd m (p ^^^ (285 * 2 ^ m)) = Gf.mul a b) := Lib.hid (by rw [← HQ.out, Gf.rd, hm8, Gf.part, if_pos hbit])
            clear hbit hs hm8
            go_wp2
            go_round
            case rel => exact ⟨_, m, by omega, hpx, HN.out, by rw [HX.out], by go_num⟩
            case measure => simp [intOf]; omega
          · have hbf : p.testBit (m + 1 + 7) = false := by simpa using hbit
            rw [hbf] at ht
            have HN : Hid (Gf.rd m p = Gf.mul a b) := Lib.hid (by rw [← HQ.out, Gf.rd, hm8, Gf.part, if_neg hbit, Nat.xor_zero])
            clear hbit hbf hs hm8
            go_wp2
            go_round
            case rel => exact ⟨p, m, by omega, hp2, HN.out, rfl, by go_num⟩
            case measure => simp [intOf]; omega
end Go.Proofs.YtgifbpjmblemhaaGreatDoor
namespace Go.Proofs.YtgifbpjmblemhaaGreatDoor
open Go.RowKit
set_option linter.unusedVariables false
namespace Gf
/-- Go's answer to a power: any number, any exponent -/
def powI (a : Nat) (n : Int) : Nat := if a = 0 then (if n = 0 then 1 else 0) else pw a (n % 255).toNat
theorem powI_lt (a : Nat) (n : Int) : powI a n < 256 := by
  unfold powI
  split
  · split <;> omega
  · exact pw_lt _ _
end Gf

theorem turn_any (n : Int) (w : World) :
    Calls Tryz.prog 69 #[.int .i64 n] w fun e w' => e = .returned (.int .i64 (n % 255)) ∧ w = w' := by
  by_cases h0 : 0 ≤ n
  · have h1 : 0 ≤ n % 255 := by omega
    go_enter Tryz.func69, Tryz.ntmps69
    go_wp2
    go_ret
    exact ⟨rfl, rfl⟩
  · obtain ⟨m, rfl⟩ : ∃ m : Int, n = -m := ⟨-n, by omega⟩
    have ht : (-m).tmod 255 = - (m % 255) := by rw [Int.neg_tmod, Int.tmod_eq_emod_of_nonneg (by omega)]
    by_cases h2 : m % 255 = 0
    · have hlo : 0 ≤ (-m).tmod 255 := by omega
      have HT : Hid ((-m).tmod 255 = (-m) % 255) := Lib.hid (by rw [ht]; omega)
      clear ht
      go_enter Tryz.func69, Tryz.ntmps69
      go_wp2
      go_ret
      exact ⟨ret_int (by omega), rfl⟩
    · have hlo : (-m).tmod 255 < 0 := by omega
      have hlo2 : -255 < (-m).tmod 255 := by omega
      have HT : Hid ((-m).tmod 255 + 255 = (-m) % 255) := Lib.hid (by rw [ht]; omega)
      clear ht
      go_enter Tryz.func69, Tryz.ntmps69
      go_wp2
      go_ret
      exact ⟨ret_int (by omega), rfl⟩

theorem powOfZero_any (n : Int) (w : World) :
    Calls Tryz.prog 100 #[.int .i64 n] w fun e w' => e = .returned (.int .u8 (Gf.powI 0 n : Nat)) ∧ w = w' := by
  by_cases h : n = 0
  · subst h
    go_enter Tryz.func100, Tryz.ntmps100
    go_wp2
    go_ret
    exact ⟨ret_int (by simp [Gf.powI]), rfl⟩
  · have hb : (n == 0) = false := by simpa using h
    have HP : Hid ((Gf.powI 0 n : Nat) = 0) := Lib.hid (by simp [Gf.powI, h])
    go_enter Tryz.func100, Tryz.ntmps100
    go_wp2
    go_ret
    exact ⟨ret_int (by rw [HP.out]; rfl), rfl⟩

def PowAt (a L : Nat) (x p l : Value) : Prop :=
  ∃ x' p' l' : Nat, x' < 256 ∧ p' < 256 ∧ l' < 255 ∧ Gf.mul p' (Gf.pw x' l') = Gf.pw a L ∧ x = .int .u8 x' ∧ p = .int .u8 p' ∧ l = .int .i64 l'
theorem pow_nat (a : Nat) (n : Int) (ha : a < 256) (w : World) :
    Calls Tryz.prog 99 #[.int .u8 (a : Int), .int .i64 n] w fun e w' => e = .returned (.int .u8 (Gf.powI a n : Nat)) ∧ w = w' := by
  by_cases h0 : a = 0
  · subst h0
    go_enter Tryz.func99, Tryz.ntmps99
    go_wp2_with (go_at_call 100; refine (powOfZero_any n _).mono ?_; rintro e w' ⟨rfl, rfl⟩)
    go_ret
    exact ⟨rfl, rfl⟩
  · have hz : ((a : Int) == 0) = false := by simpa using h0
    have HP : Hid (Gf.powI a n = Gf.pw a (n % 255).toNat) := Lib.hid (by unfold Gf.powI; rw [if_neg h0])
    have hm : 0 ≤ n % 255 ∧ n % 255 < 255 := by omega
    obtain ⟨L, hL⟩ := Int.eq_ofNat_of_zero_le hm.1
    have ct : ∀ w, Calls Tryz.prog 69 #[.int .i64 n] w fun e w' => e = .returned (.int .i64 (L : Int)) ∧ w = w' := by
      intro w; rw [← hL]; exact turn_any n w
    have CT := Lib.hid ct
    have HQ : Hid (Gf.powI a n = Gf.pw a L) := Lib.hid (by rw [HP.out, hL]; rfl)
    have hL2 : L < 255 := by omega
    clear hm hL ct HP
    go_enter Tryz.func99, Tryz.ntmps99
    go_wp2_with (go_at_call 69; refine (CT.out _).mono ?_; rintro e w' ⟨rfl, rfl⟩)
    go_loop [0, 5, 6] (fun x p l => PowAt a L x p l) (fun _ _ l => (intOf l).toNat)
    case atStart => exact ⟨a, 1, L, ha, by decide, hL2, Gf.mul_one_left _ (Gf.pw_lt _ _), rfl, rfl, rfl⟩
    case round =>
      obtain ⟨x, p, l, hx, hp, hl, hm, rfl, rfl, rfl⟩ := hrel
      have HM := Lib.hid hm
      clear hm
      have hxx := Gf.mul_lt x x hx
      have hpx := Gf.mul_lt p x hp
      by_cases hl0 : l = 0
      · subst hl0
        go_wp2
        go_ret
        exact ⟨ret_int (by rw [HQ.out, ← HM.out, Gf.pw, Gf.mul_one_right p hp]), rfl⟩
      · have hlp : 0 < l := by omega
        have hand : bits .and .i64 (l : Int) 1 = ((l % 2 : Nat) : Int) := by
          rw [← Gf.and_1]; exact (bits_nat .i64 63 (by decide) (fun n h0 h1 => by rw [IntKind.wrap_i64]; omega) l 1 (by omega) (by decide)).1
        by_cases h1 : l % 2 = 1
        · have ht : (bits .and .i64 (l : Int) 1 == 1) = true := by rw [hand, h1]; rfl
          have HS : Hid (Gf.mul (Gf.mul p x) (Gf.pw (Gf.mul x x) (l / 2)) = Gf.pw a L) := Lib.hid (by
            rw [Gf.pw_mul _ _ hx, ← HM.out, Gf.mul_assoc p x _ hp hx (Gf.pw_lt _ _), Gf.mul_comm x _ hx (Gf.pw_lt _ _)]
            congr 1
            rw [show l = 2 * (l / 2) + 1 by omega, Gf.pw]
            congr 2; omega)
          clear hand h1 hl0
          go_wp2_with fail
          refine (mul_nat p x hp hx _).mono ?_; rintro e w' ⟨rfl, rfl⟩
          go_wp2_with fail
          refine (mul_nat x x hx hx _).mono ?_; rintro e w' ⟨rfl, rfl⟩
          go_wp2_with fail
          go_round
          case rel => exact ⟨Gf.mul x x, Gf.mul p x, l / 2, hxx, hpx, by omega, HS.out, rfl, rfl, by go_num⟩
          case measure => simp [intOf]; omega
        · have ht : (bits .and .i64 (l : Int) 1 == 1) = false := by rw [hand, show l % 2 = 0 by omega]; rfl
          have HS : Hid (Gf.mul p (Gf.pw (Gf.mul x x) (l / 2)) = Gf.pw a L) := Lib.hid (by
            rw [Gf.pw_mul _ _ hx, ← HM.out, show 2 * (l / 2) = l by omega])
          clear hand h1 hl0
          go_wp2_with fail
          refine (mul_nat x x hx hx _).mono ?_; rintro e w' ⟨rfl, rfl⟩
          go_wp2_with fail
          go_round
          case rel => exact ⟨Gf.mul x x, p, l / 2, hxx, hp, by omega, HS.out, rfl, rfl, by go_num⟩
          case measure => simp [intOf]; omega
theorem exp_any (n : Int) (w : World) :
    Calls Tryz.prog 87 #[.int .i64 n] w fun e w' => e = .returned (.int .u8 (Gf.ex (n % 255).toNat : Nat)) ∧ w = w' := by
  have c : ∀ w, Calls Tryz.prog 99 #[.int .u8 2, .int .i64 n] w fun e w' => e = .returned (.int .u8 (Gf.ex (n % 255).toNat : Nat)) ∧ w = w' := by
    intro w
    have h := pow_nat 2 n (by decide) w
    have h2 : Gf.powI 2 n = Gf.ex (n % 255).toNat := by unfold Gf.powI; rw [if_neg (by decide), Gf.pw_two]
    rw [h2] at h
    exact h
  have C := Lib.hid c
  clear c
  go_enter Tryz.func87, Tryz.ntmps87
  go_wp2_with (go_at_call 99; refine (C.out _).mono ?_; rintro e w' ⟨rfl, rfl⟩)
  go_ret
  exact ⟨rfl, rfl⟩
end Go.Proofs.YtgifbpjmblemhaaGreatDoor
namespace Go.Proofs.YtgifbpjmblemhaaGreatDoor
open Go.RowKit
set_option linter.unusedVariables false
namespace Gf
/-- a table after k rounds -/
structure TabK (k : Nat) (C : Array Value) : Prop where
  size : C.size = 766
  low : ∀ i, i < k → C[i]? = some (.int .u8 (ex i : Nat))
  high : ∀ i, i < k → C[i + 255]? = some (.int .u8 (ex i : Nat))
  zero : C[510]? = some (.int .i64 (-1))
  log : ∀ i, i < k → C[510 + ex i]? = some (.int .i64 i)
theorem TabK.step {k : Nat} {C : Array Value} (h : TabK k C) (hk : k < 255) :
    TabK (k + 1) (((C.setIfInBounds k (.int .u8 (ex k : Nat))).setIfInBounds (k + 255) (.int .u8 (ex k : Nat))).setIfInBounds (510 + ex k) (.int .i64 k)) := by
  have hs := h.size
  have he := ex_lt k
  have h0 := ex_ne k
  refine ⟨by simp [hs], ?_, ?_, ?_, ?_⟩
  · intro i hi
    simp only [Array.getElem?_setIfInBounds, Array.size_setIfInBounds]
    rw [if_neg (by omega), if_neg (by omega)]
    by_cases hik : k = i
    · subst hik; rw [if_pos rfl, if_pos (by omega)]
    · rw [if_neg hik]; exact h.low i (by omega)
  · intro i hi
    simp only [Array.getElem?_setIfInBounds, Array.size_setIfInBounds]
    rw [if_neg (by omega)]
    by_cases hik : k = i
    · subst hik; rw [if_pos rfl, if_pos (by omega)]
    · rw [if_neg (by omega), if_neg (by omega)]; exact h.high i (by omega)
  · simp only [Array.getElem?_setIfInBounds, Array.size_setIfInBounds]
    rw [if_neg (by omega), if_neg (by omega), if_neg (by omega)]; exact h.zero
  · intro i hi
    simp only [Array.getElem?_setIfInBounds, Array.size_setIfInBounds]
    by_cases hik : k = i
    · subst hik; rw [if_pos rfl, if_pos (by omega)]
    · have hne : ex k ≠ ex i := by
        intro hx
        have := (ex_inj k i).1 hx
        rw [Nat.mod_eq_of_lt hk, Nat.mod_eq_of_lt (by omega)] at this
        exact hik this
      rw [if_neg (by omega), if_neg (by omega), if_neg (by omega)]; exact h.log i (by omega)
/-- the whole table -/
structure Tab (C : Array Value) : Prop where
  size : C.size = 766
  exp : ∀ i, i < 510 → C[i]? = some (.int .u8 (ex i : Nat))
  zero : C[510]? = some (.int .i64 (-1))
  log : ∀ i, i < 255 → C[510 + ex i]? = some (.int .i64 i)
theorem TabK.tab {C : Array Value} (h : TabK 255 C) : Tab C := by
  refine ⟨h.size, ?_, h.zero, h.log⟩
  intro i hi
  by_cases hlt : i < 255
  · exact h.low i hlt
  · have := h.high (i - 255) (by omega)
    rw [show i - 255 + 255 = i by omega] at this
    rw [this, ← ex_add_255 (i - 255), show i - 255 + 255 = i by omega]
end Gf
def tz : Array Value := Array.replicate 510 (.int .u8 0) ++ Array.replicate 256 (.int .i64 0)
theorem zero_table (w : World) : Sem.run Tryz.prog (zeroValue 127) w = .ok (.agg tz) w := by kernel_rfl
theorem set_made (w : World) (C : Array Value) (T : TypeId) (n i : Nat) (v : Value) :
    ((w.alloc (.cells C T)).drewN n).setCell ⟨w.heap.size, i, none⟩ v = (w.alloc (.cells (C.setIfInBounds i v) T)).drewN n := by
  have h : ∀ (x : World), (x.drewN n).setCell ⟨w.heap.size, i, none⟩ v = (x.setCell ⟨w.heap.size, i, none⟩ v).drewN n := fun x => rfl
  rw [h]
  congr 1
  go_simp
def MkAt (w : World) (p i : Value) (wr : World) : Prop :=
  ∃ (k n : Nat) (C : Array Value), k ≤ 255 ∧ p = .int .u8 (Gf.ex k : Nat) ∧ i = .int .i64 k ∧ Gf.TabK k C ∧ wr = (w.alloc (.cells C 127)).drewN n
/-- what Make answers: a new table -/
def MadeTab (w : World) (e : Ending) (w' : World) : Prop :=
  ∃ (n : Nat) (C : Array Value), Gf.Tab C ∧ e = .returned (.pointer (some ⟨w.heap.size, 0, none⟩)) ∧ w' = (w.alloc (.cells C 127)).drewN n
set_option maxRecDepth 100000 in
theorem make_of (Z : Array Value) (hs : Z.size = 766) (z : Value) (hz1 : Z[510]? = some z) (w : World) (hz : ∀ w, Sem.run Tryz.prog (zeroValue 127) w = .ok (.agg Z) w) :
    Calls Tryz.prog 53 #[] w (MadeTab w) := by
  have HS := Lib.hid hs
  clear hs
  go_enter Tryz.func53, Tryz.ntmps53
  go_wp2
  clear hz
  go_loopw [2, 10] (fun p i wr => MkAt w p i wr) (fun _ i _ => 255 - (intOf i).toNat)
  case atStart =>
    refine ⟨0, 0, _, by decide, rfl, rfl, ⟨by simp [HS.out], fun i h => absurd h (by omega), fun i h => absurd h (by omega), ?_, fun i h => absurd h (by omega)⟩, rfl⟩
    simp [HS.out]
  case round =>
    obtain ⟨k, n, C, hk, rfl, rfl, hC, rfl⟩ := hrel
    have hCs := hC.size
    by_cases hlt : k < 255
    · obtain ⟨x1, h1⟩ : ∃ x, C[k]? = some x := ⟨C[k]'(by omega), by simp⟩
      obtain ⟨x2, h2⟩ : ∃ x, C[k + 255]? = some x := ⟨C[k + 255]'(by omega), by simp⟩
      have HC := Lib.hid hC
      have HCs := Lib.hid hCs
      clear hC hCs
      go_wp2
      go_region
      rw [set_made, set_made]
      generalize hD : (C.setIfInBounds k (Value.int IntKind.u8 ↑(Gf.ex k))).setIfInBounds (k + 255) (Value.int IntKind.u8 ↑(Gf.ex k)) = D
      have hDs : D.size = 766 := by rw [← hD]; simp [HCs.out]
      have hel := Gf.ex_lt k
      obtain ⟨x3, h3⟩ : ∃ x, D[510 + Gf.ex k]? = some x := ⟨D[510 + Gf.ex k]'(by omega), by simp⟩
      have HD := Lib.hid hD
      have HDs := Lib.hid hDs
      clear hD hDs h1 h2
      go_wp2_with (go_at_call 67; refine (double_any (Gf.ex k) hel _).mono ?_; rintro e w' ⟨rfl, rfl⟩)
      refine ⟨⟨k + 1, n + 1, D.setIfInBounds (510 + Gf.ex k) (.int .i64 k), by omega, rfl, by go_num, ?_, set_made w D _ _ _ _⟩, by simp [intOf]; omega⟩
      rw [← HD.out]
      exact HC.out.step hlt
    · obtain rfl : k = 255 := by omega
      clear hCs
      have HC := Lib.hid hC
      clear hC
      go_wp2
      go_ret
      exact ⟨n, C, HC.out.tab, rfl, rfl⟩
theorem make_any (w : World) : Calls Tryz.prog 53 #[] w (MadeTab w) := by
  refine make_of tz ?_ (.int .i64 0) ?_ w zero_table
  · simp [tz]
  · simp [tz]
theorem below_dn {B : Nat} {a w : World} (h : Below B a w) (n : Nat) : Below B a (w.drewN n) := h.trans ⟨rfl, rfl, rfl, Nat.le_refl _, fun _ _ => rfl⟩
theorem made_below {w : World} {C : Array Value} {T : TypeId} {n : Nat} : Below w.heap.size w ((w.alloc (.cells C T)).drewN n) := by
  have h : ∀ n, Below w.heap.size w ((w.alloc (.cells C T)).drewN n) := by
    intro n
    induction n with
    | zero => exact (Below.refl _ _).alloc (Nat.le_refl _) _
    | succ n ih => exact ih.drew
  exact h n

end Go.Proofs.YtgifbpjmblemhaaGreatDoor
namespace Go.Proofs.YtgifbpjmblemhaaGreatDoor
open Go.RowKit
set_option linter.unusedVariables false
namespace Gf
theorem Tab.logAt {C : Array Value} (h : Tab C) (a : Nat) (h0 : a ≠ 0) (ha : a < 256) : C[510 + a]? = some (.int .i64 (lg a : Nat)) := by
  obtain ⟨h1, h2⟩ := ex_lg a h0 ha
  have := h.log (lg a) h2
  rw [h1] at this; exact this
theorem mul_lg (a b : Nat) (h0 : a ≠ 0) (ha : a < 256) (g0 : b ≠ 0) (hb : b < 256) : ex (lg a + lg b) = mul a b := by
  rw [← mul_ex_ex, (ex_lg a h0 ha).1, (ex_lg b g0 hb).1]
end Gf
/-- a table lies at the head of block B -/
structure TabAt (W : World) (B : Nat) (C : Array Value) : Prop where
  block : W.heap[B]? = some (.cells C 127 (0, 0))
  tab : Gf.Tab C
theorem TabAt.cell {W : World} {B : Nat} {C : Array Value} (h : TabAt W B C) (i : Nat) : W.cell? ⟨B, i, none⟩ = C[i]? := by
  unfold World.cell?; rw [h.block]; rfl
theorem TabAt.later {W W' : World} {B : Nat} {C : Array Value} (h : TabAt W B C) (hb : Below W.heap.size W W') : TabAt W' B C :=
  ⟨by rw [hb.block B (Array.getElem?_eq_some_iff.1 h.block).1]; exact h.block, h.tab⟩
theorem TabAt.made {W : World} {C : Array Value} {n : Nat} (h : Gf.Tab C) : TabAt ((W.alloc (.cells C 127)).drewN n) W.heap.size C := by
  refine ⟨?_, h⟩
  show (W.alloc (.cells C 127)).heap[W.heap.size]? = _
  exact (MapKept.heap_alloc W _).1

theorem tmul_any (a b : Nat) (ha : a < 256) (hb : b < 256) (B : Nat) (C : Array Value) (w : World) (hT : TabAt w B C) :
    Calls Tryz.prog 68 #[.pointer (some ⟨B, 0, none⟩), .int .u8 (a : Int), .int .u8 (b : Int)] w fun e w' => e = .returned (.int .u8 (Gf.mul a b : Nat)) ∧ ∃ n, w' = w.drewN n := by
  by_cases h0 : a = 0
  · have t1 : ((a : Int) == 0) = true := by simpa using h0
    have HM : Hid (Gf.mul a b = 0) := Lib.hid (by rw [h0, Gf.mul_zero_left])
    clear h0 hT
    go_enter Tryz.func68, Tryz.ntmps68
    go_wp2
    go_ret
    exact ⟨ret_int (by rw [HM.out]; rfl), 0, rfl⟩
  · by_cases g0 : b = 0
    · have t1 : ((a : Int) == 0) = false := by simpa using h0
      have t2 : ((b : Int) == 0) = true := by simpa using g0
      have HM : Hid (Gf.mul a b = 0) := Lib.hid (by rw [g0, Gf.mul_zero_right])
      clear h0 g0 hT
      go_enter Tryz.func68, Tryz.ntmps68
      go_wp2
      go_ret
      exact ⟨ret_int (by rw [HM.out]; rfl), 0, rfl⟩
    · have t1 : ((a : Int) == 0) = false := by simpa using h0
      have t2 : ((b : Int) == 0) = false := by simpa using g0
      have la := (Gf.ex_lg a h0 ha).2
      have lb := (Gf.ex_lg b g0 hb).2
      have HM := Lib.hid (Gf.mul_lg a b h0 ha g0 hb)
      have c1 : w.cell? ⟨B, 510 + a, none⟩ = some (.int .i64 (Gf.lg a : Nat)) := by rw [hT.cell]; exact hT.tab.logAt a h0 ha
      have c2 : w.cell? ⟨B, 510 + b, none⟩ = some (.int .i64 (Gf.lg b : Nat)) := by rw [hT.cell]; exact hT.tab.logAt b g0 hb
      have c3 : w.cell? ⟨B, Gf.lg a + Gf.lg b, none⟩ = some (.int .u8 (Gf.ex (Gf.lg a + Gf.lg b) : Nat)) := by rw [hT.cell]; exact hT.tab.exp _ (by omega)
      clear h0 g0 hT
      go_enter Tryz.func68, Tryz.ntmps68
      go_wp2
      go_quiet (fail)
      go_wp2
      go_ret
      exact ⟨ret_int (by rw [HM.out]), _, rfl⟩
end Go.Proofs.YtgifbpjmblemhaaGreatDoor
namespace Go.Proofs.YtgifbpjmblemhaaGreatDoor
open Go.RowKit
set_option linter.unusedVariables false
namespace Gf
theorem div_lg (a b : Nat) (h0 : a ≠ 0) (ha : a < 256) (g0 : b ≠ 0) (hb : b < 256) : ex (lg a + 255 - lg b) = mul a (inv b) := by
  obtain ⟨h1, h2⟩ := ex_lg a h0 ha
  obtain ⟨h3, h4⟩ := ex_lg b g0 hb
  have e : inv b = ex (lg b * 254) := by
    unfold inv
    generalize lg b = n at *
    subst h3
    rw [pw_ex]
  rw [e]
  generalize lg b = m at *
  generalize lg a = n at *
  subst h1
  rw [mul_ex_ex, ex_inj]
  omega
end Gf
theorem tdiv_zero (a b : Nat) (h : a = 0 ∨ b = 0) (B : Nat) (w : World) :
    Calls Tryz.prog 93 #[.pointer (some ⟨B, 0, none⟩), .int .u8 (a : Int), .int .u8 (b : Int)] w fun e w' => e = .returned (.int .u8 0) ∧ ∃ n, w' = w.drewN n := by
  by_cases h0 : a = 0
  · have t1 : ((a : Int) == 0) = true := by simpa using h0
    clear h0 h
    go_enter Tryz.func93, Tryz.ntmps93
    go_wp2
    go_ret
    exact ⟨rfl, 0, rfl⟩
  · have t1 : ((a : Int) == 0) = false := by simpa using h0
    have t2 : ((b : Int) == 0) = true := by have : b = 0 := by omega
                                            simpa using this
    clear h0 h
    go_enter Tryz.func93, Tryz.ntmps93
    go_wp2
    go_ret
    exact ⟨rfl, 0, rfl⟩
theorem tdiv_any (a b : Nat) (ha : a < 256) (g0 : b ≠ 0) (hb : b < 256) (B : Nat) (C : Array Value) (w : World) (hT : TabAt w B C) :
    Calls Tryz.prog 93 #[.pointer (some ⟨B, 0, none⟩), .int .u8 (a : Int), .int .u8 (b : Int)] w fun e w' => e = .returned (.int .u8 (Gf.mul a (Gf.inv b) : Nat)) ∧ ∃ n, w' = w.drewN n := by
  by_cases h0 : a = 0
  · have h := tdiv_zero a b (Or.inl h0) B w
    have e : Gf.mul a (Gf.inv b) = 0 := by rw [h0, Gf.mul_zero_left]
    rw [e]; exact h
  · have t1 : ((a : Int) == 0) = false := by simpa using h0
    have t2 : ((b : Int) == 0) = false := by simpa using g0
    have la := (Gf.ex_lg a h0 ha).2
    have lb := (Gf.ex_lg b g0 hb).2
    have HM := Lib.hid (Gf.div_lg a b h0 ha g0 hb)
    have c1 : w.cell? ⟨B, 510 + a, none⟩ = some (.int .i64 (Gf.lg a : Nat)) := by rw [hT.cell]; exact hT.tab.logAt a h0 ha
    have c2 : w.cell? ⟨B, 510 + b, none⟩ = some (.int .i64 (Gf.lg b : Nat)) := by rw [hT.cell]; exact hT.tab.logAt b g0 hb
    have hi0 : 0 ≤ (Gf.lg a : Int) - Gf.lg b + 255 := by omega
    have hi1 : (Gf.lg a : Int) - Gf.lg b + 255 < 510 := by omega
    have hi2 : ((Gf.lg a : Int) - Gf.lg b + 255).toNat = Gf.lg a + 255 - Gf.lg b := by omega
    have c3 : w.cell? ⟨B, ((Gf.lg a : Int) - Gf.lg b + 255).toNat, none⟩ = some (.int .u8 (Gf.ex (Gf.lg a + 255 - Gf.lg b) : Nat)) := by rw [hi2, hT.cell]; exact hT.tab.exp _ (by omega)
    clear h0 g0 hT hi2
    go_enter Tryz.func93, Tryz.ntmps93
    go_wp2
    go_quiet (fail)
    go_wp2
    go_ret
    exact ⟨ret_int (by rw [HM.out]), _, rfl⟩
end Go.Proofs.YtgifbpjmblemhaaGreatDoor
namespace Go.Proofs.YtgifbpjmblemhaaGreatDoor
open Go.RowKit
set_option linter.unusedVariables false
theorem inv_zero (a : Nat) (h0 : a = 0) (ev : Value) (w : World) (hc : w.cell? ⟨19, 0, none⟩ = some ev) :
    Calls Tryz.prog 81 #[.int .u8 (a : Int)] w fun e w' => e = .returned (.tuple #[.int .u8 0, ev]) ∧ ∃ n, w' = w.drewN n := by
  have hz : ((a : Int) == 0) = true := by simpa using h0
  clear h0
  go_enter Tryz.func81, Tryz.ntmps81
  go_wp2
  go_quiet (fail)
  go_wp2
  go_ret2
  exact ⟨rfl, _, rfl⟩
theorem inv_pos (a : Nat) (h0 : a ≠ 0) (ha : a < 256) (w : World) :
    Calls Tryz.prog 81 #[.int .u8 (a : Int)] w fun e w' => e = .returned (.tuple #[.int .u8 (Gf.inv a : Nat), .nilIface]) ∧ w = w' := by
  have hz : ((a : Int) == 0) = false := by simpa using h0
  have c : ∀ w, Calls Tryz.prog 99 #[.int .u8 a, .int .i64 (-1)] w fun e w' => e = .returned (.int .u8 (Gf.inv a : Nat)) ∧ w = w' := by
    intro w
    have h := pow_nat a (-1) ha w
    have h2 : Gf.powI a (-1) = Gf.inv a := by unfold Gf.powI Gf.inv; rw [if_neg h0]; rfl
    rw [h2] at h; exact h
  have C := Lib.hid c
  clear c
  go_enter Tryz.func81, Tryz.ntmps81
  go_wp2_with (go_at_call 99; refine (C.out _).mono ?_; rintro e w' ⟨rfl, rfl⟩)
  go_ret2
  exact ⟨rfl, rfl⟩
end Go.Proofs.YtgifbpjmblemhaaGreatDoor
namespace Go.Proofs.YtgifbpjmblemhaaGreatDoor
open Go.RowKit
set_option linter.unusedVariables false
theorem texp_any (n : Int) (B : Nat) (C : Array Value) (w : World) (hT : TabAt w B C) :
    Calls Tryz.prog 55 #[.pointer (some ⟨B, 0, none⟩), .int .i64 n] w fun e w' => e = .returned (.int .u8 (Gf.ex (n % 255).toNat : Nat)) ∧ ∃ n, w' = w.drewN n := by
  have hm : 0 ≤ n % 255 ∧ n % 255 < 255 := by omega
  obtain ⟨L, hL⟩ := Int.eq_ofNat_of_zero_le hm.1
  have ct : ∀ w, Calls Tryz.prog 69 #[.int .i64 n] w fun e w' => e = .returned (.int .i64 (L : Int)) ∧ w' = w := by
    intro w; rw [← hL]; exact (turn_any n w).mono fun _ _ ⟨h1, h2⟩ => ⟨h1, h2.symm⟩
  have CT := Lib.hid ct
  have hl : L < 510 := by omega
  have c3 : w.cell? ⟨B, L, none⟩ = some (.int .u8 (Gf.ex L : Nat)) := by rw [hT.cell]; exact hT.tab.exp _ (by omega)
  have HL : Hid ((n % 255).toNat = L) := Lib.hid (by omega)
  clear hT hm hL ct
  go_enter Tryz.func55, Tryz.ntmps55
  go_wp2
  go_quiet ((go_at_call 69; exact Calls.quiet_of_same (CT.out _)))
  go_wp2
  go_ret
  exact ⟨ret_int (by rw [HL.out]), _, rfl⟩
theorem fdiv_zero (a b : Nat) (h0 : b = 0) (u : TypeId) (v : Value) (w : World) (hc : w.cell? ⟨19, 0, none⟩ = some (.iface u v)) :
    Calls Tryz.prog 84 #[.int .u8 (a : Int), .int .u8 (b : Int)] w fun e w' => e = .returned (.tuple #[.int .u8 0, .iface u v]) ∧ ∃ n, w' = w.drewN n := by
  have HZ := Lib.hid hc
  have H0 := Lib.hid h0
  clear hc h0
  go_enter Tryz.func84, Tryz.ntmps84
  go_wp2_with fail
  refine (inv_zero b H0.out _ _ HZ.out).mono ?_; rintro e w' ⟨rfl, nd, rfl⟩
  go_wp2_with fail
  go_ret2
  exact ⟨rfl, _, rfl⟩
theorem fdiv_any (a b : Nat) (ha : a < 256) (h0 : b ≠ 0) (hb : b < 256) (w : World) :
    Calls Tryz.prog 84 #[.int .u8 (a : Int), .int .u8 (b : Int)] w fun e w' => e = .returned (.tuple #[.int .u8 (Gf.mul a (Gf.inv b) : Nat), .nilIface]) ∧ w = w' := by
  have H0 := Lib.hid h0
  have hi := Gf.inv_lt b
  clear h0
  go_enter Tryz.func84, Tryz.ntmps84
  go_wp2_with fail
  refine (inv_pos b H0.out hb _).mono ?_; rintro e w' ⟨rfl, rfl⟩
  go_wp2_with fail
  refine (mul_nat a _ ha hi _).mono ?_; rintro e w' ⟨rfl, rfl⟩
  go_wp2_with fail
  go_ret2
  exact ⟨rfl, rfl⟩
end Go.Proofs.YtgifbpjmblemhaaGreatDoor
