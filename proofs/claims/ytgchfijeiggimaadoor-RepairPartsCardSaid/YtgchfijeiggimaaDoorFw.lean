/- Contracts of the functions of package field that compute with numbers alone. The document's own product (package baileeref01) is the field's. Contracts of field.turn, Pow and Exp. -/
import Derived.Test.YtgchfijeiggimaaDoorRows
import Derived.Test.YtgchfijeiggimaaDoorGf
import Derived.WalkKit
import Derived.ProofKit
import Derived.OpenShut
import Derived.Laws.BitsAllLaws
import Derived.Lib.Hide
namespace Go.Proofs.YtgchfijeiggimaaDoor
open Go.RowKit
set_option linter.unusedVariables false
theorem ret_int {k : IntKind} {a b : Int} (h : a = b) : Ending.returned (.int k a) = .returned (.int k b) := by rw [h]

namespace Gf
theorem and_128 (a : Nat) (ha : a < 256) : a &&& 128 = if a < 128 then 0 else 128 := by
  have h : (List.range 256).all (fun a => a &&& 128 == if a < 128 then 0 else 128) = true := by decide +kernel
  simpa using all_of h a ha
theorem and_1 (a : Nat) : a &&& 1 = a % 2 := Nat.and_two_pow_sub_one_eq_mod a 1
end Gf

theorem double_any (a : Nat) (ha : a < 256) (w : World) :
    Calls Tryd.prog 61 #[.int .u8 (a : Int)] w fun e w' => e = .returned (.int .u8 (Gf.dbl a : Nat)) ∧ w = w' := by
  have hb : bits .and .u8 (a : Int) 128 = ((a &&& 128 : Nat) : Int) := u8_and_nat a 128 ha (by decide)
  rw [Gf.and_128 a ha] at hb
  by_cases h : a < 128
  · rw [if_pos h] at hb
    have hc : (bits .and .u8 (a : Int) 128 != 0) = false := by rw [hb]; rfl
    clear hb
    have hd : Gf.dbl a = 2 * a := by unfold Gf.dbl; rw [if_pos h]
    have HD := Lib.hid hd
    clear hd
    go_enter Tryd.func61, Tryd.ntmps61
    go_wp2
    go_ret
    exact ⟨ret_int (by rw [HD.out]; omega), rfl⟩
  · rw [if_neg h] at hb
    have hc : (bits .and .u8 (a : Int) 128 != 0) = true := by rw [hb]; rfl
    clear hb
    have hx : bits .xor .u8 (IntKind.u8.wrap (a * 2)) 29 = (Gf.dbl a : Nat) := by
      have : IntKind.u8.wrap (a * 2) = ((2 * a - 256 : Nat) : Int) := by rw [IntKind.wrap_u8]; omega
      rw [this, show (29 : Int) = ((29 : Nat) : Int) from rfl, u8_xor_nat _ 29 (by omega) (by decide)]
      unfold Gf.dbl; rw [if_neg h]
    rw [IntKind.wrap_u8] at hx
    have HX := Lib.hid hx
    clear hx
    go_enter Tryd.func61, Tryd.ntmps61
    go_wp2
    go_ret
    exact ⟨ret_int (by rw [HX.out]), rfl⟩
theorem add_any (a b : Nat) (ha : a < 256) (hb : b < 256) (w : World) :
    Calls Tryd.prog 56 #[.int .u8 (a : Int), .int .u8 (b : Int)] w fun e w' => e = .returned (.int .u8 (a ^^^ b : Nat)) ∧ w = w' := by
  go_enter Tryd.func56, Tryd.ntmps56
  go_wp2
  go_ret
  exact ⟨ret_int (u8_xor_nat a b ha hb), rfl⟩

def MulAt (a b : Nat) (x y p : Value) : Prop :=
  ∃ k x' y' p' : Nat, x' < 256 ∧ y' < 256 ∧ p' < 256 ∧ y' < 2 ^ k ∧ Gf.mul a b = p' ^^^ Gf.mulN k x' y' ∧ x = .int .u8 x' ∧ y = .int .u8 y' ∧ p = .int .u8 p'
theorem mul_nat (a b : Nat) (ha : a < 256) (hb : b < 256) (w : World) :
    Calls Tryd.prog 36 #[.int .u8 (a : Int), .int .u8 (b : Int)] w fun e w' => e = .returned (.int .u8 (Gf.mul a b : Nat)) ∧ w = w' := by
  go_enter Tryd.func36, Tryd.ntmps36
  go_wp2
  go_loop [0, 1, 5] (fun x y p => MulAt a b x y p) (fun _ y _ => (intOf y).toNat)
  case atStart => exact ⟨8, a, b, 0, ha, hb, by decide, hb, by simp [Gf.mul], rfl, rfl, rfl⟩
  case round =>
    obtain ⟨k, x, y, p, hx, hy, hp, hk, hm, rfl, rfl, rfl⟩ := hrel
    have HM := Lib.hid hm
    clear hm
    by_cases h0 : y = 0
    · subst h0
      go_wp2
      go_ret
      exact ⟨ret_int (by rw [HM.out, Gf.mulN_zero_right]; simp), rfl⟩
    · have hne : ((y : Int) != 0) = true := by simpa using h0
      have hand : bits .and .u8 (y : Int) 1 = ((y % 2 : Nat) : Int) := by
        rw [← Gf.and_1]; exact u8_and_nat y 1 hy (by decide)
      obtain ⟨k, rfl⟩ : ∃ j, k = j + 1 := by
        cases k with
        | zero => omega
        | succ j => exact ⟨j, rfl⟩
      have hk2 : y / 2 < 2 ^ k := by rw [Nat.pow_succ] at hk; omega
      have hdl := Gf.dbl_lt x hx
      by_cases h1 : y % 2 = 1
      · have ht : (bits .and .u8 (y : Int) 1 == 1) = true := by rw [hand, h1]; rfl
        have hs : p ^^^ (x ^^^ Gf.mulN k (Gf.dbl x) (y / 2)) = (p ^^^ x) ^^^ Gf.mulN k (Gf.dbl x) (y / 2) := (Nat.xor_assoc _ _ _).symm
        have HS : Hid (Gf.mul a b = (p ^^^ x) ^^^ Gf.mulN k (Gf.dbl x) (y / 2)) := Lib.hid (by rw [← hs, HM.out, Gf.mulN, if_pos h1])
        have hpx := Gf.xor_lt hp hx
        have hbx : bits .xor .u8 (p : Int) (x : Int) = ((p ^^^ x : Nat) : Int) := u8_xor_nat p x hp hx
        have HB := Lib.hid hbx
        clear hand hs hbx h1
        go_wp2_with (go_at_call 61; refine (double_any x hx _).mono ?_; rintro e w' ⟨rfl, rfl⟩)
        go_round
        case rel => exact ⟨k, Gf.dbl x, y / 2, p ^^^ x, hdl, by omega, hpx, hk2, HS.out, rfl, by go_num, by rw [HB.out]⟩
        case measure => simp [intOf]; omega
      · have ht : (bits .and .u8 (y : Int) 1 == 1) = false := by rw [hand, show y % 2 = 0 by omega]; rfl
        have HS : Hid (Gf.mul a b = p ^^^ Gf.mulN k (Gf.dbl x) (y / 2)) := Lib.hid (by rw [HM.out, Gf.mulN, if_neg h1, Nat.zero_xor])
        clear hand h1
        go_wp2_with (go_at_call 61; refine (double_any x hx _).mono ?_; rintro e w' ⟨rfl, rfl⟩)
        go_round
        case rel => exact ⟨k, Gf.dbl x, y / 2, p, hdl, by omega, hp, hk2, HS.out, rfl, by go_num, rfl⟩
        case measure => simp [intOf]; omega

theorem mul_any (a b : Int) (ha0 : 0 ≤ a) (ha : a < 256) (hb0 : 0 ≤ b) (hb : b < 256) (w : World) :
    Calls Tryd.prog 36 #[.int .u8 a, .int .u8 b] w fun e w' => e = .returned (.int .u8 (Gf.mul a.toNat b.toNat : Nat)) ∧ w = w' := by
  obtain ⟨a, rfl⟩ := Int.eq_ofNat_of_zero_le ha0
  obtain ⟨b, rfl⟩ := Int.eq_ofNat_of_zero_le hb0
  exact mul_nat a b (by omega) (by omega) w

end Go.Proofs.YtgchfijeiggimaaDoor
namespace Go.Proofs.YtgchfijeiggimaaDoor
open Go.RowKit
set_option linter.unusedVariables false
namespace Gf
/-- one bit's part of a sum -/
def part (b i x : Nat) : Nat := if b.testBit i then x else 0
/-- the product of two polynomials, after n bits -/
def cl (a b : Nat) : Nat → Nat
  | 0 => 0
  | n + 1 => cl a b n ^^^ part b n (a * 2 ^ n)
/-- the rest, from bit 7 + n down -/
def rd : Nat → Nat → Nat
  | 0, p => p
  | n + 1, p => rd n (p ^^^ part p (8 + n) (285 * 2 ^ n))
theorem part_xor (p q i x : Nat) : part (p ^^^ q) i x = part p i x ^^^ part q i x := by
  unfold part
  rw [Nat.testBit_xor]
  cases p.testBit i <;> cases q.testBit i <;> simp
theorem rd_xor (n p q : Nat) : rd n (p ^^^ q) = rd n p ^^^ rd n q := by
  induction n generalizing p q with
  | zero => rfl
  | succ n ih =>
    unfold rd
    rw [part_xor, ← ih]
    congr 1
    ac_rfl
theorem rd_zero (n : Nat) : rd n 0 = 0 := by
  induction n with
  | zero => rfl
  | succ n ih => unfold rd; simp [part, ih]
theorem rd_part (n b i x : Nat) : rd n (part b i x) = part b i (rd n x) := by
  unfold part
  split
  · rfl
  · exact rd_zero n
theorem dbls_succ (n a : Nat) : dbls n (dbl a) = dbls (n + 1) a := by
  induction n with
  | zero => rfl
  | succ n ih => rw [dbls, ih]; rfl
theorem mulN_succ (n a b : Nat) : mulN (n + 1) a b = mulN n a b ^^^ part b n (dbls n a) := by
  induction n generalizing a b with
  | zero =>
    simp only [mulN, part, dbls, Nat.testBit_zero, Nat.xor_zero, Nat.zero_xor, decide_eq_true_eq]
  | succ n ih =>
    rw [mulN, ih, mulN, dbls_succ, ← Nat.xor_assoc]
    unfold part
    rw [Nat.testBit_succ]
theorem rd_dbls (a n : Nat) (ha : a < 256) (hn : n < 8) : rd 7 (a * 2 ^ n) = dbls n a := by
  have h : (List.range 8).all (fun n => (List.range 256).all fun a => rd 7 (a * 2 ^ n) == dbls n a) = true := by decide +kernel
  simpa using all_of (all_of h n hn) a ha
theorem rd_cl (a b n : Nat) (ha : a < 256) (hn : n ≤ 8) : rd 7 (cl a b n) = mulN n a b := by
  induction n with
  | zero => exact rd_zero 7
  | succ n ih => rw [cl, rd_xor, rd_part, rd_dbls a n ha (by omega), ih (by omega), mulN_succ]
theorem cl_rd (a b : Nat) (ha : a < 256) : rd 7 (cl a b 8) = mul a b := rd_cl a b 8 ha (Nat.le_refl _)
theorem part_lt (b i x m : Nat) (h : x < 2 ^ m) : part b i x < 2 ^ m := by
  unfold part
  split
  · exact h
  · exact Nat.two_pow_pos m
theorem shift_lt (a n : Nat) (ha : a < 512) (hn : n < 8) : a * 2 ^ n < 2 ^ 16 := by
  have h1 : 2 ^ n ≤ 2 ^ 7 := Nat.pow_le_pow_right (by decide) (by omega)
  have h2 : a * 2 ^ n ≤ 511 * 2 ^ 7 := Nat.mul_le_mul (by omega) h1
  omega
theorem cl_lt (a b n : Nat) (ha : a < 256) (hn : n ≤ 8) : cl a b n < 2 ^ 16 := by
  induction n with
  | zero => exact Nat.two_pow_pos 16
  | succ n ih => exact Nat.xor_lt_two_pow (ih (by omega)) (part_lt _ _ _ _ (shift_lt a n (by omega) (by omega)))
theorem bit_test (b i : Nat) : (((b : Int) / 2 ^ i).tmod 2 == 1) = b.testBit i := by
  have h : ((b : Int) / 2 ^ i).tmod 2 = ((b / 2 ^ i % 2 : Nat) : Int) := by
    rw [show ((b : Int) / 2 ^ i) = ((b / 2 ^ i : Nat) : Int) by simp]
    rfl
  rw [h, Nat.testBit_eq_decide_div_mod_eq, Bool.eq_iff_iff]
  simp only [beq_iff_eq, decide_eq_true_eq]
  omega
theorem shl_int (a i : Nat) : (a : Int) * 2 ^ i = ((a * 2 ^ i : Nat) : Int) := by simp
theorem xor64 (p q : Nat) (hp : p < 2 ^ 16) (hq : q < 2 ^ 16) : bits .xor .i64 (p : Int) (q : Int) = ((p ^^^ q : Nat) : Int) := by
  have hx : p ^^^ q < 2 ^ 16 := Nat.xor_lt_two_pow hp hq
  have hp' : p % 2 ^ IntKind.i64.bits = p := Nat.mod_eq_of_lt (by show p < 2 ^ 64; omega)
  have hq' : q % 2 ^ IntKind.i64.bits = q := Nat.mod_eq_of_lt (by show q < 2 ^ 64; omega)
  simp only [bits, BitVec.ofInt_natCast, BitVec.toNat_xor, BitVec.toNat_ofNat, hp', hq']
  rw [IntKind.wrap_i64]
  omega
end Gf
def ClAt (a b : Nat) (p i : Value) : Prop := ∃ i' : Nat, i' ≤ 8 ∧ p = .int .i64 (Gf.cl a b i' : Nat) ∧ i = .int .i64 i'
def RdAt (a b : Nat) (p i : Value) : Prop := ∃ p' n : Nat, n ≤ 7 ∧ p' < 65536 ∧ Gf.rd n p' = Gf.mul a b ∧ p = .int .i64 p' ∧ i = .int .i64 ((n : Int) + 7)
set_option maxHeartbeats 1000000 in
theorem rmul_nat (a b : Nat) (ha : a < 256) (hb : b < 256) (w : World) :
    Calls Tryd.prog 19 #[.int .u8 (a : Int), .int .u8 (b : Int)] w fun e w' => e = .returned (.int .u8 (Gf.mul a b : Nat)) ∧ w = w' := by
  have hmul := Gf.mul_lt a b ha
  go_enter Tryd.func19, Tryd.ntmps19
  go_wp2
  go_loop [5, 6] (fun p i => ClAt a b p i) (fun _ i => 8 - (intOf i).toNat)
  case atStart => exact ⟨0, by decide, rfl, rfl⟩
  case round =>
    obtain ⟨i, hi, rfl, rfl⟩ := hrel
    have hp := Gf.cl_lt a b i ha hi
    by_cases hlt : i < 8
    · have hs := Gf.shift_lt a i (by omega) hlt
      have ht := Gf.bit_test b i
      have hw : wrap64 ((a : Int) * 2 ^ i) = ((a * 2 ^ i : Nat) : Int) := by rw [Gf.shl_int]; exact IntWalk.wrap64_in _ ⟨by omega, by omega⟩
      have HX : Hid (bits .xor .i64 (Gf.cl a b i : Nat) (wrap64 ((a : Int) * 2 ^ i)) = ((Gf.cl a b i ^^^ (a * 2 ^ i) : Nat) : Int)) := Lib.hid (by rw [hw]; exact Gf.xor64 _ _ hp hs)
      clear hw
      by_cases hbit : b.testBit i = true
      · rw [hbit] at ht
        have HN : Hid (Gf.cl a b (i + 1) = Gf.cl a b i ^^^ (a * 2 ^ i)) := Lib.hid (by simp [Gf.cl, Gf.part, hbit])
        clear hbit hs
        go_wp2
        go_round
        case rel => exact ⟨i + 1, by omega, by rw [HX.out, HN.out], by go_num⟩
        case measure => simp [intOf]; omega
      · have hbf : b.testBit i = false := by simpa using hbit
        rw [hbf] at ht
        have HN : Hid (Gf.cl a b (i + 1) = Gf.cl a b i) := Lib.hid (by simp [Gf.cl, Gf.part, hbf])
        clear hbit hbf hs
        go_wp2
        go_round
        case rel => exact ⟨i + 1, by omega, by rw [HN.out], by go_num⟩
        case measure => simp [intOf]; omega
    · obtain rfl : i = 8 := by omega
      have HR := Lib.hid (Gf.cl_rd a b ha)
      generalize hc : Gf.cl a b 8 = c0 at *
      clear hc
      go_wp2
      go_loop [5, 7] (fun p i => RdAt a b p i) (fun _ i => (intOf i).toNat - 7)
      case atStart => exact ⟨_, 7, by decide, hp, HR.out, rfl, rfl⟩
      case round =>
        obtain ⟨p, n, hn, hp2, hr, rfl, rfl⟩ := hrel
        have HQ := Lib.hid hr
        clear hr
        by_cases h0 : n = 0
        · subst h0
          have hpe : (p : Int) = (Gf.mul a b : Nat) := by have h := HQ.out; simp only [Gf.rd] at h; rw [h]
          have HE := Lib.hid hpe
          have hp3 : (p : Int) < 256 := by omega
          clear hpe
          go_wp2
          go_ret
          exact ⟨ret_int HE.out, rfl⟩
        · obtain ⟨m, rfl⟩ : ∃ m, n = m + 1 := ⟨n - 1, by omega⟩
          have hs := Gf.shift_lt 285 m (by omega) (by omega)
          have ht := Gf.bit_test p (m + 1 + 7)
          have hw : wrap64 ((285 : Int) * 2 ^ m) = ((285 * 2 ^ m : Nat) : Int) := by rw [show ((285 : Int) * 2 ^ m) = ((285 * 2 ^ m : Nat) : Int) by simp]; exact IntWalk.wrap64_in _ ⟨by omega, by omega⟩
          have HX : Hid (bits .xor .i64 (p : Int) (wrap64 ((285 : Int) * 2 ^ m)) = ((p ^^^ (285 * 2 ^ m) : Nat) : Int)) := Lib.hid (by rw [hw]; exact Gf.xor64 _ _ hp2 hs)
          have hpx : p ^^^ (285 * 2 ^ m) < 65536 := Nat.xor_lt_two_pow (n := 16) hp2 hs
          have hm8 : 8 + m = m + 1 + 7 := by omega
          clear hw
          by_cases hbit : p.testBit (m + 1 + 7) = true
          · rw [hbit] at ht
            have HN : Hid (Gf.rd m (p ^^^ (285 * 2 ^ m)) = Gf.mul a b) := Lib.hid (by rw [← HQ.out, Gf.rd, hm8, Gf.part, if_pos hbit])
            clear hbit hs hm8
            go_wp2
            go_round
            case rel => exact ⟨_, m, by omega, hpx, HN.out, by rw [HX.out], by go_num⟩
            case measure => simp [intOf]; omega
          · have hbf : p.testBit (m + 1 + 7) = false := by simpa using hbit
            rw [hbf] at ht
            have HN : Hid (Gf.rd m p = Gf.mul a b) := Lib.hid (by rw [← HQ.out, Gf.rd, hm8, Gf.part, if_neg hbit, Nat.xor_zero])
            clear hbit hbf hs hm8
            go_wp2
            go_round
            case rel => exact ⟨p, m, by omega, hp2, HN.out, rfl, by go_num⟩
            case measure => simp [intOf]; omega
end Go.Proofs.YtgchfijeiggimaaDoor
namespace Go.Proofs.YtgchfijeiggimaaDoor
open Go.RowKit
set_option linter.unusedVariables false
namespace Gf
/-- Go's answer to a power: any number, any exponent -/
def powI (a : Nat) (n : Int) : Nat := if a = 0 then (if n = 0 then 1 else 0) else pw a (n % 255).toNat
theorem powI_lt (a : Nat) (n : Int) : powI a n < 256 := by
  unfold powI
  split
  · split <;> omega
  · exact pw_lt _ _
end Gf

theorem turn_any (n : Int) (w : World) :
    Calls Tryd.prog 70 #[.int .i64 n] w fun e w' => e = .returned (.int .i64 (n % 255)) ∧ w = w' := by
  by_cases h0 : 0 ≤ n
  · have h1 : 0 ≤ n % 255 := by omega
    go_enter Tryd.func70, Tryd.ntmps70
    go_wp2
    go_ret
    exact ⟨rfl, rfl⟩
  · obtain ⟨m, rfl⟩ : ∃ m : Int, n = -m := ⟨-n, by omega⟩
    have ht : (-m).tmod 255 = - (m % 255) := by rw [Int.neg_tmod, Int.tmod_eq_emod_of_nonneg (by omega)]
    by_cases h2 : m % 255 = 0
    · have hlo : 0 ≤ (-m).tmod 255 := by omega
      have HT : Hid ((-m).tmod 255 = (-m) % 255) := Lib.hid (by rw [ht]; omega)
      clear ht
      go_enter Tryd.func70, Tryd.ntmps70
      go_wp2
      go_ret
      exact ⟨ret_int (by omega), rfl⟩
    · have hlo : (-m).tmod 255 < 0 := by omega
      have hlo2 : -255 < (-m).tmod 255 := by omega
      have HT : Hid ((-m).tmod 255 + 255 = (-m) % 255) := Lib.hid (by rw [ht]; omega)
      clear ht
      go_enter Tryd.func70, Tryd.ntmps70
      go_wp2
      go_ret
      exact ⟨ret_int (by omega), rfl⟩

theorem powOfZero_any (n : Int) (w : World) :
    Calls Tryd.prog 77 #[.int .i64 n] w fun e w' => e = .returned (.int .u8 (Gf.powI 0 n : Nat)) ∧ w = w' := by
  by_cases h : n = 0
  · subst h
    go_enter Tryd.func77, Tryd.ntmps77
    go_wp2
    go_ret
    exact ⟨ret_int (by simp [Gf.powI]), rfl⟩
  · have hb : (n == 0) = false := by simpa using h
    have HP : Hid ((Gf.powI 0 n : Nat) = 0) := Lib.hid (by simp [Gf.powI, h])
    go_enter Tryd.func77, Tryd.ntmps77
    go_wp2
    go_ret
    exact ⟨ret_int (by rw [HP.out]; rfl), rfl⟩

def PowAt (a L : Nat) (x p l : Value) : Prop :=
  ∃ x' p' l' : Nat, x' < 256 ∧ p' < 256 ∧ l' < 255 ∧ Gf.mul p' (Gf.pw x' l') = Gf.pw a L ∧ x = .int .u8 x' ∧ p = .int .u8 p' ∧ l = .int .i64 l'
theorem pow_nat (a : Nat) (n : Int) (ha : a < 256) (w : World) :
    Calls Tryd.prog 58 #[.int .u8 (a : Int), .int .i64 n] w fun e w' => e = .returned (.int .u8 (Gf.powI a n : Nat)) ∧ w = w' := by
  by_cases h0 : a = 0
  · subst h0
    go_enter Tryd.func58, Tryd.ntmps58
    go_wp2_with (go_at_call 77; refine (powOfZero_any n _).mono ?_; rintro e w' ⟨rfl, rfl⟩)
    go_ret
    exact ⟨rfl, rfl⟩
  · have hz : ((a : Int) == 0) = false := by simpa using h0
    have HP : Hid (Gf.powI a n = Gf.pw a (n % 255).toNat) := Lib.hid (by unfold Gf.powI; rw [if_neg h0])
    have hm : 0 ≤ n % 255 ∧ n % 255 < 255 := by omega
    obtain ⟨L, hL⟩ := Int.eq_ofNat_of_zero_le hm.1
    have ct : ∀ w, Calls Tryd.prog 70 #[.int .i64 n] w fun e w' => e = .returned (.int .i64 (L : Int)) ∧ w = w' := by
      intro w; rw [← hL]; exact turn_any n w
    have CT := Lib.hid ct
    have HQ : Hid (Gf.powI a n = Gf.pw a L) := Lib.hid (by rw [HP.out, hL]; rfl)
    have hL2 : L < 255 := by omega
    clear hm hL ct HP
    go_enter Tryd.func58, Tryd.ntmps58
    go_wp2_with (go_at_call 70; refine (CT.out _).mono ?_; rintro e w' ⟨rfl, rfl⟩)
    go_loop [0, 5, 6] (fun x p l => PowAt a L x p l) (fun _ _ l => (intOf l).toNat)
    case atStart => exact ⟨a, 1, L, ha, by decide, hL2, Gf.mul_one_left _ (Gf.pw_lt _ _), rfl, rfl, rfl⟩
    case round =>
      obtain ⟨x, p, l, hx, hp, hl, hm, rfl, rfl, rfl⟩ := hrel
      have HM := Lib.hid hm
      clear hm
      have hxx := Gf.mul_lt x x hx
      have hpx := Gf.mul_lt p x hp
      by_cases hl0 : l = 0
      · subst hl0
        go_wp2
        go_ret
        exact ⟨ret_int (by rw [HQ.out, ← HM.out, Gf.pw, Gf.mul_one_right p hp]), rfl⟩
      · have hlp : 0 < l := by omega
        have hand : bits .and .i64 (l : Int) 1 = ((l % 2 : Nat) : Int) := by
          rw [← Gf.and_1]; exact (bits_nat .i64 63 (by decide) (fun n h0 h1 => by rw [IntKind.wrap_i64]; omega) l 1 (by omega) (by decide)).1
        by_cases h1 : l % 2 = 1
        · have ht : (bits .and .i64 (l : Int) 1 == 1) = true := by rw [hand, h1]; rfl
          have HS : Hid (Gf.mul (Gf.mul p x) (Gf.pw (Gf.mul x x) (l / 2)) = Gf.pw a L) := Lib.hid (by
            rw [Gf.pw_mul _ _ hx, ← HM.out, Gf.mul_assoc p x _ hp hx (Gf.pw_lt _ _), Gf.mul_comm x _ hx (Gf.pw_lt _ _)]
            congr 1
            rw [show l = 2 * (l / 2) + 1 by omega, Gf.pw]
            congr 2; omega)
          clear hand h1 hl0
          go_wp2_with fail
          refine (mul_nat p x hp hx _).mono ?_; rintro e w' ⟨rfl, rfl⟩
          go_wp2_with fail
          refine (mul_nat x x hx hx _).mono ?_; rintro e w' ⟨rfl, rfl⟩
          go_wp2_with fail
          go_round
          case rel => exact ⟨Gf.mul x x, Gf.mul p x, l / 2, hxx, hpx, by omega, HS.out, rfl, rfl, by go_num⟩
          case measure => simp [intOf]; omega
        · have ht : (bits .and .i64 (l : Int) 1 == 1) = false := by rw [hand, show l % 2 = 0 by omega]; rfl
          have HS : Hid (Gf.mul p (Gf.pw (Gf.mul x x) (l / 2)) = Gf.pw a L) := Lib.hid (by
            rw [Gf.pw_mul _ _ hx, ← HM.out, show 2 * (l / 2) = l by omega])
          clear hand h1 hl0
          go_wp2_with fail
          refine (mul_nat x x hx hx _).mono ?_; rintro e w' ⟨rfl, rfl⟩
          go_wp2_with fail
          go_round
          case rel => exact ⟨Gf.mul x x, p, l / 2, hxx, hp, by omega, HS.out, rfl, rfl, by go_num⟩
          case measure => simp [intOf]; omega
theorem exp_any (n : Int) (w : World) :
    Calls Tryd.prog 59 #[.int .i64 n] w fun e w' => e = .returned (.int .u8 (Gf.ex (n % 255).toNat : Nat)) ∧ w = w' := by
  have c : ∀ w, Calls Tryd.prog 58 #[.int .u8 2, .int .i64 n] w fun e w' => e = .returned (.int .u8 (Gf.ex (n % 255).toNat : Nat)) ∧ w = w' := by
    intro w
    have h := pow_nat 2 n (by decide) w
    have h2 : Gf.powI 2 n = Gf.ex (n % 255).toNat := by unfold Gf.powI; rw [if_neg (by decide), Gf.pw_two]
    rw [h2] at h
    exact h
  have C := Lib.hid c
  clear c
  go_enter Tryd.func59, Tryd.ntmps59
  go_wp2_with (go_at_call 58; refine (C.out _).mono ?_; rintro e w' ⟨rfl, rfl⟩)
  go_ret
  exact ⟨rfl, rfl⟩
end Go.Proofs.YtgchfijeiggimaaDoor
