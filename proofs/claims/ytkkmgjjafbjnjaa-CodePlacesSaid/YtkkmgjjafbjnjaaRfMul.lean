/- The document's own product (package baileeref01) is the field's. -/
import Derived.Test.YtkkmgjjafbjnjaaFw
namespace Go.Proofs.Ytkkmgjjafbjnjaa
open Go.RowKit
set_option linter.unusedVariables false
namespace Gf
/-- one bit's part of a sum -/
def part (b i x : Nat) : Nat := if b.testBit i then x else 0
/-- the product of two polynomials, after n bits -/
def cl (a b : Nat) : Nat → Nat
  | 0 => 0
  | n + 1 => cl a b n ^^^ part b n (a * 2 ^ n)
/-- the rest, from bit 7 + n down -/
def rd : Nat → Nat → Nat
  | 0, p => p
  | n + 1, p => rd n (p ^^^ part p (8 + n) (285 * 2 ^ n))
theorem part_xor (p q i x : Nat) : part (p ^^^ q) i x = part p i x ^^^ part q i x := by
  unfold part
  rw [Nat.testBit_xor]
  cases p.testBit i <;> cases q.testBit i <;> simp
theorem rd_xor (n p q : Nat) : rd n (p ^^^ q) = rd n p ^^^ rd n q := by
  induction n generalizing p q with
  | zero => rfl
  | succ n ih =>
    unfold rd
    rw [part_xor, ← ih]
    congr 1
    ac_rfl
theorem rd_zero (n : Nat) : rd n 0 = 0 := by
  induction n with
  | zero => rfl
  | succ n ih => unfold rd; simp [part, ih]
theorem rd_part (n b i x : Nat) : rd n (part b i x) = part b i (rd n x) := by
  unfold part
  split
  · rfl
  · exact rd_zero n
theorem dbls_succ (n a : Nat) : dbls n (dbl a) = dbls (n + 1) a := by
  induction n with
  | zero => rfl
  | succ n ih => rw [dbls, ih]; rfl
theorem mulN_succ (n a b : Nat) : mulN (n + 1) a b = mulN n a b ^^^ part b n (dbls n a) := by
  induction n generalizing a b with
  | zero =>
    simp only [mulN, part, dbls, Nat.testBit_zero, Nat.xor_zero, Nat.zero_xor, decide_eq_true_eq]
  | succ n ih =>
    rw [mulN, ih, mulN, dbls_succ, ← Nat.xor_assoc]
    unfold part
    rw [Nat.testBit_succ]
theorem rd_dbls (a n : Nat) (ha : a < 256) (hn : n < 8) : rd 7 (a * 2 ^ n) = dbls n a := by
  have h : (List.range 8).all (fun n => (List.range 256).all fun a => rd 7 (a * 2 ^ n) == dbls n a) = true := by decide +kernel
  simpa using all_of (all_of h n hn) a ha
theorem rd_cl (a b n : Nat) (ha : a < 256) (hn : n ≤ 8) : rd 7 (cl a b n) = mulN n a b := by
  induction n with
  | zero => exact rd_zero 7
  | succ n ih => rw [cl, rd_xor, rd_part, rd_dbls a n ha (by omega), ih (by omega), mulN_succ]
theorem cl_rd (a b : Nat) (ha : a < 256) : rd 7 (cl a b 8) = mul a b := rd_cl a b 8 ha (Nat.le_refl _)
theorem part_lt (b i x m : Nat) (h : x < 2 ^ m) : part b i x < 2 ^ m := by
  unfold part
  split
  · exact h
  · exact Nat.two_pow_pos m
theorem shift_lt (a n : Nat) (ha : a < 512) (hn : n < 8) : a * 2 ^ n < 2 ^ 16 := by
  have h1 : 2 ^ n ≤ 2 ^ 7 := Nat.pow_le_pow_right (by decide) (by omega)
  have h2 : a * 2 ^ n ≤ 511 * 2 ^ 7 := Nat.mul_le_mul (by omega) h1
  omega
theorem cl_lt (a b n : Nat) (ha : a < 256) (hn : n ≤ 8) : cl a b n < 2 ^ 16 := by
  induction n with
  | zero => exact Nat.two_pow_pos 16
  | succ n ih => exact Nat.xor_lt_two_pow (ih (by omega)) (part_lt _ _ _ _ (shift_lt a n (by omega) (by omega)))
theorem bit_test (b i : Nat) : (((b : Int) / 2 ^ i).tmod 2 == 1) = b.testBit i := by
  have h : ((b : Int) / 2 ^ i).tmod 2 = ((b / 2 ^ i % 2 : Nat) : Int) := by
    rw [show ((b : Int) / 2 ^ i) = ((b / 2 ^ i : Nat) : Int) by simp]
    rfl
  rw [h, Nat.testBit_eq_decide_div_mod_eq, Bool.eq_iff_iff]
  simp only [beq_iff_eq, decide_eq_true_eq]
  omega
theorem shl_int (a i : Nat) : (a : Int) * 2 ^ i = ((a * 2 ^ i : Nat) : Int) := by simp
theorem xor64 (p q : Nat) (hp : p < 2 ^ 16) (hq : q < 2 ^ 16) : bits .xor .i64 (p : Int) (q : Int) = ((p ^^^ q : Nat) : Int) := by
  have hx : p ^^^ q < 2 ^ 16 := Nat.xor_lt_two_pow hp hq
  have hp' : p % 2 ^ IntKind.i64.bits = p := Nat.mod_eq_of_lt (by show p < 2 ^ 64; omega)
  have hq' : q % 2 ^ IntKind.i64.bits = q := Nat.mod_eq_of_lt (by show q < 2 ^ 64; omega)
  simp only [bits, BitVec.ofInt_natCast, BitVec.toNat_xor, BitVec.toNat_ofNat, hp', hq']
  rw [IntKind.wrap_i64]
  omega
end Gf
def ClAt (a b : Nat) (p i : Value) : Prop := ∃ i' : Nat, i' ≤ 8 ∧ p = .int .i64 (Gf.cl a b i' : Nat) ∧ i = .int .i64 i'
def RdAt (a b : Nat) (p i : Value) : Prop := ∃ p' n : Nat, n ≤ 7 ∧ p' < 65536 ∧ Gf.rd n p' = Gf.mul a b ∧ p = .int .i64 p' ∧ i = .int .i64 ((n : Int) + 7)
set_option maxHeartbeats 1000000 in
theorem rmul_nat (a b : Nat) (ha : a < 256) (hb : b < 256) (w : World) :
    Calls Try.prog 14 #[.int .u8 (a : Int), .int .u8 (b : Int)] w fun e w' => e = .returned (.int .u8 (Gf.mul a b : Nat)) ∧ w = w' := by
  have hmul := Gf.mul_lt a b ha
  go_enter Try.func14, Try.ntmps14
  go_wp2
  go_loop [5, 6] (fun p i => ClAt a b p i) (fun _ i => 8 - (intOf i).toNat)
  case atStart => exact ⟨0, by decide, rfl, rfl⟩
  case round =>
    obtain ⟨i, hi, rfl, rfl⟩ := hrel
    have hp := Gf.cl_lt a b i ha hi
    by_cases hlt : i < 8
    · have hs := Gf.shift_lt a i (by omega) hlt
      have ht := Gf.bit_test b i
      have hw : wrap64 ((a : Int) * 2 ^ i) = ((a * 2 ^ i : Nat) : Int) := by rw [Gf.shl_int]; exact IntWalk.wrap64_in _ ⟨by omega, by omega⟩
      have HX : Hid (bits .xor .i64 (Gf.cl a b i : Nat) (wrap64 ((a : Int) * 2 ^ i)) = ((Gf.cl a b i ^^^ (a * 2 ^ i) : Nat) : Int)) := Lib.hid (by rw [hw]; exact Gf.xor64 _ _ hp hs)
      clear hw
      by_cases hbit : b.testBit i = true
      · rw [hbit] at ht
        have HN : Hid (Gf.cl a b (i + 1) = Gf.cl a b i ^^^ (a * 2 ^ i)) := Lib.hid (by simp [Gf.cl, Gf.part, hbit])
        clear hbit hs
        go_wp2
        go_round
        case rel => exact ⟨i + 1, by omega, by rw [HX.out, HN.out], by go_num⟩
        case measure => simp [intOf]; omega
      · have hbf : b.testBit i = false := by simpa using hbit
        rw [hbf] at ht
        have HN : Hid (Gf.cl a b (i + 1) = Gf.cl a b i) := Lib.hid (by simp [Gf.cl, Gf.part, hbf])
        clear hbit hbf hs
        go_wp2
        go_round
        case rel => exact ⟨i + 1, by omega, by rw [HN.out], by go_num⟩
        case measure => simp [intOf]; omega
    · obtain rfl : i = 8 := by omega
      have HR := Lib.hid (Gf.cl_rd a b ha)
      generalize hc : Gf.cl a b 8 = c0 at *
      clear hc
      go_wp2
      go_loop [5, 7] (fun p i => RdAt a b p i) (fun _ i => (intOf i).toNat - 7)
      case atStart => exact ⟨_, 7, by decide, hp, HR.out, rfl, rfl⟩
      case round =>
        obtain ⟨p, n, hn, hp2, hr, rfl, rfl⟩ := hrel
        have HQ := Lib.hid hr
        clear hr
        by_cases h0 : n = 0
        · subst h0
          have hpe : (p : Int) = (Gf.mul a b : Nat) := by have h := HQ.out; simp only [Gf.rd] at h; rw [h]
          have HE := Lib.hid hpe
          have hp3 : (p : Int) < 256 := by omega
          clear hpe
          go_wp2
          go_ret
          exact ⟨ret_int HE.out, rfl⟩
        · obtain ⟨m, rfl⟩ : ∃ m, n = m + 1 := ⟨n - 1, by omega⟩
          have hs := Gf.shift_lt 285 m (by omega) (by omega)
          have ht := Gf.bit_test p (m + 1 + 7)
          have hw : wrap64 ((285 : Int) * 2 ^ m) = ((285 * 2 ^ m : Nat) : Int) := by rw [show ((285 : Int) * 2 ^ m) = ((285 * 2 ^ m : Nat) : Int) by simp]; exact IntWalk.wrap64_in _ ⟨by omega, by omega⟩
          have HX : Hid (bits .xor .i64 (p : Int) (wrap64 ((285 : Int) * 2 ^ m)) = ((p ^^^ (285 * 2 ^ m) : Nat) : Int)) := Lib.hid (by rw [hw]; exact Gf.xor64 _ _ hp2 hs)
          have hpx : p ^^^ (285 * 2 ^ m) < 65536 := Nat.xor_lt_two_pow (n := 16) hp2 hs
          have hm8 : 8 + m = m + 1 + 7 := by omega
          clear hw
          by_cases hbit : p.testBit (m + 1 + 7) = true
          · rw [hbit] at ht
            have HN : Hid (Gf.rd m (p ^^^ (285 * 2 ^ m)) = Gf.mul a b) := Lib.hid (by rw [← HQ.out, Gf.rd, hm8, Gf.part, if_pos hbit])
            clear hbit hs hm8
            go_wp2
            go_round
            case rel => exact ⟨_, m, by omega, hpx, HN.out, by rw [HX.out], by go_num⟩
            case measure => simp [intOf]; omega
          · have hbf : p.testBit (m + 1 + 7) = false := by simpa using hbit
            rw [hbf] at ht
            have HN : Hid (Gf.rd m p = Gf.mul a b) := Lib.hid (by rw [← HQ.out, Gf.rd, hm8, Gf.part, if_neg hbit, Nat.xor_zero])
            clear hbit hbf hs hm8
            go_wp2
            go_round
            case rel => exact ⟨p, m, by omega, hp2, HN.out, rfl, by go_num⟩
            case measure => simp [intOf]; omega
end Go.Proofs.Ytkkmgjjafbjnjaa
