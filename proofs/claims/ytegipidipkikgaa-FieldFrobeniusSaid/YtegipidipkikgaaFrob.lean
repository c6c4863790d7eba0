/- For every pair of numbers FieldFrobenius returns true: no condition. -/
import Derived.Test.YtegipidipkikgaaFm
set_option linter.unusedVariables false
namespace Go.Proofs.Ytegipidipkikgaa
open Go.RowKit
namespace Gf
theorem pw_2 (a : Nat) (ha : a < 256) : pw a 2 = mul a a := by rw [pw, pw, pw, mul_one_left a ha]
theorem powI_two (a : Nat) (ha : a < 256) : powI a 2 = mul a a := by
  unfold powI
  split
  · subst_vars; rfl
  · exact pw_2 a ha
theorem powI_256 (a : Nat) (ha : a < 256) : powI a 256 = a := by
  unfold powI
  split
  · rw [if_neg (by decide)]; subst_vars; rfl
  · show pw a 1 = a
    rw [pw, pw, mul_one_left a ha]
theorem square_xor (a b : Nat) (ha : a < 256) (hb : b < 256) : mul (a ^^^ b) (a ^^^ b) = mul a a ^^^ mul b b := by
  rw [mul_xor_left a b _ ha hb, mul_xor_right a a b ha ha hb, mul_xor_right b a b hb ha hb, mul_comm b a hb ha]
  rw [Nat.xor_assoc, ← Nat.xor_assoc (mul a b), Nat.xor_self, Nat.zero_xor]
end Gf
theorem frobenius_walk (a b : Nat) (ha : a < 256) (hb : b < 256) (w : World) :
    Calls Try.prog 4 #[.int .u8 (a : Int), .int .u8 (b : Int)] w fun e w' => e = .returned (.bool true) ∧ Grown w w' := by
  have hab := Gf.xor_lt ha hb
  have c1 : ∀ w, Calls Try.prog 12 #[.int .u8 (a ^^^ b : Nat), .int .i64 2] w fun e w' => e = .returned (.int .u8 (Gf.mul a a ^^^ Gf.mul b b : Nat)) ∧ w = w' := by
    intro w; rw [← Gf.square_xor a b ha hb, ← Gf.powI_two _ hab]; exact pow_nat _ 2 hab w
  have c2 : ∀ w, Calls Try.prog 12 #[.int .u8 a, .int .i64 2] w fun e w' => e = .returned (.int .u8 (Gf.mul a a : Nat)) ∧ w = w' := by
    intro w; rw [← Gf.powI_two _ ha]; exact pow_nat _ 2 ha w
  have c3 : ∀ w, Calls Try.prog 12 #[.int .u8 b, .int .i64 2] w fun e w' => e = .returned (.int .u8 (Gf.mul b b : Nat)) ∧ w = w' := by
    intro w; rw [← Gf.powI_two _ hb]; exact pow_nat _ 2 hb w
  have c4 : ∀ w, Calls Try.prog 12 #[.int .u8 a, .int .i64 256] w fun e w' => e = .returned (.int .u8 (a : Nat)) ∧ w = w' := by
    intro w; have h := pow_nat a 256 ha w; rw [Gf.powI_256 _ ha] at h; exact h
  have C1 := Lib.hid c1
  have C2 := Lib.hid c2
  have C3 := Lib.hid c3
  have C4 := Lib.hid c4
  have hma := Gf.mul_lt a a ha
  have hmb := Gf.mul_lt b b hb
  clear c1 c2 c3 c4
  go_enter Try.func4, Try.ntmps4
  go_wp2_with fail
  refine (alive_any _).mono ?_; rintro e w1 ⟨rfl, hg, hs⟩
  have HG := Lib.hid hg
  clear hg
  go_wp2_with fail
  refine (add_any a b ha hb _).mono ?_; rintro e w' ⟨rfl, rfl⟩
  go_wp2_with fail
  refine (C1.out _).mono ?_; rintro e w' ⟨rfl, rfl⟩
  go_wp2_with fail
  refine (C2.out _).mono ?_; rintro e w' ⟨rfl, rfl⟩
  go_wp2_with fail
  refine (C3.out _).mono ?_; rintro e w' ⟨rfl, rfl⟩
  go_wp2_with fail
  refine (add_any _ _ hma hmb _).mono ?_; rintro e w' ⟨rfl, rfl⟩
  go_wp2_with fail
  refine (C2.out _).mono ?_; rintro e w' ⟨rfl, rfl⟩
  go_wp2_with fail
  refine (mul_nat a a ha ha _).mono ?_; rintro e w' ⟨rfl, rfl⟩
  go_wp2_with fail
  refine (C4.out _).mono ?_; rintro e w' ⟨rfl, rfl⟩
  go_wp2_with fail
  go_ret
  exact ⟨rfl, HG.out⟩
end Go.Proofs.Ytegipidipkikgaa
