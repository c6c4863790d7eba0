/- Contracts of the functions of package field that compute with numbers alone. -/
import Derived.Test.YthbmbobjalgafaaDoorRows
import Derived.Test.YthbmbobjalgafaaDoorGf
import Derived.WalkKit
import Derived.ProofKit
import Derived.OpenShut
import Derived.Laws.BitsAllLaws
import Derived.Lib.Hide
namespace Go.Proofs.YthbmbobjalgafaaDoor
open Go.RowKit
set_option linter.unusedVariables false
theorem ret_int {k : IntKind} {a b : Int} (h : a = b) : Ending.returned (.int k a) = .returned (.int k b) := by rw [h]

namespace Gf
theorem and_128 (a : Nat) (ha : a < 256) : a &&& 128 = if a < 128 then 0 else 128 := by
  have h : (List.range 256).all (fun a => a &&& 128 == if a < 128 then 0 else 128) = true := by decide +kernel
  simpa using all_of h a ha
theorem and_1 (a : Nat) : a &&& 1 = a % 2 := Nat.and_two_pow_sub_one_eq_mod a 1
end Gf

theorem double_any (a : Nat) (ha : a < 256) (w : World) :
    Calls Tryd.prog 31 #[.int .u8 (a : Int)] w fun e w' => e = .returned (.int .u8 (Gf.dbl a : Nat)) ∧ w = w' := by
  have hb : bits .and .u8 (a : Int) 128 = ((a &&& 128 : Nat) : Int) := u8_and_nat a 128 ha (by decide)
  rw [Gf.and_128 a ha] at hb
  by_cases h : a < 128
  · rw [if_pos h] at hb
    have hc : (bits .and .u8 (a : Int) 128 != 0) = false := by rw [hb]; rfl
    clear hb
    have hd : Gf.dbl a = 2 * a := by unfold Gf.dbl; rw [if_pos h]
    have HD := Lib.hid hd
    clear hd
    go_enter Tryd.func31, Tryd.ntmps31
    go_wp2
    go_ret
    exact ⟨ret_int (by rw [HD.out]; omega), rfl⟩
  · rw [if_neg h] at hb
    have hc : (bits .and .u8 (a : Int) 128 != 0) = true := by rw [hb]; rfl
    clear hb
    have hx : bits .xor .u8 (IntKind.u8.wrap (a * 2)) 29 = (Gf.dbl a : Nat) := by
      have : IntKind.u8.wrap (a * 2) = ((2 * a - 256 : Nat) : Int) := by rw [IntKind.wrap_u8]; omega
      rw [this, show (29 : Int) = ((29 : Nat) : Int) from rfl, u8_xor_nat _ 29 (by omega) (by decide)]
      unfold Gf.dbl; rw [if_neg h]
    rw [IntKind.wrap_u8] at hx
    have HX := Lib.hid hx
    clear hx
    go_enter Tryd.func31, Tryd.ntmps31
    go_wp2
    go_ret
    exact ⟨ret_int (by rw [HX.out]), rfl⟩
theorem add_any (a b : Nat) (ha : a < 256) (hb : b < 256) (w : World) :
    Calls Tryd.prog 26 #[.int .u8 (a : Int), .int .u8 (b : Int)] w fun e w' => e = .returned (.int .u8 (a ^^^ b : Nat)) ∧ w = w' := by
  go_enter Tryd.func26, Tryd.ntmps26
  go_wp2
  go_ret
  exact ⟨ret_int (u8_xor_nat a b ha hb), rfl⟩

def MulAt (a b : Nat) (x y p : Value) : Prop :=
  ∃ k x' y' p' : Nat, x' < 256 ∧ y' < 256 ∧ p' < 256 ∧ y' < 2 ^ k ∧ Gf.mul a b = p' ^^^ Gf.mulN k x' y' ∧ x = .int .u8 x' ∧ y = .int .u8 y' ∧ p = .int .u8 p'
end Go.Proofs.YthbmbobjalgafaaDoor
