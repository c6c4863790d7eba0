/- Contracts of field.Inv and field.Div. -/
import Derived.Test.YtegipidipkikgaaDoorFm
namespace Go.Proofs.YtegipidipkikgaaDoor
open Go.RowKit
set_option linter.unusedVariables false
namespace Gf
/-- the inverse -/
def inv (a : Nat) : Nat := pw a 254
theorem inv_lt (a : Nat) : inv a < 256 := pw_lt _ _
theorem mul_inv (a : Nat) (h0 : a ≠ 0) (ha : a < 256) : mul a (inv a) = 1 := by
  obtain ⟨n, _, rfl⟩ := ex_of a h0 ha
  unfold inv
  rw [pw_ex, mul_ex_ex, ← ex_mod, show (n + n * 254) % 255 = 0 by omega]; rfl
end Gf
theorem inv_zero (a : Nat) (h0 : a = 0) (ev : Value) (w : World) (hc : w.cell? ⟨0, 0, none⟩ = some ev) :
    Calls Tryd.prog 12 #[.int .u8 (a : Int)] w fun e w' => e = .returned (.tuple #[.int .u8 0, ev]) ∧ ∃ n, w' = w.drewN n := by
  have hz : ((a : Int) == 0) = true := by simpa using h0
  clear h0
  go_enter Tryd.func12, Tryd.ntmps12
  go_wp2
  go_quiet (fail)
  go_wp2
  go_ret2
  exact ⟨rfl, _, rfl⟩
theorem inv_pos (a : Nat) (h0 : a ≠ 0) (ha : a < 256) (w : World) :
    Calls Tryd.prog 12 #[.int .u8 (a : Int)] w fun e w' => e = .returned (.tuple #[.int .u8 (Gf.inv a : Nat), .nilIface]) ∧ w = w' := by
  have hz : ((a : Int) == 0) = false := by simpa using h0
  have c : ∀ w, Calls Tryd.prog 23 #[.int .u8 a, .int .i64 (-1)] w fun e w' => e = .returned (.int .u8 (Gf.inv a : Nat)) ∧ w = w' := by
    intro w
    have h := pow_nat a (-1) ha w
    have h2 : Gf.powI a (-1) = Gf.inv a := by unfold Gf.powI Gf.inv; rw [if_neg h0]; rfl
    rw [h2] at h; exact h
  have C := Lib.hid c
  clear c
  go_enter Tryd.func12, Tryd.ntmps12
  go_wp2_with (go_at_call 23; refine (C.out _).mono ?_; rintro e w' ⟨rfl, rfl⟩)
  go_ret2
  exact ⟨rfl, rfl⟩
end Go.Proofs.YtegipidipkikgaaDoor
