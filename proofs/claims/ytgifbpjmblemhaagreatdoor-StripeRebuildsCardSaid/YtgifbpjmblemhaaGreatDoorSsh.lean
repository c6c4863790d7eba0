/- The walk of StripeShapes; the answer of law06 to its example. -/
import Derived.Test.YtgifbpjmblemhaaGreatDoorSh
import Derived.Test.YtgifbpjmblemhaaGreatDoorErr
namespace Go.Proofs.YtgifbpjmblemhaaGreatDoor
open Go.RowKit
set_option linter.unusedVariables false
set_option linter.unusedSimpArgs false
theorem alive6_any (w : World) : Calls Tryz.prog 4 #[] w fun e w' => e = .returned (.bool true) ∧ Below w.heap.size w w' := by
  have h := ctotal_any 0 w (by omega)
  rw [show totN (nbk 0) = 33 from rfl] at h
  have H : Hid (Calls Tryz.prog 10 #[.int .i64 0] w fun e w' => e = .returned (.tuple #[.int .i64 33, .nilIface]) ∧ Below w.heap.size w w') := Lib.hid h
  clear h
  go_enter Tryz.func4, Tryz.ntmps4
  go_wp2_with fail
  refine H.out.mono ?_; rintro e w1 ⟨rfl, hb⟩
  have HB := Lib.hid hb
  clear hb H
  go_wp2_with fail
  go_ret
  exact ⟨rfl, HB.out⟩
theorem atG_mono (l : List Nat) (k d : Nat) (h : k + d ≤ l.length) : atG l k ≤ atG l (k + d) := by
  induction d with
  | zero => exact Nat.le_refl _
  | succ d ih =>
    have h1 := atG_succ l (k + d) (by omega)
    have h2 := ih (by omega)
    have h3 : atG l (k + (d + 1)) = atG l (k + d + 1) := rfl
    omega
theorem ints_nil6 (w : World) : RowIs w none (intsV []) 0 := ⟨by simp, by simp, fun _ => rfl, fun h => by simp at h⟩
def SshAt (l : List Nat) (g : Nat) (w : World) (a i : Value) (wr : World) : Prop := ∃ k : Nat, k ≤ g ∧ i = .int .i64 k ∧ a = .int .i64 ((atG l k : Nat) : Int) ∧ Kit.Dn w wr
end Go.Proofs.YtgifbpjmblemhaaGreatDoor
