/- The document's erasure locator. -/
import Derived.Test.YtgchfijeiggimaaDoorDf
import Derived.Test.YtgchfijeiggimaaDoorRr
import Derived.Test.YtgchfijeiggimaaDoorCg
namespace Go.Proofs.YtgchfijeiggimaaDoor
open Go.RowKit
set_option linter.unusedVariables false
set_option linter.unusedSimpArgs false
def ci (z : List Int) (k : Nat) : Int := z.getD k 0
/-- the values that stand for places -/
def xsL (n : Nat) (z : List Int) : List UInt8 := z.map fun p => Gf.al (n - 1 - p.toNat)
theorem co_xsL (n : Nat) (z : List Int) (k : Nat) (h : k < z.length) : co (xsL n z) k = Gf.al (n - 1 - (ci z k).toNat) := by
  simp [co, xsL, ci, List.getD_eq_getElem?_getD, h]
theorem inv_step (z : List UInt8) (k : Nat) : tr (mulL (tr (prodL (fun r => [1, r]) z k)) [1, co z k]) = tr (prodL (fun r => [1, r]) z (k + 1)) := tr_congr (mulL_congr (co_tr _) (fun _ => rfl))
def ErTo (n : Nat) (z : List Int) (w : World) (e : Ending) (w' : World) : Prop :=
  Below w.heap.size w w' ∧ (((∃ k, k < z.length ∧ (ci z k < 0 ∨ (n : Int) ≤ ci z k)) ∧ e = .returned (.tuple #[.slice none 0 0, .int .i64 1])) ∨
    ((∀ k, k < z.length → 0 ≤ ci z k ∧ ci z k < n) ∧ (((∃ i j, j < i ∧ i < z.length ∧ ci z i = ci z j) ∧ e = .returned (.tuple #[.slice none 0 0, .int .i64 10])) ∨
      ((∀ i j, j < i → i < z.length → ci z i ≠ ci z j) ∧ ((32 < z.length ∧ e = .returned (.tuple #[.slice none 0 0, .int .i64 16])) ∨
        (z.length ≤ 32 ∧ ∃ x, e = .returned (.tuple #[x, .int .i64 0]) ∧ RowV (tr (prodL (fun r => [1, r]) (xsL n z) z.length)) x w'))))))
def E1At (n : Nat) (z : List Int) (w : World) (i : Value) (wr : World) : Prop := ∃ k : Nat, k ≤ z.length ∧ i = .int .i64 k ∧ (∀ j, j < k → 0 ≤ ci z j ∧ ci z j < n) ∧ wr = w
def E2At (z : List Int) (w : World) (i : Value) (wr : World) : Prop := ∃ k : Nat, k ≤ z.length ∧ i = .int .i64 k ∧ (∀ a b, b < a → a < k → ci z a ≠ ci z b) ∧ wr = w
def E3At (z : List Int) (k : Nat) (w : World) (i : Value) (wr : World) : Prop := ∃ j : Nat, j ≤ k ∧ i = .int .i64 j ∧ (∀ b, b < j → ci z k ≠ ci z b) ∧ wr = w
def E4At (n : Nat) (z : List Int) (w : World) (v i : Value) (wr : World) : Prop := ∃ k : Nat, k ≤ z.length ∧ i = .int .i64 k ∧ RowV (tr (prodL (fun r => [1, r]) (xsL n z) k)) v wr ∧ Below w.heap.size w wr
end Go.Proofs.YtgchfijeiggimaaDoor
