/- The shape of a file: contracts of the code's count, Shape, total, Total, Group, and of the document's Shape. The walk of StripeShapes; the answer of law06 to its example. -/
import Derived.Test.YtaanjlbkncfnbaaDoorIns
import Derived.Test.YtaanjlbkncfnbaaDoorSb
import Derived.Test.YtaanjlbkncfnbaaDoorErr
namespace Go.Proofs.YtaanjlbkncfnbaaDoor
open Go.RowKit
set_option linter.unusedVariables false
set_option linter.unusedSimpArgs false
def natI (l : List Nat) : List Int := l.map fun k : Nat => (k : Int)
@[simp] theorem natI_length (l : List Nat) : (natI l).length = l.length := by simp [natI]
theorem natI_getD (l : List Nat) (k : Nat) : (natI l).getD k 0 = ((l.getD k 0 : Nat) : Int) := by
  unfold natI
  by_cases h : k < l.length
  · simp [List.getD_eq_getElem?_getD, h]
  · simp [List.getD_eq_getElem?_getD, h]
theorem same_below (w : World) (n : Nat) : Below w.heap.size w (w.drewN n) := ⟨rfl, rfl, rfl, Nat.le_refl _, fun _ _ => rfl⟩
theorem ow_nil (w : World) (C : Array Value) (T : TypeId) : (w.alloc (.cells C T)).ownsRow w.heap.size 3 1 (.slice none 0 0) 0 (intsV []) := World.ownsRow_nil _ _ _ _
theorem cell_new (w : World) (C : Array Value) (T : TypeId) (v : Value) (h : C[0]? = some v) : (w.alloc (.cells C T)).cell? ⟨w.heap.size, 0, none⟩ = some v := by
  rw [cell_of_row _ _ 0 _ _ _ (World.alloc_heap_new w (.cells C T))]
  exact h
theorem cell_laterB {W W' : World} {g : Nat} {v : Value} (hb : Below W.heap.size W W') (hc : W.cell? ⟨g, 0, none⟩ = some v) : W'.cell? ⟨g, 0, none⟩ = some v := by
  obtain ⟨ob, ho, _⟩ := cells_of_cell hc
  rw [hb.cell (p := ⟨g, 0, none⟩) (Array.getElem?_eq_some_iff.1 ho).1]; exact hc
theorem below_new (w : World) (o : Obj) : Below w.heap.size w (w.alloc o) := (Below.refl _ _).alloc (Nat.le_refl _) _
theorem sumN_take_le (l : List Nat) (k : Nat) : sumN (l.take k) ≤ sumN l := by
  have := sumN_app (l.take k) (l.drop k)
  rw [List.take_append_drop] at this
  omega
theorem sumN_take_succ (l : List Nat) (k : Nat) (h : k < l.length) : sumN (l.take (k + 1)) = sumN (l.take k) + l.getD k 0 := by
  have e : l.take (k + 1) = l.take k ++ [l.getD k 0] := by
    rw [List.take_add_one, List.getElem?_eq_getElem h]
    simp [List.getD_eq_getElem?_getD, List.getElem?_eq_getElem h]
  rw [e, sumN_app]; simp
def TtAt (l : List Nat) (w : World) (s i : Value) (wr : World) : Prop := ∃ k : Nat, k ≤ l.length ∧ i = .int .i64 k ∧ s = .int .i64 ((sumN (l.take k) + 32 * k : Nat) : Int) ∧ wr = w
theorem natI_cell {l : List Nat} {W : World} {o : Option Addr} {c : Nat} (h : RowIs W o (intsV (natI l)) c) (k : Nat) (hk : k < l.length) :
    ∃ b off, o = some ⟨b, off, none⟩ ∧ b < W.heap.size ∧ W.cell? ⟨b, off + k, none⟩ = some (.int .i64 ((l.getD k 0 : Nat) : Int)) := by
  obtain ⟨b, off, e, hb, hc⟩ := h.cells (by simp; omega)
  refine ⟨b, off, e, hb, ?_⟩
  rw [hc k _ (intsV_get _ k (by simpa using hk)), natI_getD]
theorem shp_sum (n : Nat) : sumN (shp n) = nbk n := shpN_sum _
theorem shp_len (n : Nat) : 1 ≤ (shp n).length ∧ (shp n).length ≤ 2 := shpN_le _
/-- where place p stands -/
def GrTo (l : List Nat) (p : Int) (u : TypeId) (v : Value) (w : World) (e : Ending) (w' : World) : Prop :=
  Below w.heap.size w w' ∧ ((∃ g, g < l.length ∧ (atG l g : Int) ≤ p ∧ p < (atG l g : Int) + ((szG l g : Int) + 32) ∧ e = .returned (.tuple #[.int .i64 (g : Int), .int .i64 (p - (atG l g : Int)), .nilIface])) ∨
    ((p < 0 ∨ (atG l l.length : Int) ≤ p) ∧ e = .returned (.tuple #[.int .i64 0, .int .i64 0, .iface u v])))
def GpAt (l : List Nat) (p : Int) (w : World) (q i : Value) (wr : World) : Prop := ∃ k : Nat, k ≤ l.length ∧ i = .int .i64 k ∧ q = .int .i64 (p - (atG l k : Int)) ∧ (atG l k : Int) ≤ p ∧ Kit.Dn w wr
def RsAt (m : Nat) (w : World) (n v : Value) (wr : World) : Prop :=
  Below w.heap.size w wr ∧ ((n = .int .i64 (m : Int) ∧ wr.ownsRow w.heap.size 3 1 v 0 (intsV [])) ∨ (223 < m ∧ n = .int .i64 ((m - 223 : Nat) : Int) ∧ wr.ownsRow w.heap.size 3 1 v 1 (intsV [223])))
end Go.Proofs.YtaanjlbkncfnbaaDoor
namespace Go.Proofs.YtaanjlbkncfnbaaDoor
open Go.RowKit
set_option linter.unusedVariables false
set_option linter.unusedSimpArgs false
theorem atG_mono (l : List Nat) (k d : Nat) (h : k + d ≤ l.length) : atG l k ≤ atG l (k + d) := by
  induction d with
  | zero => exact Nat.le_refl _
  | succ d ih =>
    have h1 := atG_succ l (k + d) (by omega)
    have h2 := ih (by omega)
    have h3 : atG l (k + (d + 1)) = atG l (k + d + 1) := rfl
    omega
theorem ints_nil6 (w : World) : RowIs w none (intsV []) 0 := ⟨by simp, by simp, fun _ => rfl, fun h => by simp at h⟩
def SshAt (l : List Nat) (g : Nat) (w : World) (a i : Value) (wr : World) : Prop := ∃ k : Nat, k ≤ g ∧ i = .int .i64 k ∧ a = .int .i64 ((atG l k : Nat) : Int) ∧ Kit.Dn w wr
end Go.Proofs.YtaanjlbkncfnbaaDoor
