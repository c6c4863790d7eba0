/- Contract of Div. -/
import Derived.Test.YtomkkkbdipcjgaaDoorGn
import Derived.Test.YtomkkkbdipcjgaaDoorApw
import Derived.Test.YtomkkkbdipcjgaaDoorFwm
import Derived.Test.YtomkkkbdipcjgaaDoorRg
import Derived.Test.YtomkkkbdipcjgaaDoorDm
import Derived.Deep.QuietTactic
import Derived.BigQuiet
namespace Go.Proofs.YtomkkkbdipcjgaaDoor
open Go.RowKit
set_option linter.unusedVariables false
set_option linter.unusedSimpArgs false
attribute [local go_sem] Oper.semAt_some
theorem lit_of (a : Array Value) (n : Nat) (h : a.size = n) : a = ((List.range n).map fun i => a.getD i undef).toArray := by
  subst h
  apply Array.ext
  · simp
  · intro i h1 h2
    simp [Array.getD_eq_getD_getElem?, h1]
theorem boxed_ne {v : World} {a b : Nat} {s t : TypeId} {x y : Value} (h : Boxed v a s x) (k : Boxed v b t y) (hne : s ≠ t) : a ≠ b := fun e => by
  subst e
  have := (show v.heap[a]? = _ from h).symm.trans k
  simp at this
  exact hne this.2
theorem own_set {v : World} {n a : Nat} {s : TypeId} {y x u : Value} {m : Nat} {xs : List Value} (h : v.ownsRow n 5 1 x m xs) (k : Boxed v a s y) (hne : s ≠ 5) : (v.setCell ⟨a, 0, none⟩ u).ownsRow n 5 1 x m xs :=
  h.kept (grownBy_setCell' v a u) (.inr (Ne.symm (k.not_row hne h)))
variable {v0 v : World} {b7 b8 b9 T : Nat} {C : Array Value} {x u7 u8 u9 : Value} {p : List UInt8}
theorem owns_later {W W' : World} {n : Nat} {v : Value} {xs : List Value} {m : Nat} (h : W.ownsRow n 5 1 v m xs) (hb : Below W.heap.size W W') : W'.ownsRow n 5 1 v m xs := by
  obtain ⟨hl, hx⟩ := h
  refine ⟨hl, ?_⟩
  rcases hx with hx | ⟨g', cap', cur, h, h0, hh, h4⟩
  · exact .inl hx
  · exact .inr ⟨g', cap', cur, h, h0, by rw [hb.block g' (Array.getElem?_eq_some_iff.1 hh).1]; exact hh, h4⟩
/-- the blocks that the rounds turn: the quotient's, and the rest's -/
def DvM (g10 : Nat) (o9 : Option Addr) (k : Nat) : Prop := k = g10 ∨ ∃ a, o9 = some a ∧ a.block = k
/-- between the rounds -/
structure DvI (p q : List UInt8) (m nR c9 g10 : Nat) (o9 : Option Addr) (w6 : World) (i : Nat) (X : World) : Prop where
  le : i ≤ nR
  rows : ∃ R Y, DI (tr p) (tr q) m i R Y ∧ RowIs X o9 (bytesV R) c9 ∧ (∀ g, o9 = some ⟨g, 0, none⟩ → Buf X g c9 R) ∧ Buf X g10 (nR - m) Y
  bt : Bts (DvM g10 o9) w6.heap.size w6 X
theorem DvI.nc {p q : List UInt8} {m nR c9 g10 : Nat} {o9 : Option Addr} {w6 : World} {i B : Nat} {X X' : World} (h : DvI p q m nR c9 g10 o9 w6 i X) (k : Rf.NC B X X') (hB : w6.heap.size ≤ B) : DvI p q m nR c9 g10 o9 w6 i X' := by
  obtain ⟨h1, ⟨R, Y, h2, h3, h4, h5⟩, h6⟩ := h
  exact ⟨h1, ⟨R, Y, h2, h3.nc k, fun g hg => (h4 g hg).nc k, h5.nc k⟩, h6.trans (Bts.of_nc k hB)⟩
theorem boxed_buf {v : World} {a g cap : Nat} {t : TypeId} {x : Value} {ys : List UInt8} (h : Boxed v a t x) (k : Buf v g cap ys) (hne : t ≠ 5) : a ≠ g := fun e => by
  subst e
  obtain ⟨cur, hc⟩ := k.cells
  have := (show v.heap[a]? = _ from h).symm.trans hc
  simp at this
  exact hne this.2
theorem ret_leaves {P : Program} {fn : Func} {tmps : Array Value} {R : Ending → World → Prop} {D : Nat} {X : World} {v : Value}
    (hK : X.heap[D]? = some (.deferred (some []))) (hr : (results fn tmps).run P (X.putObj D (.deferred none)) = .ok v (X.putObj D (.deferred none))) (h : R (.returned v) (X.putObj D (.deferred none))) :
    Code.wp P Code.ret (bodyPostM Fence.wide 0 P fn R) { tmps := tmps, defers := [{ target := .collected D, args := #[] }] } X := by
  exact wp_ret (Rf.leaves hK hr h)
/-- three answers: quotient, rest, and no error -/
def DivsTo (p q : List UInt8) (w : World) (e : Ending) (w' : World) : Prop :=
  ∃ Y R x y, DivOf p q Y R ∧ Y.length ≤ p.length ∧ e = .returned (.tuple #[x, y, .nilIface]) ∧ RowV Y x w' ∧ RowV R y w' ∧ Below w.heap.size w w'
end Go.Proofs.YtomkkkbdipcjgaaDoor
