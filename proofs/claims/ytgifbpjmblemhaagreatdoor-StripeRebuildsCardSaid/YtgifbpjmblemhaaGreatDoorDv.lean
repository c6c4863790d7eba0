/- Contract of Div. -/
import Derived.Test.YtgifbpjmblemhaaGreatDoorRr
import Derived.Test.YtgifbpjmblemhaaGreatDoorApw
import Derived.Test.YtgifbpjmblemhaaGreatDoorFwm
import Derived.Test.YtgifbpjmblemhaaGreatDoorRg
import Derived.Test.YtgifbpjmblemhaaGreatDoorDm
import Derived.Deep.QuietTactic
import Derived.BigQuiet
namespace Go.Proofs.YtgifbpjmblemhaaGreatDoor
open Go.RowKit
set_option linter.unusedVariables false
set_option linter.unusedSimpArgs false
attribute [local go_sem] Oper.semAt_some
theorem lit_of (a : Array Value) (n : Nat) (h : a.size = n) : a = ((List.range n).map fun i => a.getD i undef).toArray := by
  subst h
  apply Array.ext
  · simp
  · intro i h1 h2
    simp [Array.getD_eq_getD_getElem?, h1]
/-- what lies behind the line that makes Div's variables: the table at T, the rest's own row x, and the three variables -/
structure D4 (v0 : World) (b7 b8 b9 T : Nat) (C : Array Value) (x : Value) (p : List UInt8) (u7 u8 u9 : Value) (v : World) : Prop where
  below : Below v0.heap.size v0 v
  g7 : v0.heap.size ≤ b7
  g8 : v0.heap.size ≤ b8
  g9 : v0.heap.size ≤ b9
  gT : v0.heap.size ≤ T
  x7 : Boxed v b7 112 u7
  x8 : Boxed v b8 3 u8
  x9 : Boxed v b9 24 u9
  tab : TabAt v T C
  own : v.ownsRow v0.heap.size 5 1 x (tr p).length (bytesV (tr p))
theorem boxed_ne {v : World} {a b : Nat} {s t : TypeId} {x y : Value} (h : Boxed v a s x) (k : Boxed v b t y) (hne : s ≠ t) : a ≠ b := fun e => by
  subst e
  have := (show v.heap[a]? = _ from h).symm.trans k
  simp at this
  exact hne this.2
theorem tab_ne {v : World} {a T : Nat} {s : TypeId} {x : Value} {C : Array Value} (h : Boxed v a s x) (k : TabAt v T C) (hne : s ≠ 127) : T ≠ a := fun e => by
  subst e
  have := (show v.heap[T]? = _ from h).symm.trans k.block
  simp at this
  exact hne this.2
theorem own_set {v : World} {n a : Nat} {s : TypeId} {y x u : Value} {m : Nat} {xs : List Value} (h : v.ownsRow n 5 1 x m xs) (k : Boxed v a s y) (hne : s ≠ 5) : (v.setCell ⟨a, 0, none⟩ u).ownsRow n 5 1 x m xs :=
  h.kept (grownBy_setCell' v a u) (.inr (Ne.symm (k.not_row hne h)))
theorem tab_set {v : World} {a T : Nat} {C : Array Value} {u : Value} (k : TabAt v T C) (hne : T ≠ a) : TabAt (v.setCell ⟨a, 0, none⟩ u) T C := Only.tab (grownBy_setCell' v a u) k hne
variable {v0 v : World} {b7 b8 b9 T : Nat} {C : Array Value} {x u7 u8 u9 : Value} {p : List UInt8}
theorem D4.set7 (h : D4 v0 b7 b8 b9 T C x p u7 u8 u9 v) (u : Value) : D4 v0 b7 b8 b9 T C x p u u8 u9 (v.setCell ⟨b7, 0, none⟩ u) :=
  ⟨h.below.setCell (p := ⟨b7, 0, none⟩) h.g7 _, h.g7, h.g8, h.g9, h.gT, h.x7.set _, h.x8.other (boxed_ne h.x8 h.x7 (by decide)) _, h.x9.other (boxed_ne h.x9 h.x7 (by decide)) _, tab_set h.tab (tab_ne h.x7 h.tab (by decide)), own_set h.own h.x7 (by decide)⟩
theorem D4.set8 (h : D4 v0 b7 b8 b9 T C x p u7 u8 u9 v) (u : Value) : D4 v0 b7 b8 b9 T C x p u7 u u9 (v.setCell ⟨b8, 0, none⟩ u) :=
  ⟨h.below.setCell (p := ⟨b8, 0, none⟩) h.g8 _, h.g7, h.g8, h.g9, h.gT, h.x7.other (boxed_ne h.x7 h.x8 (by decide)) _, h.x8.set _, h.x9.other (boxed_ne h.x9 h.x8 (by decide)) _, tab_set h.tab (tab_ne h.x8 h.tab (by decide)), own_set h.own h.x8 (by decide)⟩
theorem D4.set9 (h : D4 v0 b7 b8 b9 T C x p u7 u8 u9 v) (u : Value) : D4 v0 b7 b8 b9 T C x p u7 u8 u (v.setCell ⟨b9, 0, none⟩ u) :=
  ⟨h.below.setCell (p := ⟨b9, 0, none⟩) h.g9 _, h.g7, h.g8, h.g9, h.gT, h.x7.other (boxed_ne h.x7 h.x9 (by decide)) _, h.x8.other (boxed_ne h.x8 h.x9 (by decide)) _, h.x9.set _, tab_set h.tab (tab_ne h.x9 h.tab (by decide)), own_set h.own h.x9 (by decide)⟩
/-- what each operation of that line has as its result -/
def DvG (p q : List UInt8) (v0 : World) (o o2 : Option Addr) (c c2 : Nat) (i : Nat) (x : Value) (v : World) : Prop :=
  match i with
  | 0 => ∃ T C, x = .pointer (some ⟨T, 0, none⟩) ∧ v0.heap.size ≤ T ∧ TabAt v T C
  | 1 => x = .slice o2 (tr q).length c2
  | 2 => x = .int .i64 ((tr q).length : Int)
  | 3 => x = .int .i64 (((tr q).length : Int) - 1)
  | 4 => x = .slice o p.length c
  | 5 => v.ownsRow v0.heap.size 5 1 x (tr p).length (bytesV (tr p))
  | 6 => ∃ b u, x = .pointer (some ⟨b, 0, none⟩) ∧ v0.heap.size ≤ b ∧ Boxed v b 112 u
  | 7 => ∃ b u, x = .pointer (some ⟨b, 0, none⟩) ∧ v0.heap.size ≤ b ∧ Boxed v b 3 u
  | _ => ∃ b u, x = .pointer (some ⟨b, 0, none⟩) ∧ v0.heap.size ≤ b ∧ Boxed v b 24 u
theorem owns_later {W W' : World} {n : Nat} {v : Value} {xs : List Value} {m : Nat} (h : W.ownsRow n 5 1 v m xs) (hb : Below W.heap.size W W') : W'.ownsRow n 5 1 v m xs := by
  obtain ⟨hl, hx⟩ := h
  refine ⟨hl, ?_⟩
  rcases hx with hx | ⟨g', cap', cur, h, h0, hh, h4⟩
  · exact .inl hx
  · exact .inr ⟨g', cap', cur, h, h0, by rw [hb.block g' (Array.getElem?_eq_some_iff.1 hh).1]; exact hh, h4⟩
theorem DvG.later {p q : List UInt8} {v0 : World} {o o2 : Option Addr} {c c2 : Nat} (i : Nat) (x : Value) (v v' : World) (h : DvG p q v0 o o2 c c2 i x v) (hb : Below v.heap.size v v') : DvG p q v0 o o2 c c2 i x v' := by
  unfold DvG at *
  split at h
  · obtain ⟨T, C, e, hg, ht⟩ := h
    exact ⟨T, C, e, hg, ht.later hb⟩
  · exact h
  · exact h
  · exact h
  · exact h
  · exact owns_later h hb
  · obtain ⟨b, u, e, hg, hx⟩ := h
    exact ⟨b, u, e, hg, boxed_later hx hb⟩
  · obtain ⟨b, u, e, hg, hx⟩ := h
    exact ⟨b, u, e, hg, boxed_later hx hb⟩
  · obtain ⟨b, u, e, hg, hx⟩ := h
    exact ⟨b, u, e, hg, boxed_later hx hb⟩
/-- the blocks that the rounds turn: the quotient's, and the rest's -/
def DvM (g10 : Nat) (o9 : Option Addr) (k : Nat) : Prop := k = g10 ∨ ∃ a, o9 = some a ∧ a.block = k
/-- between the rounds -/
structure DvI (p q : List UInt8) (m nR c9 g10 : Nat) (o9 : Option Addr) (w6 : World) (i : Nat) (X : World) : Prop where
  le : i ≤ nR
  rows : ∃ R Y, DI (tr p) (tr q) m i R Y ∧ RowIs X o9 (bytesV R) c9 ∧ (∀ g, o9 = some ⟨g, 0, none⟩ → Buf X g c9 R) ∧ Buf X g10 (nR - m) Y
  bt : Bts (DvM g10 o9) w6.heap.size w6 X
theorem DvI.nc {p q : List UInt8} {m nR c9 g10 : Nat} {o9 : Option Addr} {w6 : World} {i B : Nat} {X X' : World} (h : DvI p q m nR c9 g10 o9 w6 i X) (k : Rf.NC B X X') (hB : w6.heap.size ≤ B) : DvI p q m nR c9 g10 o9 w6 i X' := by
  obtain ⟨h1, ⟨R, Y, h2, h3, h4, h5⟩, h6⟩ := h
  exact ⟨h1, ⟨R, Y, h2, h3.nc k, fun g hg => (h4 g hg).nc k, h5.nc k⟩, h6.trans (Bts.of_nc k hB)⟩
theorem boxed_buf {v : World} {a g cap : Nat} {t : TypeId} {x : Value} {ys : List UInt8} (h : Boxed v a t x) (k : Buf v g cap ys) (hne : t ≠ 5) : a ≠ g := fun e => by
  subst e
  obtain ⟨cur, hc⟩ := k.cells
  have := (show v.heap[a]? = _ from h).symm.trans hc
  simp at this
  exact hne this.2
theorem tab_buf {v : World} {T g cap : Nat} {C : Array Value} {ys : List UInt8} (h : TabAt v T C) (k : Buf v g cap ys) : T ≠ g := fun e => by
  subst e
  obtain ⟨cur, hc⟩ := k.cells
  have := (show v.heap[T]? = _ from h.block).symm.trans hc
  simp at this
theorem D4.later {v0 v v' : World} {b7 b8 b9 T : Nat} {C : Array Value} {x u7 u8 u9 : Value} {p : List UInt8} (h : D4 v0 b7 b8 b9 T C x p u7 u8 u9 v) (hb : Below v.heap.size v v') : D4 v0 b7 b8 b9 T C x p u7 u8 u9 v' :=
  ⟨h.below.trans (hb.mono h.below.size), h.g7, h.g8, h.g9, h.gT, boxed_later h.x7 hb, boxed_later h.x8 hb, boxed_later h.x9 hb, h.tab.later hb, owns_later h.own hb⟩
theorem ret_leaves {P : Program} {fn : Func} {tmps : Array Value} {R : Ending → World → Prop} {D : Nat} {X : World} {v : Value}
    (hK : X.heap[D]? = some (.deferred (some []))) (hr : (results fn tmps).run P (X.putObj D (.deferred none)) = .ok v (X.putObj D (.deferred none))) (h : R (.returned v) (X.putObj D (.deferred none))) :
    Code.wp P Code.ret (bodyPostM Fence.wide 0 P fn R) { tmps := tmps, defers := [{ target := .collected D, args := #[] }] } X := by
  exact wp_ret (Rf.leaves hK hr h)
/-- three answers: quotient, rest, and no error -/
def DivsTo (p q : List UInt8) (w : World) (e : Ending) (w' : World) : Prop :=
  ∃ Y R x y, DivOf p q Y R ∧ Y.length ≤ p.length ∧ e = .returned (.tuple #[x, y, .nilIface]) ∧ RowV Y x w' ∧ RowV R y w' ∧ Below w.heap.size w w'
end Go.Proofs.YtgifbpjmblemhaaGreatDoor
