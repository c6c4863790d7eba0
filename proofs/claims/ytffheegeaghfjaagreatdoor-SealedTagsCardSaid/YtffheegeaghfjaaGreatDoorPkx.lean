/- Pkx -/
import Derived.Test.YtffheegeaghfjaaGreatDoorTn12
set_option linter.unusedVariables false
set_option linter.unusedSimpArgs false
set_option maxRecDepth 100000
set_option maxHeartbeats 8000000
namespace Go.Proofs.YtffheegeaghfjaaGreatDoor.Da
def trn (f n i : Nat) : List (Nat × Nat × Bool) :=
 if h : n < 2 then [] else if i < spl n then trn f (spl n) i ++ [(f + spl n, f + n, false)] else trn (f + spl n) (n - spl n) (i - spl n) ++ [(f, f + spl n, true)]
termination_by n
decreasing_by
 all_goals
  have := spl_lt (n := n) (by omega)
  omega
def pa (l : List (List UInt8)) (i : Nat) : List (List UInt8) :=
 if h : l.length < 2 then [] else if i < spl l.length then pa (l.take (spl l.length)) i ++ [ov (l.drop (spl l.length))] else pa (l.drop (spl l.length)) (i - spl l.length) ++ [ov (l.take (spl l.length))]
termination_by l.length
decreasing_by
 all_goals
  have := spl_lt (n := l.length) (by omega)
  simp
  omega
def fs (d : List UInt8) (us : List Bool) (ps : List (List UInt8)) : Nat -> List UInt8
 | 0 => d
 | s + 1 => if us.getD s false then nd (bi ps s) (fs d us ps s) else nd (fs d us ps s) (bi ps s)
end Go.Proofs.YtffheegeaghfjaaGreatDoor.Da
namespace Go.Proofs.YtffheegeaghfjaaGreatDoor
open Go.RowKit
attribute [local go_sem] Oper.semAt_some
end Go.Proofs.YtffheegeaghfjaaGreatDoor
namespace Go.Proofs.YtffheegeaghfjaaGreatDoor
open Go.RowKit
attribute [local go_sem] Oper.semAt_some
end Go.Proofs.YtffheegeaghfjaaGreatDoor
namespace Go.Proofs.YtffheegeaghfjaaGreatDoor
open Go.RowKit
attribute [local go_sem] Oper.semAt_some
theorem Buf.block {W W' : World} {g cap : Nat} {ys : List UInt8} (h : Buf W g cap ys) (hk : W'.heap[g]? = W.heap[g]?) : Buf W' g cap ys := by
 obtain ⟨h1, h2⟩ := h
 refine ⟨h1, ?_⟩
 rcases h2 with h2 | ⟨g', cap', cur, e, hg, hh, r1, r2, r3, r4⟩
 ·exact .inl h2
 ·refine .inr ⟨g', cap', cur, e, hg, ?_, r1, r2, r3, r4⟩
  cases e
  rw [hk]
  exact hh
theorem Buf.ne {W : World} {g cap q : Nat} {ys : List UInt8} {u : TypeId} {x : Value} (h : Buf W g cap ys) (k : Boxed W q u x) (hne : u ≠ 5) : g ≠ q := fun e => by
 subst e
 obtain ⟨cur, hc⟩ := h.cells
 unfold Boxed at k
 rw [hc] at k
 cases k
 exact hne rfl
end Go.Proofs.YtffheegeaghfjaaGreatDoor
namespace Go.Proofs.YtffheegeaghfjaaGreatDoor
open Go.RowKit
attribute [local go_sem] Oper.semAt_some
end Go.Proofs.YtffheegeaghfjaaGreatDoor
namespace Go.Proofs.YtffheegeaghfjaaGreatDoor
open Go.RowKit
attribute [local go_sem] Oper.semAt_some
end Go.Proofs.YtffheegeaghfjaaGreatDoor
