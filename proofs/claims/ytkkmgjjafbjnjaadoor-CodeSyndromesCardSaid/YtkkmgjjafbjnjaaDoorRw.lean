/- The document's polynomial answers over rows; Div's by nought. -/
import Derived.Test.YtkkmgjjafbjnjaaDoorRr
import Derived.Test.YtkkmgjjafbjnjaaDoorAp
import Derived.Test.YtkkmgjjafbjnjaaDoorErr
import Derived.Deep.QuietTactic
import Derived.BigQuiet
namespace Go.Proofs.YtkkmgjjafbjnjaaDoor
open Go.RowKit
set_option linter.unusedVariables false
set_option linter.unusedSimpArgs false
theorem rtrim_rv {p : List UInt8} {a : Value} {v : World} (hp : RowV p a v) (hl : p.length ≤ 1000000) : Calls Tryd.prog 21 #[a] v (Rows (tr p) v) := by
  obtain ⟨o, c, rfl, hp⟩ := hp
  exact rtrim_any p o c v hp hl
theorem rmulp_rv {p q : List UInt8} {x y : Value} {v : World} (hp : RowV p x v) (hq : RowV q y v) (hl : p.length + q.length ≤ 100000) : Calls Tryd.prog 23 #[x, y] v (Rows (tr (mulL p q)) v) := by
  obtain ⟨o, c, rfl, hp⟩ := hp
  obtain ⟨o2, c2, rfl, hq⟩ := hq
  exact rmulp_any p q o o2 c c2 v hp hq hl
attribute [local go_sem] Oper.semAt_some
theorem div_zero (p q : List UInt8) (o o2 : Option Addr) (c c2 : Nat) (w : World) (A : Nat → Addr) (hE : Er.Errs w A) (hQ : RowIs w o2 (bytesV q) c2) (h0 : (tr q).length = 0) :
    Calls Tryd.prog 27 #[.slice o p.length c, .slice o2 q.length c2] w fun e w' => e = .returned (.tuple #[.slice none 0 0, .slice none 0 0, .iface 92 (.pointer (some (A 19)))]) ∧ Below w.heap.size w w' := by
  have h3 := hQ.le
  have h4 := hQ.cap
  simp only [bytesV_length] at h3
  unfold maxLen at h4
  have HE := Lib.hid hE
  have HQ := Lib.hid hQ
  clear hE hQ
  refine Rf.calls_marks Tryd.func27 rfl ?_
  simp only [Tryd.ntmps27, List.size_toArray, List.length_cons, List.length_nil, Nat.reduceAdd, Nat.reduceSub, Array.replicate_succ, Array.replicate_zero, List.push_toArray, List.append_toArray, List.nil_append, List.cons_append]
  have hb0 : Below w.heap.size w (w.alloc (.cells #[.slice o2 q.length c2] 22)) := (Below.refl _ _).alloc (Nat.le_refl _) _
  have HC := Lib.hid (cut_any o2 q c2 _ (HQ.out.later hb0))
  have HB0 := Lib.hid hb0
  clear hb0
  go_wp2_with fail
  refine HC.out.mono ?_; rintro e v ⟨rfl, hb, hr⟩
  have hx : Boxed v w.heap.size 22 (.slice o2 q.length c2) := boxed_later (Boxed.new w _ _) hb
  have hf := hx.frozen
  have hc := hx.cell
  obtain ⟨w1, hw1⟩ : ∃ w1, v.setCell ⟨w.heap.size, 0, none⟩ (.slice o2 (tr q).length c2) = w1 := ⟨_, rfl⟩
  have hb1 : Below w.heap.size w w1 := by rw [← hw1]; exact (HB0.out.trans (hb.mono (by simp))).setCell (p := ⟨w.heap.size, 0, none⟩) (Nat.le_refl _) _
  have hx1 : Boxed w1 w.heap.size 22 (.slice o2 (tr q).length c2) := by rw [← hw1]; exact hx.set _
  have hc1 := hx1.cell
  rw [h0] at hc1 hw1
  have hE1 := (HE.out.later hb1).c19
  have HB1 := Lib.hid hb1
  have HW1 := Lib.hid hw1
  clear hb hr hx hb1 hx1 hw1 HC
  go_wp2_with fail
  rw [HW1.out]
  go_wp2_with fail
  go_quiet (fail)
  go_wp2_with fail
  refine ⟨_, results_tmp3 rfl _ _ _, ?_⟩
  exact ⟨rfl, HB1.out.trans ⟨rfl, rfl, rfl, Nat.le_refl _, fun _ _ => rfl⟩⟩
end Go.Proofs.YtkkmgjjafbjnjaaDoor
