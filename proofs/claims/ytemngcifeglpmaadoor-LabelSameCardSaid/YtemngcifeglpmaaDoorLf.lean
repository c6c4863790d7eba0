/- The keys in a row: list, the statements' Row; Same. -/
import Derived.Test.YtemngcifeglpmaaDoorLe
namespace Go.Proofs.YtemngcifeglpmaaDoor
open Go.RowKit
set_option linter.unusedVariables false
set_option linter.unusedSimpArgs false
/-- five slices -/
def Sl5 (xs : List Value) : Prop := ∃ (o0 o1 o2 o3 o4 : Option Addr) (l0 l1 l2 l3 l4 c0 c1 c2 c3 c4 : Nat), xs = [.slice o0 l0 c0, .slice o1 l1 c1, .slice o2 l2 c2, .slice o3 l3 c3, .slice o4 l4 c4]
theorem Els.five {W : World} {bs : List (List UInt8)} {xs : List Value} (h : Els W bs xs) (hl : bs.length = 5) : Sl5 xs := by
  have hx : xs.length = 5 := h.len.trans hl
  match xs, hx with
  | [x0, x1, x2, x3, x4], _ =>
    obtain ⟨y0, e0, o0, c0, r0, _⟩ := h.get 0 (by omega)
    obtain ⟨y1, e1, o1, c1, r1, _⟩ := h.get 1 (by omega)
    obtain ⟨y2, e2, o2, c2, r2, _⟩ := h.get 2 (by omega)
    obtain ⟨y3, e3, o3, c3, r3, _⟩ := h.get 3 (by omega)
    obtain ⟨y4, e4, o4, c4, r4, _⟩ := h.get 4 (by omega)
    simp at e0 e1 e2 e3 e4
    subst e0 e1 e2 e3 e4
    exact ⟨o0, o1, o2, o3, o4, _, _, _, _, _, c0, c1, c2, c3, c4, by rw [r0, r1, r2, r3, r4]⟩
set_option maxRecDepth 100000 in
theorem llist_of (Z : Array Value) (hZ : nil5.toArray = Z) (hzs : ∀ w, Sem.run Tryd.prog (zeroValue 39) w = .ok (.agg Z) w) (xs : List Value) (h : Sl5 xs) (w : World) :
    Calls Tryd.prog 24 #[.agg xs.toArray] w fun e w' => e = .returned (.agg xs.toArray) ∧ Below w.heap.size w w' := by
  obtain ⟨o0, o1, o2, o3, o4, l0, l1, l2, l3, l4, c0, c1, c2, c3, c4, rfl⟩ := h
  obtain ⟨W1, hW1⟩ : ∃ W1, w.alloc (Obj.cells #[.slice o0 l0 c0, .slice o1 l1 c1, .slice o2 l2 c2, .slice o3 l3 c3, .slice o4 l4 c4] 36) = W1 := ⟨_, rfl⟩
  obtain ⟨W2, hW2⟩ : ∃ W2, W1.alloc (Obj.cells Z 39) = W2 := ⟨_, rfl⟩
  obtain ⟨g, hg⟩ : ∃ g, w.heap.size = g := ⟨_, rfl⟩
  obtain ⟨F, hF⟩ : ∃ F : Array Value, ([.slice o0 l0 c0, .slice o1 l1 c1, .slice o2 l2 c2, .slice o3 l3 c3, .slice o4 l4 c4] : List Value).toArray = F := ⟨_, rfl⟩
  have hs1 : W1.heap.size = g + 1 := by rw [← hW1, World.size_alloc, hg]
  have hA1 : Arr W1 g 36 [.slice o0 l0 c0, .slice o1 l1 c1, .slice o2 l2 c2, .slice o3 l3 c3, .slice o4 l4 c4] := by rw [← hW1, ← hg]; exact Arr.made _ _ _
  have hA2 : Arr W2 g 36 [.slice o0 l0 c0, .slice o1 l1 c1, .slice o2 l2 c2, .slice o3 l3 c3, .slice o4 l4 c4] := by rw [← hW2]; exact hA1.alloc _
  have hb2 : Below w.heap.size w W2 := by
    rw [← hW2, ← hW1]; exact ((Below.refl _ _).alloc (Nat.le_refl _) _).alloc (by rw [World.size_alloc]; omega) _
  have HL2 : Hid (W2.heap[g + 1]? = some (.cells Z 39 (0, 0))) := Lib.hid (by
    have : Arr W2 W1.heap.size 39 Z.toList := by rw [← hW2]; exact Arr.made _ _ _
    rw [hs1] at this
    exact this)
  have hc0 : W2.cell? ⟨g, 0, none⟩ = some (.slice o0 l0 c0) := hA2.cell 0
  have hc1 : W2.cell? ⟨g, 1, none⟩ = some (.slice o1 l1 c1) := hA2.cell 1
  have hc2 : W2.cell? ⟨g, 2, none⟩ = some (.slice o2 l2 c2) := hA2.cell 2
  have hc3 : W2.cell? ⟨g, 3, none⟩ = some (.slice o3 l3 c3) := hA2.cell 3
  have hc4 : W2.cell? ⟨g, 4, none⟩ = some (.slice o4 l4 c4) := hA2.cell 4
  have HFS : Hid ((Tryd.prog.info? 39).map (·.size) = some F.size) := Lib.hid (by rw [k5_info, ← hF]; rfl)
  have HFO : Hid (F.all (·.oneCell') = true) := Lib.hid (by rw [← hF]; exact sl5_one _ _ _ _ _ _ _ _ _ _ _ _ _ _ _)
  have HFZ : Hid (Z.size = F.size) := Lib.hid (by rw [← hZ, ← hF]; rfl)
  have HY : Hid ((W2.setRow (g + 1) F).heap[g + 1]? = some (.cells F 39 (0, 0))) := Lib.hid (setRow_heap _ _ _ _ _ _ HL2.out)
  have HBY : Hid (Below w.heap.size w (W2.setRow (g + 1) F)) := Lib.hid (hb2.trans (below_row (by omega)))
  have HG := Lib.hid hg
  have HF := Lib.hid hF
  have HS1 := Lib.hid hs1
  have HW1 := Lib.hid hW1
  have HW2 := Lib.hid hW2
  clear hW1 hW2 hg hF hs1 hA1 hA2 hb2 hZ
  rw [HF.out]
  go_enter Tryd.func24, Tryd.ntmps24
  rw [← HF.out]
  go_upto_region 1 with fail
  rw [HW1.out, HW2.out, HG.out]
  apply wp_region_lit
  iterate 10 (refine wpList_plain rfl (fun K hK => ?_); go_simp; refine hK _ _ ?_; clear hK K)
  refine wpList_built rfl 39 _ rfl [(0, .slice o0 l0 c0), (1, .slice o1 l1 c1), (2, .slice o2 l2 c2), (3, .slice o3 l3 c3), (4, .slice o4 l4 c4)] (by simp [Act.eval]) _ (k5_built _ _ _ _ _ _ _ _ _ _ _ _ _ _ _) ?_
  rw [HF.out]
  refine wpList_store_rowTo rfl 39 (.tmp 2) (.tmp 13) rfl rfl (g + 1) F rfl rfl 39 Z HL2.out HFS.out HFZ.out HFO.out ?_
  go_wp2_with fail
  refine bodyPost_ret (results_cell_row rfl _ _ (g + 1) 39 F (0, 0) _ rfl HY.out k5_under rfl HFS.out) rfl ?_
  exact ⟨by rw [HF.out], HBY.out⟩
theorem llist_any (xs : List Value) (h : Sl5 xs) (w : World) :
    Calls Tryd.prog 24 #[.agg xs.toArray] w fun e w' => e = .returned (.agg xs.toArray) ∧ Below w.heap.size w w' := llist_of _ rfl k5_zero xs h w
set_option maxRecDepth 100000 in
theorem lrow_of (Z : Array Value) (hZ : nil5.toArray = Z) (hzs : ∀ w, Sem.run Tryd.prog (zeroValue 39) w = .ok (.agg Z) w) (xs : List Value) (h : Sl5 xs) (w : World) :
    Calls Tryd.prog 18 #[.agg xs.toArray] w fun e w' => e = .returned (.agg xs.toArray) ∧ Below w.heap.size w w' := by
  obtain ⟨o0, o1, o2, o3, o4, l0, l1, l2, l3, l4, c0, c1, c2, c3, c4, rfl⟩ := h
  obtain ⟨W1, hW1⟩ : ∃ W1, w.alloc (Obj.cells #[.slice o0 l0 c0, .slice o1 l1 c1, .slice o2 l2 c2, .slice o3 l3 c3, .slice o4 l4 c4] 36) = W1 := ⟨_, rfl⟩
  obtain ⟨W2, hW2⟩ : ∃ W2, W1.alloc (Obj.cells Z 39) = W2 := ⟨_, rfl⟩
  obtain ⟨g, hg⟩ : ∃ g, w.heap.size = g := ⟨_, rfl⟩
  obtain ⟨F, hF⟩ : ∃ F : Array Value, ([.slice o0 l0 c0, .slice o1 l1 c1, .slice o2 l2 c2, .slice o3 l3 c3, .slice o4 l4 c4] : List Value).toArray = F := ⟨_, rfl⟩
  have hs1 : W1.heap.size = g + 1 := by rw [← hW1, World.size_alloc, hg]
  have hA1 : Arr W1 g 36 [.slice o0 l0 c0, .slice o1 l1 c1, .slice o2 l2 c2, .slice o3 l3 c3, .slice o4 l4 c4] := by rw [← hW1, ← hg]; exact Arr.made _ _ _
  have hA2 : Arr W2 g 36 [.slice o0 l0 c0, .slice o1 l1 c1, .slice o2 l2 c2, .slice o3 l3 c3, .slice o4 l4 c4] := by rw [← hW2]; exact hA1.alloc _
  have hb2 : Below w.heap.size w W2 := by
    rw [← hW2, ← hW1]; exact ((Below.refl _ _).alloc (Nat.le_refl _) _).alloc (by rw [World.size_alloc]; omega) _
  have HL2 : Hid (W2.heap[g + 1]? = some (.cells Z 39 (0, 0))) := Lib.hid (by
    have : Arr W2 W1.heap.size 39 Z.toList := by rw [← hW2]; exact Arr.made _ _ _
    rw [hs1] at this
    exact this)
  have hc0 : W2.cell? ⟨g, 0, none⟩ = some (.slice o0 l0 c0) := hA2.cell 0
  have hc1 : W2.cell? ⟨g, 1, none⟩ = some (.slice o1 l1 c1) := hA2.cell 1
  have hc2 : W2.cell? ⟨g, 2, none⟩ = some (.slice o2 l2 c2) := hA2.cell 2
  have hc3 : W2.cell? ⟨g, 3, none⟩ = some (.slice o3 l3 c3) := hA2.cell 3
  have hc4 : W2.cell? ⟨g, 4, none⟩ = some (.slice o4 l4 c4) := hA2.cell 4
  have HFS : Hid ((Tryd.prog.info? 39).map (·.size) = some F.size) := Lib.hid (by rw [k5_info, ← hF]; rfl)
  have HFO : Hid (F.all (·.oneCell') = true) := Lib.hid (by rw [← hF]; exact sl5_one _ _ _ _ _ _ _ _ _ _ _ _ _ _ _)
  have HFZ : Hid (Z.size = F.size) := Lib.hid (by rw [← hZ, ← hF]; rfl)
  have HY : Hid ((W2.setRow (g + 1) F).heap[g + 1]? = some (.cells F 39 (0, 0))) := Lib.hid (setRow_heap _ _ _ _ _ _ HL2.out)
  have HBY : Hid (Below w.heap.size w (W2.setRow (g + 1) F)) := Lib.hid (hb2.trans (below_row (by omega)))
  have HG := Lib.hid hg
  have HF := Lib.hid hF
  have HS1 := Lib.hid hs1
  have HW1 := Lib.hid hW1
  have HW2 := Lib.hid hW2
  clear hW1 hW2 hg hF hs1 hA1 hA2 hb2 hZ
  rw [HF.out]
  go_enter Tryd.func18, Tryd.ntmps18
  rw [← HF.out]
  go_upto_region 1 with fail
  rw [HW1.out, HW2.out, HG.out]
  apply wp_region_lit
  iterate 10 (refine wpList_plain rfl (fun K hK => ?_); go_simp; refine hK _ _ ?_; clear hK K)
  refine wpList_built rfl 39 _ rfl [(0, .slice o0 l0 c0), (1, .slice o1 l1 c1), (2, .slice o2 l2 c2), (3, .slice o3 l3 c3), (4, .slice o4 l4 c4)] (by simp [Act.eval]) _ (k5_built _ _ _ _ _ _ _ _ _ _ _ _ _ _ _) ?_
  rw [HF.out]
  refine wpList_store_rowTo rfl 39 (.tmp 2) (.tmp 13) rfl rfl (g + 1) F rfl rfl 39 Z HL2.out HFS.out HFZ.out HFO.out ?_
  go_wp2_with fail
  refine bodyPost_ret (results_cell_row rfl _ _ (g + 1) 39 F (0, 0) _ rfl HY.out k5_under rfl HFS.out) rfl ?_
  exact ⟨by rw [HF.out], HBY.out⟩
theorem lrow_any (xs : List Value) (h : Sl5 xs) (w : World) :
    Calls Tryd.prog 18 #[.agg xs.toArray] w fun e w' => e = .returned (.agg xs.toArray) ∧ Below w.heap.size w w' := lrow_of _ rfl k5_zero xs h w
end Go.Proofs.YtemngcifeglpmaaDoor
