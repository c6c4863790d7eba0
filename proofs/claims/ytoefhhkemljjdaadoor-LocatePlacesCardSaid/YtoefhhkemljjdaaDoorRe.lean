/- The code's register: what is told, how it begins, Register. -/
import Derived.Test.YtoefhhkemljjdaaDoorFe
import Derived.Laws.EntriesVeiled
namespace Go.Proofs.YtoefhhkemljjdaaDoor
open Go.RowKit
set_option linter.unusedVariables false
set_option linter.unusedSimpArgs false
set_option maxRecDepth 100000 in
set_option maxHeartbeats 2000000 in
theorem told_any (b L : Nat) (C : List UInt8) (oC : Option Addr) (cC : Nat) (w : World) (hn : Boxed w (b + 2) 26 (.slice oC C.length cC)) (hl : Boxed w (b + 3) 3 (.int .i64 (L : Int))) (hC : RowIs w oC (bytesV C) cC) (hCl : C.length ≤ 10000) :
    Calls Tryd.prog 67 #[.pointer (some ⟨b + 2, 0, none⟩), .pointer (some ⟨b + 3, 0, none⟩)] w fun e w' => ∃ x, e = .returned (.tuple #[x, .int .i64 (L : Int)]) ∧ RowV (tr C) x w' ∧ Below w.heap.size w w' := by
  have hc2 := hn.cell
  have hc3 := hl.cell
  have HK : Hid (∀ v, Below w.heap.size w v → v.cell? ⟨b + 2, 0, none⟩ = some (.slice oC C.length cC) ∧ v.cell? ⟨b + 3, 0, none⟩ = some (.int .i64 (L : Int))) := Lib.hid fun v hv => ⟨(boxed_later hn hv).cell, (boxed_later hl hv).cell⟩
  have TC : Hid (∀ v, Below w.heap.size w v → Calls Tryd.prog 53 #[.slice oC C.length cC] v (Rows (tr C) v)) := Lib.hid fun v hv => trim_any C oC cC v (hC.later hv) (by omega)
  clear hn hl hC
  go_enter Tryd.func67, Tryd.ntmps67
  go_wp2_with fail
  go_region_held3 (fun v => v.cell? ⟨b + 2, 0, none⟩ = some (.slice oC C.length cC) ∧ v.cell? ⟨b + 3, 0, none⟩ = some (.int .i64 (L : Int))) (first | exact HK.out _ (Kit.dn' w 0) | exact HK.out _ (Kit.dn' w 1) | exact HK.out _ (Kit.step (Kit.dn' w 1) (by assumption))) (first | (go_at_call 53; refine (TC.out _ (Kit.dn' w 1)).mono ?_; rintro e w3 ⟨x, rfl, hx, hbe⟩; obtain ⟨o3, c3, rfl, hx⟩ := hx))
  go_wp2_with fail
  go_ret2
  exact ⟨_, rfl, ⟨o3, c3, rfl, hx⟩, Kit.step (Kit.dn' w 1) hbe⟩
theorem below_alloc {W X : World} (h : Below W.heap.size W X) (o : Obj) : Below W.heap.size W (X.alloc o) := h.alloc h.size o
set_option maxRecDepth 100000 in
set_option maxHeartbeats 2000000 in
theorem register0_any (w : World) : Calls Tryd.prog 42 #[] w fun e w' => ∃ b T Ct, e = .returned (.tuple #[.func (.func 65) #[] #[.pointer (some ⟨b + 7, 0, none⟩), .pointer (some ⟨b + 8, 0, none⟩), .pointer (some ⟨b + 9, 0, none⟩), .pointer (some ⟨b, 0, none⟩), .pointer (some ⟨b + 6, 0, none⟩), .pointer (some ⟨b + 3, 0, none⟩), .pointer (some ⟨b + 2, 0, none⟩), .pointer (some ⟨b + 5, 0, none⟩)],
      .func (.func 67) #[] #[.pointer (some ⟨b + 2, 0, none⟩), .pointer (some ⟨b + 3, 0, none⟩)]]) ∧ w.heap.size ≤ b ∧ RgM b T Ct [1] 0 [1] 1 0 (some ⟨b + 1, 0, none⟩) 1 (some ⟨b + 4, 0, none⟩) 1 w' ∧ Below w.heap.size w w' := by
  go_enter Tryd.func42, Tryd.ntmps42
  go_wp2_with fail
  refine (make_any _).mono ?_; rintro e w1 ⟨n, C, hC, rfl, hw1⟩
  have hT1 : TabAt w1 w.heap.size C := by rw [hw1]; exact TabAt.made hC
  have hb1 : Below w.heap.size w w1 := by rw [hw1]; exact made_below
  have hs1 : w1.heap.size = w.heap.size + 1 := by rw [hw1]; simp
  have HT1 := Lib.hid hT1
  have HB1 := Lib.hid hb1
  have HS1 := Lib.hid hs1
  clear hC hT1 hb1 hw1 hs1
  go_wp2_with fail
  have hb : ∀ (W : World) (k : Nat) (h : W.heap.size = k) (t : TypeId) (v : Value), Boxed (W.alloc (.cells #[v] t)) k t v := fun W k h t v => h ▸ Boxed.new W t v
  have hrow : ∀ (W : World) (k : Nat), Boxed W k 5 (.int .u8 1) → RowIs W (some ⟨k, 0, none⟩) (bytesV [1]) 1 := fun W k h => row_cells (z := [1]) h (by unfold maxLen; simp)
  have hs := HS1.out
  go_ret2
  refine ⟨w1.heap.size, w.heap.size, C, rfl, by omega, ⟨⟨by omega, ?_, ((((((((((hb _ _ (by simp) _ _).alloc _).alloc _).alloc _).alloc _).alloc _).alloc _).alloc _).alloc _).alloc _), ((((((((hb _ _ (by simp) _ _).alloc _).alloc _).alloc _).alloc _).alloc _).alloc _).alloc _), (((((((hb _ _ (by simp) _ _).alloc _).alloc _).alloc _).alloc _).alloc _).alloc _), (((((hb _ _ (by simp) _ _).alloc _).alloc _).alloc _).alloc _), ((((hb _ _ (by simp) _ _).alloc _).alloc _).alloc _), (((hb _ _ (by simp) _ _).alloc _).alloc _), ((hb _ _ (by simp) _ _).alloc _), (hb _ _ (by simp) _ _)⟩, hrow _ _ (((((((((hb _ _ (by simp) _ _).alloc _).alloc _).alloc _).alloc _).alloc _).alloc _).alloc _).alloc _), hrow _ _ ((((((hb _ _ (by simp) _ _).alloc _).alloc _).alloc _).alloc _).alloc _), (fun _ p hp => by cases hp; unfold FM; dsimp only; omega), (fun _ p hp => by cases hp; unfold FM; dsimp only; omega)⟩, ?_⟩
  · exact HT1.out.later (below_alloc (below_alloc (below_alloc (below_alloc (below_alloc (below_alloc (below_alloc (below_alloc (below_alloc (below_alloc (Below.refl w1.heap.size w1) _) _) _) _) _) _) _) _) _) _)
  · exact Kit.step HB1.out (below_alloc (below_alloc (below_alloc (below_alloc (below_alloc (below_alloc (below_alloc (below_alloc (below_alloc (below_alloc (Below.refl w1.heap.size w1) _) _) _) _) _) _) _) _) _) _)
end Go.Proofs.YtoefhhkemljjdaaDoor
