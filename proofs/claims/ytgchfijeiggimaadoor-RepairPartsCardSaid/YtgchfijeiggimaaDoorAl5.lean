/- The answer of law05 to its example. -/
import Derived.Test.YtgchfijeiggimaaDoorFx
import Derived.Test.YtgchfijeiggimaaDoorEn
namespace Go.Proofs.YtgchfijeiggimaaDoor
open Go.RowKit
set_option linter.unusedVariables false
set_option linter.unusedSimpArgs false
theorem eok_nil (n : Nat) : EOk n [] := ⟨fun k hk => absurd hk (by simp), fun i j hj hi => absurd hi (by simp), by simp⟩
theorem chg_ex (V : List UInt8) (hV : V.length = 35) (hc : IsCode V) (h2 : co V 1 = 2) : Chg V (V.set 1 9) 35 [] [1] :=
  ⟨hc, hV, by rw [List.length_set, hV], by omega, eok_nil 35, by simp, fun p hp => by
    simp at hp
    subst hp
    refine ⟨by omega, ?_, by simp⟩
    rw [co_set, if_pos ⟨rfl, by omega⟩, h2]
    decide, fun p hp hne _ => by
    rw [co_set] at hne
    by_cases h : 1 = p ∧ 1 < V.length
    · rw [← h.1]; simp
    · rw [if_neg h] at hne
      exact absurd rfl hne, by simp⟩
set_option maxRecDepth 100000 in
set_option maxHeartbeats 4000000 in
theorem alive5_any (w : World) : Calls Tryd.prog 7 #[] w fun e w' => e = .returned (.bool true) ∧ Below w.heap.size w w' := by
  obtain ⟨w1, hw1⟩ : ∃ w1, w.alloc (.cells #[.int .u8 1, .int .u8 2, .int .u8 3] 5) = w1 := ⟨_, rfl⟩
  have hb1 : Below w.heap.size w w1 := by rw [← hw1]; exact (Below.refl _ _).alloc (Nat.le_refl _) _
  have hr1 : RowIs w1 (some ⟨w.heap.size, 0, none⟩) (bytesV [1, 2, 3]) 3 := by
    rw [← hw1]
    exact row_cells_at (z := [1, 2, 3]) (World.alloc_heap_new w _) (by unfold maxLen; simp)
  have HEN := Lib.hid (encode_own [1, 2, 3] (some ⟨w.heap.size, 0, none⟩) 3 w1 hr1 (by simp) (by simp))
  have HB1 := Lib.hid hb1
  have HW1 := Lib.hid hw1
  clear hb1 hr1 hw1
  go_enter Tryd.func7, Tryd.ntmps7
  go_wp2_with (rw [HW1.out])
  refine HEN.out.mono ?_; rintro e w2 ⟨r, g, cap, hrl, hc, rfl, hg, hbuf, hb2⟩
  obtain ⟨V, hV⟩ : ∃ V, ([1, 2, 3] : List UInt8) ++ r = V := ⟨_, rfl⟩
  have hVl : V.length = 35 := by rw [← hV, List.length_append, hrl]; rfl
  have hV1 : co V 1 = 2 := by rw [← hV]; rfl
  rw [hV] at hbuf hc ⊢
  rw [hVl]
  have hca := hbuf.le
  rw [hVl] at hca
  have hca1 := hca.1
  have hca2 := hca.2
  unfold maxLen at hca2
  have hx := chg_ex V hVl hc hV1
  have hc1 := hbuf.cell 1 (by omega)
  have hf1 := hbuf.frozen 1
  have hst := hbuf.store 1 9
  obtain ⟨w3, hw3⟩ : ∃ w3, w2.setCell ⟨g, 1, none⟩ (.int .u8 ((9 : UInt8).toNat : Int)) = w3 := ⟨_, rfl⟩
  rw [hw3] at hst
  have HB3 := Lib.hid ((Kit.step HB1.out hb2).trans (Only.below hst.2 (Nat.le_trans HB1.out.size hg) (Kit.step HB1.out hb2).size))
  have HFX := Lib.hid (cfix_any (V.set 1 9) [] 35 cap 0 (some ⟨g, 0, none⟩) none w3 (fun _ => ⟨0, 0, none⟩) hst.1.row ⟨by simp, by simp, fun _ => rfl, fun h => by simp at h⟩ (by rw [List.length_set, hVl]) (by omega) (by omega) (eok_nil 35) (fun h => absurd hx (h _ _)) _ rfl _ rfl)
  have HX := Lib.hid hx
  have hw3' : w2.setCell ⟨g, 1, none⟩ (.int .u8 9) = w3 := hw3
  have HW3 := Lib.hid hw3'
  have HV1 := Lib.hid hV1
  have HVL := Lib.hid hVl
  clear hb2 hV hVl hV1 hbuf hc hrl hca hx hst hw3 hw3' HEN hg
  go_wp2_with (rw [HW3.out])
  try rw [HW3.out]
  refine HFX.out.mono ?_; rintro e w4 ⟨hb4, ⟨hno, _⟩ | ⟨v, H, x1, x2, hch, rfl, hr, hi⟩⟩
  · exact absurd HX.out (hno _ _)
  have hu := hch.uniq HX.out
  subst hu
  have hl := hch.same HX.out
  have hl : H.length = 1 := hl
  obtain ⟨o1, c1, rfl, hr⟩ := hr
  obtain ⟨o2, c2, rfl, hi⟩ := hi
  obtain ⟨b, off, rfl, hlt, hcell⟩ := hr.cells (by simp [HVL.out])
  have hcv := hcell 1 _ (bytesV_get v 1 (by rw [HVL.out]; omega))
  rw [show v.getD 1 0 = 2 from HV1.out] at hcv
  rw [HVL.out, hl]
  obtain ⟨d, hd⟩ : ∃ d, (dfL (v.set 1 9) v 35).length = d := ⟨_, rfl⟩
  rw [hd]
  obtain ⟨w5, hw5⟩ : ∃ w5, w4.alloc (.cells #[.slice (some ⟨b, off, none⟩) 35 c1, .slice o2 d c2, .int .i64 1] 35) = w5 := ⟨_, rfl⟩
  have hb5 : Below w4.heap.size w4 w5 := by rw [← hw5]; exact (Below.refl _ _).alloc (Nat.le_refl _) _
  have hg5 : w5.heap[w4.heap.size]? = some (.cells #[.slice (some ⟨b, off, none⟩) 35 c1, .slice o2 d c2, .int .i64 1] 35 (0, 0)) := by rw [← hw5]; exact World.alloc_heap_new _ _
  obtain ⟨hcc0, _, hcc2, _⟩ := fx_cells hg5
  have hcv5 : w5.cell? ⟨b, off + 1, none⟩ = some (.int .u8 2) := by
    rw [hb5.cell (p := ⟨b, off + 1, none⟩) hlt]
    exact hcv
  have HB5 := Lib.hid (Kit.step (Kit.step HB3.out hb4) hb5)
  have HW5 := Lib.hid hw5
  clear hb4 hch hl hr hi hlt hcell hcv hd hw5 hb5 hg5 HFX HX
  go_wp2_with (rw [HW5.out])
  go_ret
  exact ⟨rfl, HB5.out⟩
end Go.Proofs.YtgchfijeiggimaaDoor
