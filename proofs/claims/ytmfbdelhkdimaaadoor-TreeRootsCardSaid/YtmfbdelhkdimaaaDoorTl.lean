/- Trees: a leaf's and a node's digest and bytes: the code's, and the document's. -/
import Derived.Test.YtmfbdelhkdimaaaDoorTr
import Derived.Test.YtmfbdelhkdimaaaDoorHp
namespace Go.Proofs.YtmfbdelhkdimaaaDoor
open Go.RowKit
set_option linter.unusedVariables false
set_option linter.unusedSimpArgs false
theorem tparts12 {w : World} {a1 a2 a3 : Option Addr} {c1 c2 c3 : Nat} {x y z : List UInt8} (h1 : RowIs w a1 (bytesV x) c1) (h2 : RowIs w a2 (bytesV y) c2) (h3 : RowIs w a3 (bytesV z) c3) :
    RbIs (w.alloc (.cells #[.slice a1 x.length c1, .slice a2 y.length c2, .slice a3 z.length c3] 25)) (some ⟨w.heap.size, 0, none⟩) [x, y, z] 3 :=
  have hA : Arr (w.alloc (.cells #[.slice a1 x.length c1, .slice a2 y.length c2, .slice a3 z.length c3] 25)) w.heap.size 25 [.slice a1 x.length c1, .slice a2 y.length c2, .slice a3 z.length c3] := Arr.made _ _ _
  have hb : Below w.heap.size w (w.alloc (.cells #[.slice a1 x.length c1, .slice a2 y.length c2, .slice a3 z.length c3] 25)) := (Below.refl _ _).alloc (Nat.le_refl _) _
  ⟨[.slice a1 x.length c1, .slice a2 y.length c2, .slice a3 z.length c3], ⟨by simp, by unfold maxLen; decide, fun h => by (cases h), fun h0 => ⟨w.heap.size, 0, rfl, hA.lt, fun i v hv => by rw [Nat.zero_add, hA.cell]; exact hv⟩⟩,
    ((Els.one ⟨a1, c1, rfl, h1.later hb⟩).app (Els.one ⟨a2, c2, rfl, h2.later hb⟩)).app (Els.one ⟨a3, c3, rfl, h3.later hb⟩)⟩
set_option maxRecDepth 100000 in
theorem tleaf_of (Z : Array Value) (hZ : Z = (bytesV (List.replicate 32 0)).toArray) (hzs : ∀ w, Sem.run Tryd.prog (zeroValue 32) w = .ok (.agg Z) w)
    (b : List UInt8) (o : Option Addr) (c : Nat) (w : World) (hR : RowIs w o (bytesV b) c) (hV : Cds w) (hl : b.length ≤ 800000) :
    Calls Tryd.prog 13 #[.slice o b.length c] w fun e w' => e = .returned (.agg (bytesV (Da.lf b)).toArray) ∧ Below w.heap.size w w' := by
  obtain ⟨g, hg⟩ : ∃ g, w.heap.size = g := ⟨_, rfl⟩
  obtain ⟨W1, hW1⟩ : ∃ W1, w.alloc (Obj.cells Z 32) = W1 := ⟨_, rfl⟩
  have hb1 : Below w.heap.size w W1 := by rw [← hW1]; exact new12 _ _
  have hA1 : Arr W1 g 32 Z.toList := by rw [← hW1, ← hg]; exact Arr.made _ _ _
  obtain ⟨W2, hW2⟩ : ∃ W2, W1.alloc (.cells #[.int .u8 0] 5) = W2 := ⟨_, rfl⟩
  have hb2 : Below W1.heap.size W1 W2 := by rw [← hW2]; exact new12 _ _
  have hr2 : RowIs W2 (some ⟨W1.heap.size, 0, none⟩) (bytesV [0]) 1 := by rw [← hW2]; exact zrow12 0 W1
  have hB2 := Kit.step hb1 hb2
  have hp := two_parts hr2 (hR.later hB2)
  rw [show ([0] : List UInt8).length = 1 from rfl] at hp
  obtain ⟨W3, hW3⟩ : ∃ W3, W2.alloc (.cells #[.slice (some ⟨W1.heap.size, 0, none⟩) 1 1, .slice o b.length c] 25) = W3 := ⟨_, rfl⟩
  have hb3 : Below W2.heap.size W2 W3 := by rw [← hW3]; exact new12 _ _
  rw [hW3] at hp
  have hB3 := Kit.step hB2 hb3
  have SO := sof_any [[0], b] (some ⟨W2.heap.size, 0, none⟩) 2 W3 hp (hV.later hB3) (by simp; omega) (by simp)
  rw [show ([[0], b] : List (List UInt8)).flatten = 0 :: b by simp, show ([[0], b] : List (List UInt8)).length = 2 from rfl, show Da.sha (0 :: b) = Da.lf b from rfl] at SO
  obtain ⟨F, hF⟩ : ∃ F, (bytesV (Da.lf b)).toArray = F := ⟨_, rfl⟩
  have hFl := Da.lf_length b
  have HFS : Hid ((Tryd.prog.info? 32).map (·.size) = some F.size) := Lib.hid (by rw [dg_info, ← hF]; simp [hFl])
  have HFO : Hid (F.all (·.oneCell') = true) := Lib.hid (by rw [← hF]; exact all_oneCell_toArray (bytesV_one _))
  have HFZ : Hid (Z.size = F.size) := Lib.hid (by rw [hZ, ← hF]; simp [hFl])
  rw [hF] at SO ⊢
  have HSO := Lib.hid SO
  have HA3 := Lib.hid (hA1.later (Kit.step hb2 hb3) hA1.lt)
  have HB3 := Lib.hid hB3
  have HW1 := Lib.hid hW1
  have HW2 := Lib.hid hW2
  have HW3 := Lib.hid hW3
  have HG := Lib.hid hg
  obtain ⟨L, hL⟩ : ∃ L, b.length = L := ⟨_, rfl⟩
  rw [hL] at HW3 ⊢
  clear SO hp hr2 hb1 hb2 hb3 hB2 hB3 hW1 hW2 hW3 hR hL hl hF hV hA1 hFl hZ hg
  go_enter Tryd.func13, Tryd.ntmps13
  go_upto_region 1 with fail
  rw [HW1.out, HG.out]
  apply wp_region_lit
  (refine wpList_plain rfl (fun K hK => ?_); go_simp; refine hK _ _ ?_; clear hK K)
  rw [HW2.out]
  (refine wpList_plain rfl (fun K hK => ?_); go_simp; refine hK _ _ ?_; clear hK K)
  (refine wpList_plain rfl (fun K hK => ?_); go_simp; refine hK _ _ ?_; clear hK K)
  rw [HW3.out]
  (refine wpList_plain rfl (fun K hK => ?_); go_simp)
  refine HSO.out.mono ?_
  rintro e W4 ⟨rfl, hb4⟩
  refine hK _ _ ?_
  clear hK K HSO
  have hA4 := HA3.out.later hb4 HA3.out.lt
  have HA4 : Hid (W4.heap[g]? = some (.cells Z 32 (0, 0))) := Lib.hid hA4
  have HGW : Hid ((W4.setRow g F).heap[g]? = some (.cells F 32 (0, 0))) := Lib.hid (setRow_heap _ _ _ _ _ _ hA4)
  have HBW : Hid (Below w.heap.size w (W4.setRow g F)) := Lib.hid ((Kit.step HB3.out hb4).trans (below_row (Nat.le_of_eq HG.out)))
  clear hA4 hb4
  refine wpList_store_row rfl 32 (.tmp 2) (.tmp 6) rfl g F rfl rfl 32 Z HA4.out HFS.out HFZ.out HFO.out ?_
  go_wp2_with fail
  refine bodyPost_ret (results_cell_row rfl _ _ g 32 F (0, 0) _ rfl HGW.out dg_under rfl HFS.out) rfl ?_
  exact ⟨rfl, HBW.out⟩
theorem tleaf_any (b : List UInt8) (o : Option Addr) (c : Nat) (w : World) (hR : RowIs w o (bytesV b) c) (hV : Cds w) (hl : b.length ≤ 800000) :
    Calls Tryd.prog 13 #[.slice o b.length c] w fun e w' => e = .returned (.agg (bytesV (Da.lf b)).toArray) ∧ Below w.heap.size w w' := tleaf_of _ rfl dg_zero b o c w hR hV hl
set_option maxRecDepth 100000 in
set_option maxHeartbeats 1000000 in
theorem tinner_any (l r : List UInt8) (hl : l.length = 32) (hr : r.length = 32) (w : World) :
    Calls Tryd.prog 20 #[.agg (bytesV l).toArray, .agg (bytesV r).toArray] w fun e w' => ∃ g cap, e = .returned (.slice (some ⟨g, 0, none⟩) 65 cap) ∧ w.heap.size ≤ g ∧ Buf w' g cap (1 :: (l ++ r)) ∧ Below w.heap.size w w' := by
  obtain ⟨W1, hW1⟩ : ∃ W1, w.alloc (.cells (bytesV l).toArray 32) = W1 := ⟨_, rfl⟩
  obtain ⟨W2, hW2⟩ : ∃ W2, W1.alloc (.cells (bytesV r).toArray 32) = W2 := ⟨_, rfl⟩
  have hb1 : Below w.heap.size w W1 := by rw [← hW1]; exact new12 _ _
  have hb2 : Below W1.heap.size W1 W2 := by rw [← hW2]; exact new12 _ _
  have hA1 : Arr W1 w.heap.size 32 (bytesV l) := by rw [← hW1]; exact Arr.made _ _ _
  have hA2 : Arr W2 W1.heap.size 32 (bytesV r) := by rw [← hW2]; exact Arr.made _ _ _
  obtain ⟨W3, hW3⟩ : ∃ W3, (W2.alloc (.cells #[.int .u8 1] 5)).drew = W3 := ⟨_, rfl⟩
  have hb3 : Below W2.heap.size W2 W3 := by rw [← hW3]; exact Kit.dn (new12 W2 _) 1
  have hr3 : RowIs W3 (some ⟨W2.heap.size, 0, none⟩) (bytesV [1]) 1 := by rw [← hW3]; exact (zrow12 1 W2).later (Kit.dn' _ 1)
  have hR1 := ((hA1.later hb2 hA1.lt).later hb3 (Nat.lt_of_lt_of_le hA1.lt hb2.size)).row (by rw [hl]; unfold maxLen; decide)
  have hR2 := (hA2.later hb3 hA2.lt).row (by rw [hr]; unfold maxLen; decide)
  have hp := tparts12 hr3 hR1 hR2
  rw [show ([1] : List UInt8).length = 1 from rfl, hl, hr] at hp
  obtain ⟨W4, hW4⟩ : ∃ W4, W3.alloc (.cells #[.slice (some ⟨W2.heap.size, 0, none⟩) 1 1, .slice (some ⟨w.heap.size, 0, none⟩) 32 32, .slice (some ⟨W1.heap.size, 0, none⟩) 32 32] 25) = W4 := ⟨_, rfl⟩
  have hb4 : Below W3.heap.size W3 W4 := by rw [← hW4]; exact new12 _ _
  rw [hW4] at hp
  have hB4 := Kit.step (Kit.step (Kit.step hb1 hb2) hb3) hb4
  have CA := cat12_any [[1], l, r] _ 3 3 W4 hp rfl (by simp) (by simp; omega) (by omega)
  have hfl : ([[1], l, r] : List (List UInt8)).flatten = 1 :: (l ++ r) := by simp
  have hln : (1 :: (l ++ r) : List UInt8).length = 65 := by simp; omega
  rw [hfl, hln] at CA
  have HCA := Lib.hid CA
  have HB4 := Lib.hid hB4
  have HW1 := Lib.hid hW1
  have HW2 := Lib.hid hW2
  have HW3 := Lib.hid hW3
  have hs1 : W1.heap.size = w.heap.size + 1 := by rw [← hW1, World.size_alloc]
  rw [hs1] at hW4
  clear hs1
  have HW4 := Lib.hid hW4
  obtain ⟨LA, hLA⟩ : ∃ LA, (bytesV l).toArray = LA := ⟨_, rfl⟩
  obtain ⟨RA, hRA⟩ : ∃ RA, (bytesV r).toArray = RA := ⟨_, rfl⟩
  rw [hLA] at HW1 ⊢
  rw [hRA] at HW2 ⊢
  clear CA hp hr3 hb1 hb2 hb3 hb4 hB4 hW1 hW2 hW3 hW4 hLA hRA hA1 hA2 hR1 hR2 hfl hln hl hr
  go_enter Tryd.func20, Tryd.ntmps20
  go_upto_region 1 with fail
  rw [HW1.out, HW2.out]
  refine wp_region_any (by kernel_rfl) ?_
  change wpAny _ _ _ _ _ _ _ (World.drew _)
  refine wpAny_take (i := 1) (v := ?va1) rfl (by kernel_rfl) (by kernel_rfl) (by kernel_rfl) (fun _ _ _ h => h) (Or.inl ⟨by rfl, ?ha1⟩) ?ra1
  case ha1 => (intro w; (go_simp <;> with_reducible rfl))
  refine wpAny_take (i := 2) (v := ?va2) rfl (by kernel_rfl) (by kernel_rfl) (by kernel_rfl) (fun _ _ _ h => h) (Or.inl ⟨by rfl, ?ha2⟩) ?ra2
  case ha2 => (intro w; (go_simp <;> with_reducible rfl))
  refine wpAny_ready (rs := [0]) (by kernel_rfl) (by simp) ?_
  refine AllReady.cons rfl (fun K hK => ?_) AllReady.nil
  go_simp
  rw [HW3.out]
  refine hK _ _ ?_
  clear hK K
  refine wpAny_ready (rs := [3]) (by kernel_rfl) (by simp) ?_
  refine AllReady.cons rfl (fun K hK => ?_) AllReady.nil
  go_simp
  rw [HW4.out]
  refine hK _ _ ?_
  clear hK K
  refine wpAny_ready (rs := [4]) (by kernel_rfl) (by simp) ?_
  refine AllReady.cons rfl (fun K hK => ?_) AllReady.nil
  go_simp
  refine HCA.out.mono ?_
  rintro e W5 ⟨g, cap, rfl, hg, hbuf, hb5⟩
  refine hK _ _ ?_
  clear hK K
  have HBF := Lib.hid hbuf
  have HG := Lib.hid (Nat.le_trans HB4.out.size hg)
  have HB5 := Lib.hid (Kit.step HB4.out hb5)
  clear hbuf hb5 hg HCA HW1 HW2 HW3 HW4 HB4
  refine wpAny_ready (rs := [5]) (by kernel_rfl) (by simp) ?_
  refine AllReady.cons rfl (fun K hK => ?_) AllReady.nil
  go_simp
  refine hK _ _ ?_
  clear hK K
  refine wpAny_done (by kernel_rfl) ?_ _
  go_wp2_with fail
  go_ret
  exact ⟨g, cap, rfl, HG.out, HBF.out, HB5.out⟩
set_option maxRecDepth 100000 in
set_option maxHeartbeats 1000000 in
theorem tnode_of (Z : Array Value) (hZ : Z = (bytesV (List.replicate 32 0)).toArray) (hzs : ∀ w, Sem.run Tryd.prog (zeroValue 32) w = .ok (.agg Z) w)
    (l r : List UInt8) (hl : l.length = 32) (hr : r.length = 32) (w : World) (hV : Cds w) :
    Calls Tryd.prog 18 #[.agg (bytesV l).toArray, .agg (bytesV r).toArray] w fun e w' => e = .returned (.agg (bytesV (Da.nd l r)).toArray) ∧ Below w.heap.size w w' := by
  obtain ⟨W1, hW1⟩ : ∃ W1, w.alloc (.cells (bytesV l).toArray 32) = W1 := ⟨_, rfl⟩
  obtain ⟨W2, hW2⟩ : ∃ W2, W1.alloc (.cells (bytesV r).toArray 32) = W2 := ⟨_, rfl⟩
  obtain ⟨W3, hW3⟩ : ∃ W3, W2.alloc (.cells Z 32) = W3 := ⟨_, rfl⟩
  have hb1 : Below w.heap.size w W1 := by rw [← hW1]; exact new12 _ _
  have hb2 : Below W1.heap.size W1 W2 := by rw [← hW2]; exact new12 _ _
  have hb3 : Below W2.heap.size W2 W3 := by rw [← hW3]; exact new12 _ _
  have hs1 : W1.heap.size = w.heap.size + 1 := by rw [← hW1, World.size_alloc]
  have hs2 : W2.heap.size = w.heap.size + 1 + 1 := by rw [← hW2, World.size_alloc, hs1]
  have hA1 : Arr W1 w.heap.size 32 (bytesV l) := by rw [← hW1]; exact Arr.made _ _ _
  have hA2 : Arr W2 W1.heap.size 32 (bytesV r) := by rw [← hW2]; exact Arr.made _ _ _
  have hA3 : Arr W3 W2.heap.size 32 Z.toList := by rw [← hW3]; exact Arr.made _ _ _
  have hA13 : Arr W3 w.heap.size 32 (bytesV l) := hA1.later (Kit.step hb2 hb3) hA1.lt
  have hA23 : Arr W3 W1.heap.size 32 (bytesV r) := hA2.later hb3 hA2.lt
  have hB3 := Kit.step (Kit.step hb1 hb2) hb3
  have HV := Lib.hid (hV.later hB3)
  obtain ⟨F, hF⟩ : ∃ F, (bytesV (Da.nd l r)).toArray = F := ⟨_, rfl⟩
  have hFl := Da.nd_length l r
  have HFS : Hid ((Tryd.prog.info? 32).map (·.size) = some F.size) := Lib.hid (by rw [dg_info, ← hF]; simp [hFl])
  have HFO : Hid (F.all (·.oneCell') = true) := Lib.hid (by rw [← hF]; exact all_oneCell_toArray (bytesV_one _))
  have HFZ : Hid (Z.size = F.size) := Lib.hid (by rw [hZ, ← hF]; simp [hFl])
  obtain ⟨LA, hLA⟩ : ∃ LA, (bytesV l).toArray = LA := ⟨_, rfl⟩
  obtain ⟨RA, hRA⟩ : ∃ RA, (bytesV r).toArray = RA := ⟨_, rfl⟩
  have HL1 : Hid (W3.heap[w.heap.size]? = some (.cells LA 32 (0, 0))) := Lib.hid (by rw [← hLA]; exact hA13)
  have HL2 : Hid (W3.heap[W1.heap.size]? = some (.cells RA 32 (0, 0))) := Lib.hid (by rw [← hRA]; exact hA23)
  have HLS : Hid ((Tryd.prog.info? 32).map (·.size) = some LA.size) := Lib.hid (by rw [dg_info, ← hLA]; simp [hl])
  have HRS : Hid ((Tryd.prog.info? 32).map (·.size) = some RA.size) := Lib.hid (by rw [dg_info, ← hRA]; simp [hr])
  have HA3 := Lib.hid hA3
  have HA13 := Lib.hid hA13
  have HA23 := Lib.hid hA23
  have HB3 := Lib.hid hB3
  rw [hs1, hs2] at *
  have HW1 := Lib.hid hW1
  have HW2 := Lib.hid hW2
  have HW3 := Lib.hid hW3
  have HFF := Lib.hid hF
  have HLA := Lib.hid hLA
  have HRA := Lib.hid hRA
  have HLL := Lib.hid hl
  have HRL := Lib.hid hr
  rw [hLA] at HW1 ⊢
  rw [hRA] at HW2 ⊢
  rw [hF]
  clear hb1 hb2 hb3 hB3 hs1 hs2 hW1 hW2 hW3 hLA hRA hF hA1 hA2 hA3 hA13 hA23 hFl hZ hl hr hV
  go_enter Tryd.func18, Tryd.ntmps18
  go_upto_region 1 with fail
  rw [HW1.out, HW2.out, HW3.out]
  apply wp_region_lit
  refine wpList_load_row rfl 32 (.tmp 2) rfl w.heap.size rfl 32 LA (0, 0) _ HL1.out dg_under rfl HLS.out ?_
  refine wpList_load_row rfl 32 (.tmp 3) rfl (w.heap.size + 1) rfl 32 RA (0, 0) _ HL2.out dg_under rfl HRS.out ?_
  have IN := tinner_any l r HLL.out HRL.out W3
  rw [HLA.out, HRA.out] at IN
  have HIN := Lib.hid IN
  clear IN
  (refine wpList_plain rfl (fun K hK => ?_); go_simp)
  refine HIN.out.mono ?_
  rintro e W4 ⟨g, cap, rfl, hg, hbuf, hb4⟩
  refine hK _ _ ?_
  clear hK K HIN
  have hp := one_part hbuf.row
  have hln : (1 :: (l ++ r) : List UInt8).length = 65 := by simp [HLL.out, HRL.out]
  rw [hln] at hp
  obtain ⟨W5, hW5⟩ : ∃ W5, W4.alloc (.cells #[.slice (some ⟨g, 0, none⟩) 65 cap] 25) = W5 := ⟨_, rfl⟩
  have hb5 : Below W4.heap.size W4 W5 := by rw [← hW5]; exact new12 _ _
  rw [hW5] at hp
  have hb45 := Kit.step hb4 hb5
  have SO := sof_any [1 :: (l ++ r)] (some ⟨W4.heap.size, 0, none⟩) 1 W5 hp (HV.out.later hb45) (by simp [HLL.out, HRL.out]) (by simp)
  rw [show ([1 :: (l ++ r)] : List (List UInt8)).flatten = 1 :: (l ++ r) by simp, show Da.sha (1 :: (l ++ r)) = Da.nd l r from rfl, HFF.out] at SO
  have HSO : Hid (Calls Tryd.prog 28 #[.slice (some ⟨W4.heap.size, 0, none⟩) 1 1] W5 fun e w' => e = .returned (.agg F) ∧ Below W5.heap.size W5 w') := Lib.hid SO
  have HW5 := Lib.hid hW5
  have HA5 := Lib.hid (HA3.out.later hb45 HA3.out.lt)
  have HB5 := Lib.hid (Kit.step HB3.out hb45)
  clear SO hp hln hW5 hb5 hb45 hbuf hb4 hg
  (refine wpList_plain rfl (fun K hK => ?_); go_simp; refine hK _ _ ?_; clear hK K)
  rw [HW5.out]
  (refine wpList_plain rfl (fun K hK => ?_); go_simp)
  refine HSO.out.mono ?_
  rintro e W6 ⟨rfl, hb6⟩
  refine hK _ _ ?_
  clear hK K HSO
  have hA6 := HA5.out.later hb6 HA5.out.lt
  have HA6 : Hid (W6.heap[w.heap.size + 1 + 1]? = some (.cells Z 32 (0, 0))) := Lib.hid hA6
  have HGW : Hid ((W6.setRow (w.heap.size + 1 + 1) F).heap[w.heap.size + 1 + 1]? = some (.cells F 32 (0, 0))) := Lib.hid (setRow_heap _ _ _ _ _ _ hA6)
  have HBW : Hid (Below w.heap.size w (W6.setRow (w.heap.size + 1 + 1) F)) := Lib.hid ((Kit.step HB5.out hb6).trans (below_row (by omega)))
  clear hA6 hb6
  refine wpList_store_row rfl 32 (.tmp 4) (.tmp 9) rfl (w.heap.size + 1 + 1) F rfl rfl 32 Z HA6.out HFS.out HFZ.out HFO.out ?_
  go_wp2_with fail
  refine bodyPost_ret (results_cell_row rfl _ _ (w.heap.size + 1 + 1) 32 F (0, 0) _ rfl HGW.out dg_under rfl HFS.out) rfl ?_
  exact ⟨rfl, HBW.out⟩
theorem tnode_any (l r : List UInt8) (hl : l.length = 32) (hr : r.length = 32) (w : World) (hV : Cds w) :
    Calls Tryd.prog 18 #[.agg (bytesV l).toArray, .agg (bytesV r).toArray] w fun e w' => e = .returned (.agg (bytesV (Da.nd l r)).toArray) ∧ Below w.heap.size w w' := tnode_of _ rfl dg_zero l r hl hr w hV
set_option maxRecDepth 100000 in
set_option maxHeartbeats 1000000 in
theorem rnode_of (Z : Array Value) (hZ : Z = (bytesV (List.replicate 32 0)).toArray) (hzs : ∀ w, Sem.run Tryd.prog (zeroValue 31) w = .ok (.agg Z) w)
    (l r : List UInt8) (hl : l.length = 32) (hr : r.length = 32) (w : World) (hV : Rds w) :
    Calls Tryd.prog 17 #[.agg (bytesV l).toArray, .agg (bytesV r).toArray] w fun e w' => e = .returned (.agg (bytesV (Da.nd l r)).toArray) ∧ Below w.heap.size w w' := by
  obtain ⟨W1, hW1⟩ : ∃ W1, w.alloc (.cells (bytesV l).toArray 31) = W1 := ⟨_, rfl⟩
  obtain ⟨W2, hW2⟩ : ∃ W2, W1.alloc (.cells (bytesV r).toArray 31) = W2 := ⟨_, rfl⟩
  obtain ⟨W3, hW3⟩ : ∃ W3, W2.alloc (.cells Z 31) = W3 := ⟨_, rfl⟩
  have hb1 : Below w.heap.size w W1 := by rw [← hW1]; exact new12 _ _
  have hb2 : Below W1.heap.size W1 W2 := by rw [← hW2]; exact new12 _ _
  have hb3 : Below W2.heap.size W2 W3 := by rw [← hW3]; exact new12 _ _
  have hs1 : W1.heap.size = w.heap.size + 1 := by rw [← hW1, World.size_alloc]
  have hs2 : W2.heap.size = w.heap.size + 1 + 1 := by rw [← hW2, World.size_alloc, hs1]
  have hA1 : Arr W1 w.heap.size 31 (bytesV l) := by rw [← hW1]; exact Arr.made _ _ _
  have hA2 : Arr W2 W1.heap.size 31 (bytesV r) := by rw [← hW2]; exact Arr.made _ _ _
  have hA3 : Arr W3 W2.heap.size 31 Z.toList := by rw [← hW3]; exact Arr.made _ _ _
  have hA13 : Arr W3 w.heap.size 31 (bytesV l) := hA1.later (Kit.step hb2 hb3) hA1.lt
  have hA23 : Arr W3 W1.heap.size 31 (bytesV r) := hA2.later hb3 hA2.lt
  have hB3 := Kit.step (Kit.step hb1 hb2) hb3
  have HV := Lib.hid (hV.later hB3)
  obtain ⟨F, hF⟩ : ∃ F, (bytesV (Da.nd l r)).toArray = F := ⟨_, rfl⟩
  have hFl := Da.nd_length l r
  have HFS : Hid ((Tryd.prog.info? 31).map (·.size) = some F.size) := Lib.hid (by rw [d32_info, ← hF]; simp [hFl])
  have HFO : Hid (F.all (·.oneCell') = true) := Lib.hid (by rw [← hF]; exact all_oneCell_toArray (bytesV_one _))
  have HFZ : Hid (Z.size = F.size) := Lib.hid (by rw [hZ, ← hF]; simp [hFl])
  obtain ⟨LA, hLA⟩ : ∃ LA, (bytesV l).toArray = LA := ⟨_, rfl⟩
  obtain ⟨RA, hRA⟩ : ∃ RA, (bytesV r).toArray = RA := ⟨_, rfl⟩
  have HL1 : Hid (W3.heap[w.heap.size]? = some (.cells LA 31 (0, 0))) := Lib.hid (by rw [← hLA]; exact hA13)
  have HL2 : Hid (W3.heap[W1.heap.size]? = some (.cells RA 31 (0, 0))) := Lib.hid (by rw [← hRA]; exact hA23)
  have HLS : Hid ((Tryd.prog.info? 31).map (·.size) = some LA.size) := Lib.hid (by rw [d32_info, ← hLA]; simp [hl])
  have HRS : Hid ((Tryd.prog.info? 31).map (·.size) = some RA.size) := Lib.hid (by rw [d32_info, ← hRA]; simp [hr])
  have HA3 := Lib.hid hA3
  have HA13 := Lib.hid hA13
  have HA23 := Lib.hid hA23
  have HB3 := Lib.hid hB3
  rw [hs1, hs2] at *
  have HW1 := Lib.hid hW1
  have HW2 := Lib.hid hW2
  have HW3 := Lib.hid hW3
  have HFF := Lib.hid hF
  have HLA := Lib.hid hLA
  have HRA := Lib.hid hRA
  have HLL := Lib.hid hl
  have HRL := Lib.hid hr
  rw [hLA] at HW1 ⊢
  rw [hRA] at HW2 ⊢
  rw [hF]
  clear hb1 hb2 hb3 hB3 hs1 hs2 hW1 hW2 hW3 hLA hRA hF hA1 hA2 hA3 hA13 hA23 hFl hZ hl hr hV
  obtain ⟨W4, hW4⟩ : ∃ W4, (W3.alloc (.cells #[.int .u8 1] 5)).drew = W4 := ⟨_, rfl⟩
  have hs3 : W3.heap.size = w.heap.size + 1 + 1 + 1 := by rw [← HW3.out, World.size_alloc, ← HW2.out, World.size_alloc, ← HW1.out, World.size_alloc]
  have hb4 : Below W3.heap.size W3 W4 := by rw [← hW4]; exact Kit.dn (new12 W3 _) 1
  have HO4 : Hid (W4.ownsRow W3.heap.size 5 1 (.slice (some ⟨W3.heap.size, 0, none⟩) 1 1) 1 (bytesV [1])) := Lib.hid (by rw [← hW4]; exact World.ownsRow_lit W3 #[.int .u8 1] 1 (Nat.le_refl _) (by unfold maxLen; decide) rfl)
  have hl1 := (HA13.out.later hb4 HA13.out.lt).row (by rw [HLL.out]; unfold maxLen; decide)
  have hr1 := (HA23.out.later hb4 HA23.out.lt).row (by rw [HRL.out]; unfold maxLen; decide)
  rw [HLL.out] at hl1
  rw [HRL.out] at hr1
  have HLR := Lib.hid hl1
  have HRR := Lib.hid hr1
  have HB4 := Lib.hid hb4
  have HW4 := Lib.hid hW4
  clear hl1 hr1 hb4 hW4 hs3
  go_enter Tryd.func17, Tryd.ntmps17
  go_upto_region 1 with fail
  rw [HW1.out, HW2.out, HW3.out]
  refine wp_region_any (by kernel_rfl) ?_
  change wpAny _ _ _ _ _ _ _ (World.drew _)
  refine wpAny_take (i := 1) (v := ?va1) rfl (by kernel_rfl) (by kernel_rfl) (by kernel_rfl) (fun _ _ _ h => h) (Or.inl ⟨by rfl, ?ha1⟩) ?ra1
  case ha1 => (intro w; (go_simp <;> with_reducible rfl))
  refine wpAny_take (i := 3) (v := ?va2) rfl (by kernel_rfl) (by kernel_rfl) (by kernel_rfl) (fun _ _ _ h => h) (Or.inl ⟨by rfl, ?ha2⟩) ?ra2
  case ha2 => (intro w; (go_simp <;> with_reducible rfl))
  refine wpAny_ready (rs := [0]) (by kernel_rfl) (by simp) ?_
  refine AllReady.cons rfl (fun K hK => ?_) AllReady.nil
  go_simp
  rw [HW4.out]
  refine hK _ _ ?_
  clear hK K
  refine wpAny_ready (rs := [2]) (by kernel_rfl) (by simp) ?_
  refine AllReady.cons rfl (fun K hK => ?_) AllReady.nil
  rw [if_pos (by rfl)]
  refine wp_append_row (.tmp 5) (.tmp 6) rfl W3.heap.size _ 1 [1] rfl HO4.out (some ⟨w.heap.size, 0, none⟩) 32 32 l rfl HLL.out.symm HLR.out (by omega) HB4.out.size fun v5 W5 hv5 hg5 => hK _ _ ?_
  clear hK K
  have hb5 := own_below (n := 0) HB4.out HO4.out hg5
  have HO5 := Lib.hid hv5
  have HB5 := Lib.hid hb5
  have hr5 := (HA23.out.later hb5 HA23.out.lt).row (by rw [HRL.out]; unfold maxLen; decide)
  rw [HRL.out] at hr5
  have HR5 := Lib.hid hr5
  clear hv5 hg5 hb5 hr5 HO4 HLR HRR
  refine wpAny_ready (rs := [4]) (by kernel_rfl) (by simp) ?_
  refine AllReady.cons rfl (fun K hK => ?_) AllReady.nil
  rw [if_pos (by rfl)]
  refine wp_append_row (.tmp 7) (.tmp 8) rfl W3.heap.size _ (1 + 32) ([1] ++ l) rfl HO5.out (some ⟨w.heap.size + 1, 0, none⟩) 32 32 r rfl HRL.out.symm HR5.out (by omega) HB5.out.size fun v6 W6 hv6 hg6 => hK _ _ ?_
  clear hK K
  have hb6 := own_below (n := 0) HB5.out HO5.out hg6
  obtain ⟨o6, c6, rfl, hr6⟩ := owns_is hv6 (by simp [HLL.out, HRL.out])
  have RO := rof_any (1 :: (l ++ r)) o6 c6 W6 (by simpa using hr6) (HV.out.later hb6) (by simp [HLL.out, HRL.out])
  have hln : (1 :: (l ++ r) : List UInt8).length = 1 + 32 + 32 := by simp [HLL.out, HRL.out]
  rw [hln, show Da.sha (1 :: (l ++ r)) = Da.nd l r from rfl, HFF.out] at RO
  have HRO := Lib.hid RO
  have HA6 := Lib.hid (HA3.out.later hb6 HA3.out.lt)
  have HB6 := Lib.hid (Kit.step HB3.out hb6)
  clear RO hln hr6 hv6 hg6 hb6 HO5 HB5 HR5
  refine wpAny_ready (rs := [5]) (by kernel_rfl) (by simp) ?_
  refine AllReady.cons rfl (fun K hK => ?_) AllReady.nil
  go_simp
  refine HRO.out.mono ?_
  rintro e W7 ⟨rfl, hb7⟩
  refine hK _ _ ?_
  clear hK K HRO
  have hA7 := HA6.out.later hb7 HA6.out.lt
  have HA7 : Hid (W7.heap[w.heap.size + 1 + 1]? = some (.cells Z 31 (0, 0))) := Lib.hid hA7
  have HGW : Hid ((W7.setRow (w.heap.size + 1 + 1) F).heap[w.heap.size + 1 + 1]? = some (.cells F 31 (0, 0))) := Lib.hid (setRow_heap _ _ _ _ _ _ hA7)
  have HBW : Hid (Below w.heap.size w (W7.setRow (w.heap.size + 1 + 1) F)) := Lib.hid ((Kit.step HB6.out hb7).trans (below_row (by omega)))
  clear hA7 hb7
  refine wpAny_ready (rs := [6]) (by kernel_rfl) (by simp) ?_
  refine AllReady.cons rfl (fun K hK => ?_) AllReady.nil
  rw [if_pos (by rfl)]
  refine wp_store_row 31 (.tmp 4) (.tmp 10) rfl (w.heap.size + 1 + 1) F rfl rfl 31 Z HA7.out HFS.out HFZ.out HFO.out (hK _ _ ?_)
  clear hK K
  refine wpAny_done (by kernel_rfl) ?_ _
  go_wp2_with fail
  refine bodyPost_ret (results_cell_row rfl _ _ (w.heap.size + 1 + 1) 31 F (0, 0) _ rfl HGW.out d32_under rfl HFS.out) rfl ?_
  exact ⟨rfl, HBW.out⟩
theorem rnode_any (l r : List UInt8) (hl : l.length = 32) (hr : r.length = 32) (w : World) (hV : Rds w) :
    Calls Tryd.prog 17 #[.agg (bytesV l).toArray, .agg (bytesV r).toArray] w fun e w' => e = .returned (.agg (bytesV (Da.nd l r)).toArray) ∧ Below w.heap.size w w' := rnode_of _ rfl d32_zero l r hl hr w hV
set_option maxRecDepth 100000 in
theorem rleaf_of (Z : Array Value) (hZ : Z = (bytesV (List.replicate 32 0)).toArray) (hzs : ∀ w, Sem.run Tryd.prog (zeroValue 31) w = .ok (.agg Z) w)
    (b : List UInt8) (o : Option Addr) (c : Nat) (w : World) (hR : RowIs w o (bytesV b) c) (hV : Rds w) (hl : b.length ≤ 90000) :
    Calls Tryd.prog 22 #[.slice o b.length c] w fun e w' => e = .returned (.agg (bytesV (Da.lf b)).toArray) ∧ Below w.heap.size w w' := by
  obtain ⟨g, hg⟩ : ∃ g, w.heap.size = g := ⟨_, rfl⟩
  obtain ⟨W1, hW1⟩ : ∃ W1, w.alloc (Obj.cells Z 31) = W1 := ⟨_, rfl⟩
  have hb1 : Below w.heap.size w W1 := by rw [← hW1]; exact new12 _ _
  have hA1 : Arr W1 g 31 Z.toList := by rw [← hW1, ← hg]; exact Arr.made _ _ _
  obtain ⟨W2, hW2⟩ : ∃ W2, W1.alloc (.cells #[.int .u8 0] 5) = W2 := ⟨_, rfl⟩
  have hb2 : Below W1.heap.size W1 W2 := by rw [← hW2]; exact new12 _ _
  have HO2 : Hid (W2.ownsRow W1.heap.size 5 1 (.slice (some ⟨W1.heap.size, 0, none⟩) 1 1) 1 (bytesV [0])) := Lib.hid (by rw [← hW2]; exact World.ownsRow_lit W1 #[.int .u8 0] 1 (Nat.le_refl _) (by unfold maxLen; decide) rfl)
  have HR2 := Lib.hid (hR.later (Kit.step hb1 hb2))
  have HV1 := Lib.hid (hV.later hb1)
  obtain ⟨F, hF⟩ : ∃ F, (bytesV (Da.lf b)).toArray = F := ⟨_, rfl⟩
  have hFl := Da.lf_length b
  have HFS : Hid ((Tryd.prog.info? 31).map (·.size) = some F.size) := Lib.hid (by rw [d32_info, ← hF]; simp [hFl])
  have HFO : Hid (F.all (·.oneCell') = true) := Lib.hid (by rw [← hF]; exact all_oneCell_toArray (bytesV_one _))
  have HFZ : Hid (Z.size = F.size) := Lib.hid (by rw [hZ, ← hF]; simp [hFl])
  have HA1 := Lib.hid hA1
  have HB1 := Lib.hid hb1
  have HB2 := Lib.hid hb2
  have HW1 := Lib.hid hW1
  have HW2 := Lib.hid hW2
  have HG := Lib.hid hg
  have HFF := Lib.hid hF
  obtain ⟨L, hL⟩ : ∃ L, b.length = L := ⟨_, rfl⟩
  have HL := Lib.hid hL
  rw [hL] at hl ⊢
  rw [hF]
  clear hb1 hb2 hW1 hW2 hR hL hF hV hA1 hFl hZ hg
  go_enter Tryd.func22, Tryd.ntmps22
  go_upto_region 1 with fail
  rw [HW1.out, HG.out]
  apply wp_region_lit
  (refine wpList_plain rfl (fun K hK => ?_); go_simp; refine hK _ _ ?_; clear hK K)
  rw [HW2.out]
  (refine wpList_plain rfl (fun K hK => ?_); go_simp; refine hK _ _ ?_; clear hK K)
  refine append_row rfl (.tmp 3) (.tmp 4) rfl W1.heap.size _ 1 [0] rfl HO2.out o L c b rfl HL.out.symm HR2.out (by omega) HB2.out.size ?_
  intro v3 W3 hv3 hg3
  have hb3 := own_below (n := 0) HB2.out HO2.out hg3
  obtain ⟨o3, c3, rfl, hr3⟩ := owns_is hv3 (by simp [HL.out]; omega)
  have RO := rof_any (0 :: b) o3 c3 W3 (by simpa using hr3) (HV1.out.later hb3) (by simp [HL.out]; omega)
  have hln : (0 :: b : List UInt8).length = 1 + L := by simp [HL.out]; omega
  rw [hln, show Da.sha (0 :: b) = Da.lf b from rfl, HFF.out] at RO
  have HRO := Lib.hid RO
  have HA3 := Lib.hid (HA1.out.later hb3 HA1.out.lt)
  have HB3 := Lib.hid (Kit.step HB1.out hb3)
  clear RO hln hr3 hv3 hg3 hb3 HO2 HB2 HR2
  (refine wpList_plain rfl (fun K hK => ?_); go_simp)
  refine HRO.out.mono ?_
  rintro e W4 ⟨rfl, hb4⟩
  refine hK _ _ ?_
  clear hK K HRO
  have hA4 := HA3.out.later hb4 HA3.out.lt
  have HA4 : Hid (W4.heap[g]? = some (.cells Z 31 (0, 0))) := Lib.hid hA4
  have HGW : Hid ((W4.setRow g F).heap[g]? = some (.cells F 31 (0, 0))) := Lib.hid (setRow_heap _ _ _ _ _ _ hA4)
  have HBW : Hid (Below w.heap.size w (W4.setRow g F)) := Lib.hid ((Kit.step HB3.out hb4).trans (below_row (Nat.le_of_eq HG.out)))
  clear hA4 hb4
  refine wpList_store_row rfl 31 (.tmp 2) (.tmp 6) rfl g F rfl rfl 31 Z HA4.out HFS.out HFZ.out HFO.out ?_
  go_wp2_with fail
  refine bodyPost_ret (results_cell_row rfl _ _ g 31 F (0, 0) _ rfl HGW.out d32_under rfl HFS.out) rfl ?_
  exact ⟨rfl, HBW.out⟩
theorem rleaf_any (b : List UInt8) (o : Option Addr) (c : Nat) (w : World) (hR : RowIs w o (bytesV b) c) (hV : Rds w) (hl : b.length ≤ 90000) :
    Calls Tryd.prog 22 #[.slice o b.length c] w fun e w' => e = .returned (.agg (bytesV (Da.lf b)).toArray) ∧ Below w.heap.size w w' := rleaf_of _ rfl d32_zero b o c w hR hV hl
end Go.Proofs.YtmfbdelhkdimaaaDoor
