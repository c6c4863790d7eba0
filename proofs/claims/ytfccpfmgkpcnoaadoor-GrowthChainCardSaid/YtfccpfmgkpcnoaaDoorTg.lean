/- Trees: a leaf's and a node's digest and bytes: the code's, and the document's. Rows of digests in memory: read, parted, grown by one, cut by one; the code's values, the document's values. -/
import Derived.Test.YtfccpfmgkpcnoaaDoorTr
import Derived.Test.YtfccpfmgkpcnoaaDoorHp
import Derived.Great.BuildSlice
import Derived.Maps.AppendAt
namespace Go.Proofs.YtfccpfmgkpcnoaaDoor
open Go.RowKit
set_option linter.unusedVariables false
set_option linter.unusedSimpArgs false
theorem tparts12 {w : World} {a1 a2 a3 : Option Addr} {c1 c2 c3 : Nat} {x y z : List UInt8} (h1 : RowIs w a1 (bytesV x) c1) (h2 : RowIs w a2 (bytesV y) c2) (h3 : RowIs w a3 (bytesV z) c3) :
    RbIs (w.alloc (.cells #[.slice a1 x.length c1, .slice a2 y.length c2, .slice a3 z.length c3] 27)) (some ⟨w.heap.size, 0, none⟩) [x, y, z] 3 :=
  have hA : Arr (w.alloc (.cells #[.slice a1 x.length c1, .slice a2 y.length c2, .slice a3 z.length c3] 27)) w.heap.size 27 [.slice a1 x.length c1, .slice a2 y.length c2, .slice a3 z.length c3] := Arr.made _ _ _
  have hb : Below w.heap.size w (w.alloc (.cells #[.slice a1 x.length c1, .slice a2 y.length c2, .slice a3 z.length c3] 27)) := (Below.refl _ _).alloc (Nat.le_refl _) _
  ⟨[.slice a1 x.length c1, .slice a2 y.length c2, .slice a3 z.length c3], ⟨by simp, by unfold maxLen; decide, fun h => by (cases h), fun h0 => ⟨w.heap.size, 0, rfl, hA.lt, fun i v hv => by rw [Nat.zero_add, hA.cell]; exact hv⟩⟩,
    ((Els.one ⟨a1, c1, rfl, h1.later hb⟩).app (Els.one ⟨a2, c2, rfl, h2.later hb⟩)).app (Els.one ⟨a3, c3, rfl, h3.later hb⟩)⟩
set_option maxRecDepth 100000 in
theorem tleaf_of (Z : Array Value) (hZ : Z = (bytesV (List.replicate 32 0)).toArray) (hzs : ∀ w, Sem.run Tryd.prog (zeroValue 41) w = .ok (.agg Z) w)
    (b : List UInt8) (o : Option Addr) (c : Nat) (w : World) (hR : RowIs w o (bytesV b) c) (hV : Cds w) (hl : b.length ≤ 800000) :
    Calls Tryd.prog 35 #[.slice o b.length c] w fun e w' => e = .returned (.agg (bytesV (Da.lf b)).toArray) ∧ Below w.heap.size w w' := by
  obtain ⟨g, hg⟩ : ∃ g, w.heap.size = g := ⟨_, rfl⟩
  obtain ⟨W1, hW1⟩ : ∃ W1, w.alloc (Obj.cells Z 41) = W1 := ⟨_, rfl⟩
  have hb1 : Below w.heap.size w W1 := by rw [← hW1]; exact new12 _ _
  have hA1 : Arr W1 g 41 Z.toList := by rw [← hW1, ← hg]; exact Arr.made _ _ _
  obtain ⟨W2, hW2⟩ : ∃ W2, W1.alloc (.cells #[.int .u8 0] 5) = W2 := ⟨_, rfl⟩
  have hb2 : Below W1.heap.size W1 W2 := by rw [← hW2]; exact new12 _ _
  have hr2 : RowIs W2 (some ⟨W1.heap.size, 0, none⟩) (bytesV [0]) 1 := by rw [← hW2]; exact zrow12 0 W1
  have hB2 := Kit.step hb1 hb2
  have hp := two_parts hr2 (hR.later hB2)
  rw [show ([0] : List UInt8).length = 1 from rfl] at hp
  obtain ⟨W3, hW3⟩ : ∃ W3, W2.alloc (.cells #[.slice (some ⟨W1.heap.size, 0, none⟩) 1 1, .slice o b.length c] 27) = W3 := ⟨_, rfl⟩
  have hb3 : Below W2.heap.size W2 W3 := by rw [← hW3]; exact new12 _ _
  rw [hW3] at hp
  have hB3 := Kit.step hB2 hb3
  have SO := sof_any [[0], b] (some ⟨W2.heap.size, 0, none⟩) 2 W3 hp (hV.later hB3) (by simp; omega) (by simp)
  rw [show ([[0], b] : List (List UInt8)).flatten = 0 :: b by simp, show ([[0], b] : List (List UInt8)).length = 2 from rfl, show Da.sha (0 :: b) = Da.lf b from rfl] at SO
  obtain ⟨F, hF⟩ : ∃ F, (bytesV (Da.lf b)).toArray = F := ⟨_, rfl⟩
  have hFl := Da.lf_length b
  have HFS : Hid ((Tryd.prog.info? 41).map (·.size) = some F.size) := Lib.hid (by rw [dg_info, ← hF]; simp [hFl])
  have HFO : Hid (F.all (·.oneCell') = true) := Lib.hid (by rw [← hF]; exact all_oneCell_toArray (bytesV_one _))
  have HFZ : Hid (Z.size = F.size) := Lib.hid (by rw [hZ, ← hF]; simp [hFl])
  rw [hF] at SO ⊢
  have HSO := Lib.hid SO
  have HA3 := Lib.hid (hA1.later (Kit.step hb2 hb3) hA1.lt)
  have HB3 := Lib.hid hB3
  have HW1 := Lib.hid hW1
  have HW2 := Lib.hid hW2
  have HW3 := Lib.hid hW3
  have HG := Lib.hid hg
  obtain ⟨L, hL⟩ : ∃ L, b.length = L := ⟨_, rfl⟩
  rw [hL] at HW3 ⊢
  clear SO hp hr2 hb1 hb2 hb3 hB2 hB3 hW1 hW2 hW3 hR hL hl hF hV hA1 hFl hZ hg
  go_enter Tryd.func35, Tryd.ntmps35
  go_upto_region 1 with fail
  rw [HW1.out, HG.out]
  apply wp_region_lit
  (refine wpList_plain rfl (fun K hK => ?_); go_simp; refine hK _ _ ?_; clear hK K)
  rw [HW2.out]
  (refine wpList_plain rfl (fun K hK => ?_); go_simp; refine hK _ _ ?_; clear hK K)
  (refine wpList_plain rfl (fun K hK => ?_); go_simp; refine hK _ _ ?_; clear hK K)
  rw [HW3.out]
  (refine wpList_plain rfl (fun K hK => ?_); go_simp)
  refine HSO.out.mono ?_
  rintro e W4 ⟨rfl, hb4⟩
  refine hK _ _ ?_
  clear hK K HSO
  have hA4 := HA3.out.later hb4 HA3.out.lt
  have HA4 : Hid (W4.heap[g]? = some (.cells Z 41 (0, 0))) := Lib.hid hA4
  have HGW : Hid ((W4.setRow g F).heap[g]? = some (.cells F 41 (0, 0))) := Lib.hid (setRow_heap _ _ _ _ _ _ hA4)
  have HBW : Hid (Below w.heap.size w (W4.setRow g F)) := Lib.hid ((Kit.step HB3.out hb4).trans (below_row (Nat.le_of_eq HG.out)))
  clear hA4 hb4
  refine wpList_store_row rfl 41 (.tmp 2) (.tmp 6) rfl g F rfl rfl 41 Z HA4.out HFS.out HFZ.out HFO.out ?_
  go_wp2_with fail
  refine bodyPost_ret (results_cell_row rfl _ _ g 41 F (0, 0) _ rfl HGW.out dg_under rfl HFS.out) rfl ?_
  exact ⟨rfl, HBW.out⟩
theorem tleaf_any (b : List UInt8) (o : Option Addr) (c : Nat) (w : World) (hR : RowIs w o (bytesV b) c) (hV : Cds w) (hl : b.length ≤ 800000) :
    Calls Tryd.prog 35 #[.slice o b.length c] w fun e w' => e = .returned (.agg (bytesV (Da.lf b)).toArray) ∧ Below w.heap.size w w' := tleaf_of _ rfl dg_zero b o c w hR hV hl
set_option maxRecDepth 100000 in
set_option maxHeartbeats 1000000 in
theorem tinner_any (l r : List UInt8) (hl : l.length = 32) (hr : r.length = 32) (w : World) :
    Calls Tryd.prog 47 #[.agg (bytesV l).toArray, .agg (bytesV r).toArray] w fun e w' => ∃ g cap, e = .returned (.slice (some ⟨g, 0, none⟩) 65 cap) ∧ w.heap.size ≤ g ∧ Buf w' g cap (1 :: (l ++ r)) ∧ Below w.heap.size w w' := by
  obtain ⟨W1, hW1⟩ : ∃ W1, w.alloc (.cells (bytesV l).toArray 41) = W1 := ⟨_, rfl⟩
  obtain ⟨W2, hW2⟩ : ∃ W2, W1.alloc (.cells (bytesV r).toArray 41) = W2 := ⟨_, rfl⟩
  have hb1 : Below w.heap.size w W1 := by rw [← hW1]; exact new12 _ _
  have hb2 : Below W1.heap.size W1 W2 := by rw [← hW2]; exact new12 _ _
  have hA1 : Arr W1 w.heap.size 41 (bytesV l) := by rw [← hW1]; exact Arr.made _ _ _
  have hA2 : Arr W2 W1.heap.size 41 (bytesV r) := by rw [← hW2]; exact Arr.made _ _ _
  obtain ⟨W3, hW3⟩ : ∃ W3, (W2.alloc (.cells #[.int .u8 1] 5)).drew = W3 := ⟨_, rfl⟩
  have hb3 : Below W2.heap.size W2 W3 := by rw [← hW3]; exact Kit.dn (new12 W2 _) 1
  have hr3 : RowIs W3 (some ⟨W2.heap.size, 0, none⟩) (bytesV [1]) 1 := by rw [← hW3]; exact (zrow12 1 W2).later (Kit.dn' _ 1)
  have hR1 := ((hA1.later hb2 hA1.lt).later hb3 (Nat.lt_of_lt_of_le hA1.lt hb2.size)).row (by rw [hl]; unfold maxLen; decide)
  have hR2 := (hA2.later hb3 hA2.lt).row (by rw [hr]; unfold maxLen; decide)
  have hp := tparts12 hr3 hR1 hR2
  rw [show ([1] : List UInt8).length = 1 from rfl, hl, hr] at hp
  obtain ⟨W4, hW4⟩ : ∃ W4, W3.alloc (.cells #[.slice (some ⟨W2.heap.size, 0, none⟩) 1 1, .slice (some ⟨w.heap.size, 0, none⟩) 32 32, .slice (some ⟨W1.heap.size, 0, none⟩) 32 32] 27) = W4 := ⟨_, rfl⟩
  have hb4 : Below W3.heap.size W3 W4 := by rw [← hW4]; exact new12 _ _
  rw [hW4] at hp
  have hB4 := Kit.step (Kit.step (Kit.step hb1 hb2) hb3) hb4
  have CA := cat12_any [[1], l, r] _ 3 3 W4 hp rfl (by simp) (by simp; omega) (by omega)
  have hfl : ([[1], l, r] : List (List UInt8)).flatten = 1 :: (l ++ r) := by simp
  have hln : (1 :: (l ++ r) : List UInt8).length = 65 := by simp; omega
  rw [hfl, hln] at CA
  have HCA := Lib.hid CA
  have HB4 := Lib.hid hB4
  have HW1 := Lib.hid hW1
  have HW2 := Lib.hid hW2
  have HW3 := Lib.hid hW3
  have hs1 : W1.heap.size = w.heap.size + 1 := by rw [← hW1, World.size_alloc]
  rw [hs1] at hW4
  clear hs1
  have HW4 := Lib.hid hW4
  obtain ⟨LA, hLA⟩ : ∃ LA, (bytesV l).toArray = LA := ⟨_, rfl⟩
  obtain ⟨RA, hRA⟩ : ∃ RA, (bytesV r).toArray = RA := ⟨_, rfl⟩
  rw [hLA] at HW1 ⊢
  rw [hRA] at HW2 ⊢
  clear CA hp hr3 hb1 hb2 hb3 hb4 hB4 hW1 hW2 hW3 hW4 hLA hRA hA1 hA2 hR1 hR2 hfl hln hl hr
  go_enter Tryd.func47, Tryd.ntmps47
  go_upto_region 1 with fail
  rw [HW1.out, HW2.out]
  refine wp_region_any (by kernel_rfl) ?_
  change wpAny _ _ _ _ _ _ _ (World.drew _)
  refine wpAny_take (i := 1) (v := ?va1) rfl (by kernel_rfl) (by kernel_rfl) (by kernel_rfl) (fun _ _ _ h => h) (Or.inl ⟨by rfl, ?ha1⟩) ?ra1
  case ha1 => (intro w; (go_simp <;> with_reducible rfl))
  refine wpAny_take (i := 2) (v := ?va2) rfl (by kernel_rfl) (by kernel_rfl) (by kernel_rfl) (fun _ _ _ h => h) (Or.inl ⟨by rfl, ?ha2⟩) ?ra2
  case ha2 => (intro w; (go_simp <;> with_reducible rfl))
  refine wpAny_ready (rs := [0]) (by kernel_rfl) (by simp) ?_
  refine AllReady.cons rfl (fun K hK => ?_) AllReady.nil
  go_simp
  rw [HW3.out]
  refine hK _ _ ?_
  clear hK K
  refine wpAny_ready (rs := [3]) (by kernel_rfl) (by simp) ?_
  refine AllReady.cons rfl (fun K hK => ?_) AllReady.nil
  go_simp
  rw [HW4.out]
  refine hK _ _ ?_
  clear hK K
  refine wpAny_ready (rs := [4]) (by kernel_rfl) (by simp) ?_
  refine AllReady.cons rfl (fun K hK => ?_) AllReady.nil
  go_simp
  refine HCA.out.mono ?_
  rintro e W5 ⟨g, cap, rfl, hg, hbuf, hb5⟩
  refine hK _ _ ?_
  clear hK K
  have HBF := Lib.hid hbuf
  have HG := Lib.hid (Nat.le_trans HB4.out.size hg)
  have HB5 := Lib.hid (Kit.step HB4.out hb5)
  clear hbuf hb5 hg HCA HW1 HW2 HW3 HW4 HB4
  refine wpAny_ready (rs := [5]) (by kernel_rfl) (by simp) ?_
  refine AllReady.cons rfl (fun K hK => ?_) AllReady.nil
  go_simp
  refine hK _ _ ?_
  clear hK K
  refine wpAny_done (by kernel_rfl) ?_ _
  go_wp2_with fail
  go_ret
  exact ⟨g, cap, rfl, HG.out, HBF.out, HB5.out⟩
set_option maxRecDepth 100000 in
set_option maxHeartbeats 1000000 in
theorem tnode_of (Z : Array Value) (hZ : Z = (bytesV (List.replicate 32 0)).toArray) (hzs : ∀ w, Sem.run Tryd.prog (zeroValue 41) w = .ok (.agg Z) w)
    (l r : List UInt8) (hl : l.length = 32) (hr : r.length = 32) (w : World) (hV : Cds w) :
    Calls Tryd.prog 36 #[.agg (bytesV l).toArray, .agg (bytesV r).toArray] w fun e w' => e = .returned (.agg (bytesV (Da.nd l r)).toArray) ∧ Below w.heap.size w w' := by
  obtain ⟨W1, hW1⟩ : ∃ W1, w.alloc (.cells (bytesV l).toArray 41) = W1 := ⟨_, rfl⟩
  obtain ⟨W2, hW2⟩ : ∃ W2, W1.alloc (.cells (bytesV r).toArray 41) = W2 := ⟨_, rfl⟩
  obtain ⟨W3, hW3⟩ : ∃ W3, W2.alloc (.cells Z 41) = W3 := ⟨_, rfl⟩
  have hb1 : Below w.heap.size w W1 := by rw [← hW1]; exact new12 _ _
  have hb2 : Below W1.heap.size W1 W2 := by rw [← hW2]; exact new12 _ _
  have hb3 : Below W2.heap.size W2 W3 := by rw [← hW3]; exact new12 _ _
  have hs1 : W1.heap.size = w.heap.size + 1 := by rw [← hW1, World.size_alloc]
  have hs2 : W2.heap.size = w.heap.size + 1 + 1 := by rw [← hW2, World.size_alloc, hs1]
  have hA1 : Arr W1 w.heap.size 41 (bytesV l) := by rw [← hW1]; exact Arr.made _ _ _
  have hA2 : Arr W2 W1.heap.size 41 (bytesV r) := by rw [← hW2]; exact Arr.made _ _ _
  have hA3 : Arr W3 W2.heap.size 41 Z.toList := by rw [← hW3]; exact Arr.made _ _ _
  have hA13 : Arr W3 w.heap.size 41 (bytesV l) := hA1.later (Kit.step hb2 hb3) hA1.lt
  have hA23 : Arr W3 W1.heap.size 41 (bytesV r) := hA2.later hb3 hA2.lt
  have hB3 := Kit.step (Kit.step hb1 hb2) hb3
  have HV := Lib.hid (hV.later hB3)
  obtain ⟨F, hF⟩ : ∃ F, (bytesV (Da.nd l r)).toArray = F := ⟨_, rfl⟩
  have hFl := Da.nd_length l r
  have HFS : Hid ((Tryd.prog.info? 41).map (·.size) = some F.size) := Lib.hid (by rw [dg_info, ← hF]; simp [hFl])
  have HFO : Hid (F.all (·.oneCell') = true) := Lib.hid (by rw [← hF]; exact all_oneCell_toArray (bytesV_one _))
  have HFZ : Hid (Z.size = F.size) := Lib.hid (by rw [hZ, ← hF]; simp [hFl])
  obtain ⟨LA, hLA⟩ : ∃ LA, (bytesV l).toArray = LA := ⟨_, rfl⟩
  obtain ⟨RA, hRA⟩ : ∃ RA, (bytesV r).toArray = RA := ⟨_, rfl⟩
  have HL1 : Hid (W3.heap[w.heap.size]? = some (.cells LA 41 (0, 0))) := Lib.hid (by rw [← hLA]; exact hA13)
  have HL2 : Hid (W3.heap[W1.heap.size]? = some (.cells RA 41 (0, 0))) := Lib.hid (by rw [← hRA]; exact hA23)
  have HLS : Hid ((Tryd.prog.info? 41).map (·.size) = some LA.size) := Lib.hid (by rw [dg_info, ← hLA]; simp [hl])
  have HRS : Hid ((Tryd.prog.info? 41).map (·.size) = some RA.size) := Lib.hid (by rw [dg_info, ← hRA]; simp [hr])
  have HA3 := Lib.hid hA3
  have HA13 := Lib.hid hA13
  have HA23 := Lib.hid hA23
  have HB3 := Lib.hid hB3
  rw [hs1, hs2] at *
  have HW1 := Lib.hid hW1
  have HW2 := Lib.hid hW2
  have HW3 := Lib.hid hW3
  have HFF := Lib.hid hF
  have HLA := Lib.hid hLA
  have HRA := Lib.hid hRA
  have HLL := Lib.hid hl
  have HRL := Lib.hid hr
  rw [hLA] at HW1 ⊢
  rw [hRA] at HW2 ⊢
  rw [hF]
  clear hb1 hb2 hb3 hB3 hs1 hs2 hW1 hW2 hW3 hLA hRA hF hA1 hA2 hA3 hA13 hA23 hFl hZ hl hr hV
  go_enter Tryd.func36, Tryd.ntmps36
  go_upto_region 1 with fail
  rw [HW1.out, HW2.out, HW3.out]
  apply wp_region_lit
  refine wpList_load_row rfl 41 (.tmp 2) rfl w.heap.size rfl 41 LA (0, 0) _ HL1.out dg_under rfl HLS.out ?_
  refine wpList_load_row rfl 41 (.tmp 3) rfl (w.heap.size + 1) rfl 41 RA (0, 0) _ HL2.out dg_under rfl HRS.out ?_
  have IN := tinner_any l r HLL.out HRL.out W3
  rw [HLA.out, HRA.out] at IN
  have HIN := Lib.hid IN
  clear IN
  (refine wpList_plain rfl (fun K hK => ?_); go_simp)
  refine HIN.out.mono ?_
  rintro e W4 ⟨g, cap, rfl, hg, hbuf, hb4⟩
  refine hK _ _ ?_
  clear hK K HIN
  have hp := one_part hbuf.row
  have hln : (1 :: (l ++ r) : List UInt8).length = 65 := by simp [HLL.out, HRL.out]
  rw [hln] at hp
  obtain ⟨W5, hW5⟩ : ∃ W5, W4.alloc (.cells #[.slice (some ⟨g, 0, none⟩) 65 cap] 27) = W5 := ⟨_, rfl⟩
  have hb5 : Below W4.heap.size W4 W5 := by rw [← hW5]; exact new12 _ _
  rw [hW5] at hp
  have hb45 := Kit.step hb4 hb5
  have SO := sof_any [1 :: (l ++ r)] (some ⟨W4.heap.size, 0, none⟩) 1 W5 hp (HV.out.later hb45) (by simp [HLL.out, HRL.out]) (by simp)
  rw [show ([1 :: (l ++ r)] : List (List UInt8)).flatten = 1 :: (l ++ r) by simp, show Da.sha (1 :: (l ++ r)) = Da.nd l r from rfl, HFF.out] at SO
  have HSO : Hid (Calls Tryd.prog 48 #[.slice (some ⟨W4.heap.size, 0, none⟩) 1 1] W5 fun e w' => e = .returned (.agg F) ∧ Below W5.heap.size W5 w') := Lib.hid SO
  have HW5 := Lib.hid hW5
  have HA5 := Lib.hid (HA3.out.later hb45 HA3.out.lt)
  have HB5 := Lib.hid (Kit.step HB3.out hb45)
  clear SO hp hln hW5 hb5 hb45 hbuf hb4 hg
  (refine wpList_plain rfl (fun K hK => ?_); go_simp; refine hK _ _ ?_; clear hK K)
  rw [HW5.out]
  (refine wpList_plain rfl (fun K hK => ?_); go_simp)
  refine HSO.out.mono ?_
  rintro e W6 ⟨rfl, hb6⟩
  refine hK _ _ ?_
  clear hK K HSO
  have hA6 := HA5.out.later hb6 HA5.out.lt
  have HA6 : Hid (W6.heap[w.heap.size + 1 + 1]? = some (.cells Z 41 (0, 0))) := Lib.hid hA6
  have HGW : Hid ((W6.setRow (w.heap.size + 1 + 1) F).heap[w.heap.size + 1 + 1]? = some (.cells F 41 (0, 0))) := Lib.hid (setRow_heap _ _ _ _ _ _ hA6)
  have HBW : Hid (Below w.heap.size w (W6.setRow (w.heap.size + 1 + 1) F)) := Lib.hid ((Kit.step HB5.out hb6).trans (below_row (by omega)))
  clear hA6 hb6
  refine wpList_store_row rfl 41 (.tmp 4) (.tmp 9) rfl (w.heap.size + 1 + 1) F rfl rfl 41 Z HA6.out HFS.out HFZ.out HFO.out ?_
  go_wp2_with fail
  refine bodyPost_ret (results_cell_row rfl _ _ (w.heap.size + 1 + 1) 41 F (0, 0) _ rfl HGW.out dg_under rfl HFS.out) rfl ?_
  exact ⟨rfl, HBW.out⟩
theorem tnode_any (l r : List UInt8) (hl : l.length = 32) (hr : r.length = 32) (w : World) (hV : Cds w) :
    Calls Tryd.prog 36 #[.agg (bytesV l).toArray, .agg (bytesV r).toArray] w fun e w' => e = .returned (.agg (bytesV (Da.nd l r)).toArray) ∧ Below w.heap.size w w' := tnode_of _ rfl dg_zero l r hl hr w hV
set_option maxRecDepth 100000 in
set_option maxHeartbeats 1000000 in
theorem rnode_of (Z : Array Value) (hZ : Z = (bytesV (List.replicate 32 0)).toArray) (hzs : ∀ w, Sem.run Tryd.prog (zeroValue 40) w = .ok (.agg Z) w)
    (l r : List UInt8) (hl : l.length = 32) (hr : r.length = 32) (w : World) (hV : Rds w) :
    Calls Tryd.prog 42 #[.agg (bytesV l).toArray, .agg (bytesV r).toArray] w fun e w' => e = .returned (.agg (bytesV (Da.nd l r)).toArray) ∧ Below w.heap.size w w' := by
  obtain ⟨W1, hW1⟩ : ∃ W1, w.alloc (.cells (bytesV l).toArray 40) = W1 := ⟨_, rfl⟩
  obtain ⟨W2, hW2⟩ : ∃ W2, W1.alloc (.cells (bytesV r).toArray 40) = W2 := ⟨_, rfl⟩
  obtain ⟨W3, hW3⟩ : ∃ W3, W2.alloc (.cells Z 40) = W3 := ⟨_, rfl⟩
  have hb1 : Below w.heap.size w W1 := by rw [← hW1]; exact new12 _ _
  have hb2 : Below W1.heap.size W1 W2 := by rw [← hW2]; exact new12 _ _
  have hb3 : Below W2.heap.size W2 W3 := by rw [← hW3]; exact new12 _ _
  have hs1 : W1.heap.size = w.heap.size + 1 := by rw [← hW1, World.size_alloc]
  have hs2 : W2.heap.size = w.heap.size + 1 + 1 := by rw [← hW2, World.size_alloc, hs1]
  have hA1 : Arr W1 w.heap.size 40 (bytesV l) := by rw [← hW1]; exact Arr.made _ _ _
  have hA2 : Arr W2 W1.heap.size 40 (bytesV r) := by rw [← hW2]; exact Arr.made _ _ _
  have hA3 : Arr W3 W2.heap.size 40 Z.toList := by rw [← hW3]; exact Arr.made _ _ _
  have hA13 : Arr W3 w.heap.size 40 (bytesV l) := hA1.later (Kit.step hb2 hb3) hA1.lt
  have hA23 : Arr W3 W1.heap.size 40 (bytesV r) := hA2.later hb3 hA2.lt
  have hB3 := Kit.step (Kit.step hb1 hb2) hb3
  have HV := Lib.hid (hV.later hB3)
  obtain ⟨F, hF⟩ : ∃ F, (bytesV (Da.nd l r)).toArray = F := ⟨_, rfl⟩
  have hFl := Da.nd_length l r
  have HFS : Hid ((Tryd.prog.info? 40).map (·.size) = some F.size) := Lib.hid (by rw [d32_info, ← hF]; simp [hFl])
  have HFO : Hid (F.all (·.oneCell') = true) := Lib.hid (by rw [← hF]; exact all_oneCell_toArray (bytesV_one _))
  have HFZ : Hid (Z.size = F.size) := Lib.hid (by rw [hZ, ← hF]; simp [hFl])
  obtain ⟨LA, hLA⟩ : ∃ LA, (bytesV l).toArray = LA := ⟨_, rfl⟩
  obtain ⟨RA, hRA⟩ : ∃ RA, (bytesV r).toArray = RA := ⟨_, rfl⟩
  have HL1 : Hid (W3.heap[w.heap.size]? = some (.cells LA 40 (0, 0))) := Lib.hid (by rw [← hLA]; exact hA13)
  have HL2 : Hid (W3.heap[W1.heap.size]? = some (.cells RA 40 (0, 0))) := Lib.hid (by rw [← hRA]; exact hA23)
  have HLS : Hid ((Tryd.prog.info? 40).map (·.size) = some LA.size) := Lib.hid (by rw [d32_info, ← hLA]; simp [hl])
  have HRS : Hid ((Tryd.prog.info? 40).map (·.size) = some RA.size) := Lib.hid (by rw [d32_info, ← hRA]; simp [hr])
  have HA3 := Lib.hid hA3
  have HA13 := Lib.hid hA13
  have HA23 := Lib.hid hA23
  have HB3 := Lib.hid hB3
  rw [hs1, hs2] at *
  have HW1 := Lib.hid hW1
  have HW2 := Lib.hid hW2
  have HW3 := Lib.hid hW3
  have HFF := Lib.hid hF
  have HLA := Lib.hid hLA
  have HRA := Lib.hid hRA
  have HLL := Lib.hid hl
  have HRL := Lib.hid hr
  rw [hLA] at HW1 ⊢
  rw [hRA] at HW2 ⊢
  rw [hF]
  clear hb1 hb2 hb3 hB3 hs1 hs2 hW1 hW2 hW3 hLA hRA hF hA1 hA2 hA3 hA13 hA23 hFl hZ hl hr hV
  obtain ⟨W4, hW4⟩ : ∃ W4, (W3.alloc (.cells #[.int .u8 1] 5)).drew = W4 := ⟨_, rfl⟩
  have hs3 : W3.heap.size = w.heap.size + 1 + 1 + 1 := by rw [← HW3.out, World.size_alloc, ← HW2.out, World.size_alloc, ← HW1.out, World.size_alloc]
  have hb4 : Below W3.heap.size W3 W4 := by rw [← hW4]; exact Kit.dn (new12 W3 _) 1
  have HO4 : Hid (W4.ownsRow W3.heap.size 5 1 (.slice (some ⟨W3.heap.size, 0, none⟩) 1 1) 1 (bytesV [1])) := Lib.hid (by rw [← hW4]; exact World.ownsRow_lit W3 #[.int .u8 1] 1 (Nat.le_refl _) (by unfold maxLen; decide) rfl)
  have hl1 := (HA13.out.later hb4 HA13.out.lt).row (by rw [HLL.out]; unfold maxLen; decide)
  have hr1 := (HA23.out.later hb4 HA23.out.lt).row (by rw [HRL.out]; unfold maxLen; decide)
  rw [HLL.out] at hl1
  rw [HRL.out] at hr1
  have HLR := Lib.hid hl1
  have HRR := Lib.hid hr1
  have HB4 := Lib.hid hb4
  have HW4 := Lib.hid hW4
  clear hl1 hr1 hb4 hW4 hs3
  go_enter Tryd.func42, Tryd.ntmps42
  go_upto_region 1 with fail
  rw [HW1.out, HW2.out, HW3.out]
  refine wp_region_any (by kernel_rfl) ?_
  change wpAny _ _ _ _ _ _ _ (World.drew _)
  refine wpAny_take (i := 1) (v := ?va1) rfl (by kernel_rfl) (by kernel_rfl) (by kernel_rfl) (fun _ _ _ h => h) (Or.inl ⟨by rfl, ?ha1⟩) ?ra1
  case ha1 => (intro w; (go_simp <;> with_reducible rfl))
  refine wpAny_take (i := 3) (v := ?va2) rfl (by kernel_rfl) (by kernel_rfl) (by kernel_rfl) (fun _ _ _ h => h) (Or.inl ⟨by rfl, ?ha2⟩) ?ra2
  case ha2 => (intro w; (go_simp <;> with_reducible rfl))
  refine wpAny_ready (rs := [0]) (by kernel_rfl) (by simp) ?_
  refine AllReady.cons rfl (fun K hK => ?_) AllReady.nil
  go_simp
  rw [HW4.out]
  refine hK _ _ ?_
  clear hK K
  refine wpAny_ready (rs := [2]) (by kernel_rfl) (by simp) ?_
  refine AllReady.cons rfl (fun K hK => ?_) AllReady.nil
  rw [if_pos (by rfl)]
  refine wp_append_row (.tmp 5) (.tmp 6) rfl W3.heap.size _ 1 [1] rfl HO4.out (some ⟨w.heap.size, 0, none⟩) 32 32 l rfl HLL.out.symm HLR.out (by omega) HB4.out.size fun v5 W5 hv5 hg5 => hK _ _ ?_
  clear hK K
  have hb5 := own_below (n := 0) HB4.out HO4.out hg5
  have HO5 := Lib.hid hv5
  have HB5 := Lib.hid hb5
  have hr5 := (HA23.out.later hb5 HA23.out.lt).row (by rw [HRL.out]; unfold maxLen; decide)
  rw [HRL.out] at hr5
  have HR5 := Lib.hid hr5
  clear hv5 hg5 hb5 hr5 HO4 HLR HRR
  refine wpAny_ready (rs := [4]) (by kernel_rfl) (by simp) ?_
  refine AllReady.cons rfl (fun K hK => ?_) AllReady.nil
  rw [if_pos (by rfl)]
  refine wp_append_row (.tmp 7) (.tmp 8) rfl W3.heap.size _ (1 + 32) ([1] ++ l) rfl HO5.out (some ⟨w.heap.size + 1, 0, none⟩) 32 32 r rfl HRL.out.symm HR5.out (by omega) HB5.out.size fun v6 W6 hv6 hg6 => hK _ _ ?_
  clear hK K
  have hb6 := own_below (n := 0) HB5.out HO5.out hg6
  obtain ⟨o6, c6, rfl, hr6⟩ := owns_is hv6 (by simp [HLL.out, HRL.out])
  have RO := rof_any (1 :: (l ++ r)) o6 c6 W6 (by simpa using hr6) (HV.out.later hb6) (by simp [HLL.out, HRL.out])
  have hln : (1 :: (l ++ r) : List UInt8).length = 1 + 32 + 32 := by simp [HLL.out, HRL.out]
  rw [hln, show Da.sha (1 :: (l ++ r)) = Da.nd l r from rfl, HFF.out] at RO
  have HRO := Lib.hid RO
  have HA6 := Lib.hid (HA3.out.later hb6 HA3.out.lt)
  have HB6 := Lib.hid (Kit.step HB3.out hb6)
  clear RO hln hr6 hv6 hg6 hb6 HO5 HB5 HR5
  refine wpAny_ready (rs := [5]) (by kernel_rfl) (by simp) ?_
  refine AllReady.cons rfl (fun K hK => ?_) AllReady.nil
  go_simp
  refine HRO.out.mono ?_
  rintro e W7 ⟨rfl, hb7⟩
  refine hK _ _ ?_
  clear hK K HRO
  have hA7 := HA6.out.later hb7 HA6.out.lt
  have HA7 : Hid (W7.heap[w.heap.size + 1 + 1]? = some (.cells Z 40 (0, 0))) := Lib.hid hA7
  have HGW : Hid ((W7.setRow (w.heap.size + 1 + 1) F).heap[w.heap.size + 1 + 1]? = some (.cells F 40 (0, 0))) := Lib.hid (setRow_heap _ _ _ _ _ _ hA7)
  have HBW : Hid (Below w.heap.size w (W7.setRow (w.heap.size + 1 + 1) F)) := Lib.hid ((Kit.step HB6.out hb7).trans (below_row (by omega)))
  clear hA7 hb7
  refine wpAny_ready (rs := [6]) (by kernel_rfl) (by simp) ?_
  refine AllReady.cons rfl (fun K hK => ?_) AllReady.nil
  rw [if_pos (by rfl)]
  refine wp_store_row 40 (.tmp 4) (.tmp 10) rfl (w.heap.size + 1 + 1) F rfl rfl 40 Z HA7.out HFS.out HFZ.out HFO.out (hK _ _ ?_)
  clear hK K
  refine wpAny_done (by kernel_rfl) ?_ _
  go_wp2_with fail
  refine bodyPost_ret (results_cell_row rfl _ _ (w.heap.size + 1 + 1) 40 F (0, 0) _ rfl HGW.out d32_under rfl HFS.out) rfl ?_
  exact ⟨rfl, HBW.out⟩
theorem rnode_any (l r : List UInt8) (hl : l.length = 32) (hr : r.length = 32) (w : World) (hV : Rds w) :
    Calls Tryd.prog 42 #[.agg (bytesV l).toArray, .agg (bytesV r).toArray] w fun e w' => e = .returned (.agg (bytesV (Da.nd l r)).toArray) ∧ Below w.heap.size w w' := rnode_of _ rfl d32_zero l r hl hr w hV
set_option maxRecDepth 100000 in
theorem rleaf_of (Z : Array Value) (hZ : Z = (bytesV (List.replicate 32 0)).toArray) (hzs : ∀ w, Sem.run Tryd.prog (zeroValue 40) w = .ok (.agg Z) w)
    (b : List UInt8) (o : Option Addr) (c : Nat) (w : World) (hR : RowIs w o (bytesV b) c) (hV : Rds w) (hl : b.length ≤ 90000) :
    Calls Tryd.prog 32 #[.slice o b.length c] w fun e w' => e = .returned (.agg (bytesV (Da.lf b)).toArray) ∧ Below w.heap.size w w' := by
  obtain ⟨g, hg⟩ : ∃ g, w.heap.size = g := ⟨_, rfl⟩
  obtain ⟨W1, hW1⟩ : ∃ W1, w.alloc (Obj.cells Z 40) = W1 := ⟨_, rfl⟩
  have hb1 : Below w.heap.size w W1 := by rw [← hW1]; exact new12 _ _
  have hA1 : Arr W1 g 40 Z.toList := by rw [← hW1, ← hg]; exact Arr.made _ _ _
  obtain ⟨W2, hW2⟩ : ∃ W2, W1.alloc (.cells #[.int .u8 0] 5) = W2 := ⟨_, rfl⟩
  have hb2 : Below W1.heap.size W1 W2 := by rw [← hW2]; exact new12 _ _
  have HO2 : Hid (W2.ownsRow W1.heap.size 5 1 (.slice (some ⟨W1.heap.size, 0, none⟩) 1 1) 1 (bytesV [0])) := Lib.hid (by rw [← hW2]; exact World.ownsRow_lit W1 #[.int .u8 0] 1 (Nat.le_refl _) (by unfold maxLen; decide) rfl)
  have HR2 := Lib.hid (hR.later (Kit.step hb1 hb2))
  have HV1 := Lib.hid (hV.later hb1)
  obtain ⟨F, hF⟩ : ∃ F, (bytesV (Da.lf b)).toArray = F := ⟨_, rfl⟩
  have hFl := Da.lf_length b
  have HFS : Hid ((Tryd.prog.info? 40).map (·.size) = some F.size) := Lib.hid (by rw [d32_info, ← hF]; simp [hFl])
  have HFO : Hid (F.all (·.oneCell') = true) := Lib.hid (by rw [← hF]; exact all_oneCell_toArray (bytesV_one _))
  have HFZ : Hid (Z.size = F.size) := Lib.hid (by rw [hZ, ← hF]; simp [hFl])
  have HA1 := Lib.hid hA1
  have HB1 := Lib.hid hb1
  have HB2 := Lib.hid hb2
  have HW1 := Lib.hid hW1
  have HW2 := Lib.hid hW2
  have HG := Lib.hid hg
  have HFF := Lib.hid hF
  obtain ⟨L, hL⟩ : ∃ L, b.length = L := ⟨_, rfl⟩
  have HL := Lib.hid hL
  rw [hL] at hl ⊢
  rw [hF]
  clear hb1 hb2 hW1 hW2 hR hL hF hV hA1 hFl hZ hg
  go_enter Tryd.func32, Tryd.ntmps32
  go_upto_region 1 with fail
  rw [HW1.out, HG.out]
  apply wp_region_lit
  (refine wpList_plain rfl (fun K hK => ?_); go_simp; refine hK _ _ ?_; clear hK K)
  rw [HW2.out]
  (refine wpList_plain rfl (fun K hK => ?_); go_simp; refine hK _ _ ?_; clear hK K)
  refine append_row rfl (.tmp 3) (.tmp 4) rfl W1.heap.size _ 1 [0] rfl HO2.out o L c b rfl HL.out.symm HR2.out (by omega) HB2.out.size ?_
  intro v3 W3 hv3 hg3
  have hb3 := own_below (n := 0) HB2.out HO2.out hg3
  obtain ⟨o3, c3, rfl, hr3⟩ := owns_is hv3 (by simp [HL.out]; omega)
  have RO := rof_any (0 :: b) o3 c3 W3 (by simpa using hr3) (HV1.out.later hb3) (by simp [HL.out]; omega)
  have hln : (0 :: b : List UInt8).length = 1 + L := by simp [HL.out]; omega
  rw [hln, show Da.sha (0 :: b) = Da.lf b from rfl, HFF.out] at RO
  have HRO := Lib.hid RO
  have HA3 := Lib.hid (HA1.out.later hb3 HA1.out.lt)
  have HB3 := Lib.hid (Kit.step HB1.out hb3)
  clear RO hln hr3 hv3 hg3 hb3 HO2 HB2 HR2
  (refine wpList_plain rfl (fun K hK => ?_); go_simp)
  refine HRO.out.mono ?_
  rintro e W4 ⟨rfl, hb4⟩
  refine hK _ _ ?_
  clear hK K HRO
  have hA4 := HA3.out.later hb4 HA3.out.lt
  have HA4 : Hid (W4.heap[g]? = some (.cells Z 40 (0, 0))) := Lib.hid hA4
  have HGW : Hid ((W4.setRow g F).heap[g]? = some (.cells F 40 (0, 0))) := Lib.hid (setRow_heap _ _ _ _ _ _ hA4)
  have HBW : Hid (Below w.heap.size w (W4.setRow g F)) := Lib.hid ((Kit.step HB3.out hb4).trans (below_row (Nat.le_of_eq HG.out)))
  clear hA4 hb4
  refine wpList_store_row rfl 40 (.tmp 2) (.tmp 6) rfl g F rfl rfl 40 Z HA4.out HFS.out HFZ.out HFO.out ?_
  go_wp2_with fail
  refine bodyPost_ret (results_cell_row rfl _ _ g 40 F (0, 0) _ rfl HGW.out d32_under rfl HFS.out) rfl ?_
  exact ⟨rfl, HBW.out⟩
theorem rleaf_any (b : List UInt8) (o : Option Addr) (c : Nat) (w : World) (hR : RowIs w o (bytesV b) c) (hV : Rds w) (hl : b.length ≤ 90000) :
    Calls Tryd.prog 32 #[.slice o b.length c] w fun e w' => e = .returned (.agg (bytesV (Da.lf b)).toArray) ∧ Below w.heap.size w w' := rleaf_of _ rfl d32_zero b o c w hR hV hl
end Go.Proofs.YtfccpfmgkpcnoaaDoor
namespace Go.Proofs.YtfccpfmgkpcnoaaDoor.Da
/-- digests, each of so many bytes -/
def all32 (ds : List (List UInt8)) : Prop := ∀ d ∈ ds, d.length = 32
theorem all32.app {a b : List (List UInt8)} (h : all32 a) (k : all32 b) : all32 (a ++ b) := fun d hd => by
  rcases List.mem_append.1 hd with h1 | h1
  · exact h d h1
  · exact k d h1
theorem all32.nil : all32 [] := fun d hd => by cases hd
theorem all32.one {d : List UInt8} (h : d.length = 32) : all32 [d] := fun e he => by rw [List.mem_singleton] at he; rw [he]; exact h
theorem all32.take {a : List (List UInt8)} (h : all32 a) (n : Nat) : all32 (a.take n) := fun d hd => h d (List.mem_of_mem_take hd)
theorem all32.drop {a : List (List UInt8)} (h : all32 a) (n : Nat) : all32 (a.drop n) := fun d hd => h d (List.mem_of_mem_drop hd)
theorem all32.at_ {a : List (List UInt8)} (h : all32 a) {i : Nat} (hi : i < a.length) : (bi a i).length = 32 := by
  have e : bi a i = a[i] := by simp [bi, hi]
  rw [e]; exact h _ (List.getElem_mem hi)
theorem all32.lf (bs : List (List UInt8)) : all32 (bs.map lf) := by
  intro d hd
  obtain ⟨b, _, rfl⟩ := List.mem_map.1 hd
  exact lf_length b
theorem flat_len {ds : List (List UInt8)} (h : all32 ds) : ds.flatten.length = ds.length * 32 := by
  induction ds with
  | nil => rfl
  | cons d ds ih =>
    rw [List.flatten_cons, List.length_append, ih (fun e he => h e (List.mem_cons_of_mem _ he)), h d (by simp), List.length_cons]
    omega
theorem flat_at {ds : List (List UInt8)} (h : all32 ds) (i j : Nat) (hi : i < ds.length) (hj : j < 32) : ds.flatten[i * 32 + j]? = (bi ds i)[j]? := by
  induction ds generalizing i with
  | nil => simp at hi
  | cons d ds ih =>
    have hd := h d (by simp)
    rw [List.flatten_cons]
    cases i with
    | zero =>
      rw [List.getElem?_append_left (by omega)]
      simp [bi]
    | succ i =>
      rw [List.getElem?_append_right (by omega), hd, show (i + 1) * 32 + j - 32 = i * 32 + j by omega, ih (fun e he => h e (List.mem_cons_of_mem _ he)) i (by simpa using hi)]
      simp [bi]
theorem flat_drop {ds : List (List UInt8)} (h : all32 ds) (k : Nat) : (ds.drop k).flatten = ds.flatten.drop (k * 32) := by
  by_cases hk : k ≤ ds.length
  · have e : ds.flatten = (ds.take k).flatten ++ (ds.drop k).flatten := by rw [← List.flatten_append, List.take_append_drop]
    have hl : (ds.take k).flatten.length = k * 32 := by rw [flat_len (h.take k), List.length_take]; congr 1; omega
    rw [e, ← hl, List.drop_left]
  · rw [List.drop_of_length_le (by omega), List.drop_of_length_le (by rw [flat_len h]; omega)]; rfl
theorem flat_take {ds : List (List UInt8)} (h : all32 ds) (k : Nat) : (ds.take k).flatten = ds.flatten.take (k * 32) := by
  by_cases hk : k ≤ ds.length
  · have e : ds.flatten = (ds.take k).flatten ++ (ds.drop k).flatten := by rw [← List.flatten_append, List.take_append_drop]
    have hl : (ds.take k).flatten.length = k * 32 := by rw [flat_len (h.take k), List.length_take]; congr 1; omega
    rw [e, ← hl, List.take_left]
  · rw [List.take_of_length_le (by omega), List.take_of_length_le (by rw [flat_len h]; omega)]
end Go.Proofs.YtfccpfmgkpcnoaaDoor.Da
namespace Go.Proofs.YtfccpfmgkpcnoaaDoor
open Go.RowKit
set_option linter.unusedVariables false
set_option linter.unusedSimpArgs false
/-- a slice of digests -/
structure DgIs (W : World) (o : Option Addr) (ds : List (List UInt8)) (c : Nat) : Prop where
  le : ds.length ≤ c
  cap : c ≤ maxLen
  nil : o = none → c = 0
  all : Da.all32 ds
  cells : 0 < ds.length → ∃ b off, o = some ⟨b, off, none⟩ ∧ b < W.heap.size ∧ W.rangeAt b off (bytesV ds.flatten)
theorem rangeAt_later {W W' : World} {b off : Nat} {cs : List Value} (h : W.rangeAt b off cs) (hb : Below W.heap.size W W') (hlt : b < W.heap.size) : W'.rangeAt b off cs :=
  fun j v hv => by rw [hb.cell (p := ⟨b, off + j, none⟩) hlt]; exact h j v hv
theorem DgIs.later {W W' : World} {o : Option Addr} {ds : List (List UInt8)} {c : Nat} (h : DgIs W o ds c) (hb : Below W.heap.size W W') : DgIs W' o ds c :=
  ⟨h.le, h.cap, h.nil, h.all, fun h0 => by
    obtain ⟨b, off, e, hlt, hc⟩ := h.cells h0
    exact ⟨b, off, e, Nat.lt_of_lt_of_le hlt hb.size, rangeAt_later hc hb hlt⟩⟩
theorem DgIs.at_ {W : World} {o : Option Addr} {ds : List (List UInt8)} {c : Nat} (h : DgIs W o ds c) (i : Nat) (hi : i < ds.length) :
    ∃ b off, o = some ⟨b, off, none⟩ ∧ b < W.heap.size ∧ W.rangeAt b (off + i * 32) (bytesV (bi ds i)) := by
  obtain ⟨b, off, e, hlt, hc⟩ := h.cells (by omega)
  refine ⟨b, off, e, hlt, fun j v hv => ?_⟩
  have hj : j < 32 := by
    have := (List.getElem?_eq_some_iff.1 hv).1
    rw [bytesV_length, h.all.at_ hi] at this
    exact this
  rw [Nat.add_assoc]
  refine hc _ v ?_
  unfold bytesV at hv ⊢
  rw [List.getElem?_map] at hv ⊢
  rw [Da.flat_at h.all i j hi hj]
  exact hv
theorem DgIs.noaddr {W : World} {ds : List (List UInt8)} {c : Nat} (h : DgIs W none ds c) : c = 0 ∧ ds = [] := by
  have h1 := h.nil rfl
  have h2 := h.le
  exact ⟨h1, List.eq_nil_of_length_eq_zero (by omega)⟩
theorem DgIs.empty {W : World} (o : Option Addr) (c : Nat) (hc : c ≤ maxLen) (h : o = none → c = 0) : DgIs W o [] c := ⟨by simp, hc, h, Da.all32.nil, fun h => by simp at h⟩
theorem DgIs.part {W : World} {b off : Nat} {ds : List (List UInt8)} {c : Nat} (h : DgIs W (some ⟨b, off, none⟩) ds c) (k m : Nat) (hm : k + m ≤ ds.length) (c' : Nat) (hc : m ≤ c') (hc2 : c' ≤ maxLen) :
    DgIs W (some ⟨b, off + k * 32, none⟩) ((ds.drop k).take m) c' :=
  ⟨by rw [List.length_take, List.length_drop]; omega, hc2, (fun e => by cases e), (h.all.drop k).take m, fun h0 => by
    rw [List.length_take, List.length_drop] at h0
    obtain ⟨b', off', e, hlt, hcl⟩ := h.cells (by omega)
    cases e
    refine ⟨b, off + k * 32, rfl, hlt, fun j v hv => ?_⟩
    rw [Nat.add_assoc]
    refine hcl _ v ?_
    rw [Da.flat_take (h.all.drop k), Da.flat_drop h.all] at hv
    unfold bytesV at hv ⊢
    rw [List.getElem?_map] at hv ⊢
    have hj : j < m * 32 := by
      have := hv
      rw [List.getElem?_take] at this
      by_cases hh : j < m * 32
      · exact hh
      · simp [hh] at this
    rw [List.getElem?_take_of_lt hj, List.getElem?_drop] at hv
    exact hv⟩
/-- what a digest's type tells -/
def dgI (T : TypeId) : Prop := (Tryd.prog.info? T).map (fun i => (i.zero, i.size, i.bytes)) = some (some (.agg (bytesV (List.replicate 32 0)).toArray), 32, 32)
theorem dgI_code : dgI 41 := by unfold dgI; kernel_rfl
theorem dgI_doc : dgI 40 := by unfold dgI; kernel_rfl
theorem dgI_parts {T : TypeId} (h : dgI T) : ∃ i, Tryd.prog.info? T = some i ∧ i.zero = some (.agg (bytesV (List.replicate 32 0)).toArray) ∧ i.size = 32 ∧ i.bytes = 32 := by
  unfold dgI at h
  cases hi : Tryd.prog.info? T with
  | none => rw [hi] at h; cases h
  | some i =>
    rw [hi] at h
    simp only [Option.map_some, Option.some.injEq, Prod.mk.injEq] at h
    exact ⟨i, rfl, h.1, h.2.1, h.2.2⟩
set_option maxRecDepth 100000 in
/-- one digest, laid as a slice -/
theorem dg_slice_run {T tS : TypeId} (hS : Tryd.prog.underlying tS = some (.slice T)) (hT : dgI T) (D : Array Value) (hD : D.size = 32) (w : World) :
    (Instr.buildSlice tS 1 #[(0, .agg D)]).run Tryd.prog w = .ok (.slice (some ⟨w.heap.size, 0, none⟩) 1 1) (w.alloc (.cells D T)) := by
  obtain ⟨i, hi, hz, hs, hb⟩ := dgI_parts hT
  refine run_buildSlice (P := Tryd.prog) w tS T 1 #[(0, .agg D)] D i _ hS hi hz (by rw [hs]; decide) (by rw [hs]; decide) ?_
  rw [hs]
  obtain ⟨r, hr, hsz, hk⟩ := Great.fill_dense (s := 32) (by decide) [Value.agg D] 0 ((Array.range (1 * 32)).map ((Value.agg (bytesV (List.replicate 32 0)).toArray).cells[· % (Value.agg (bytesV (List.replicate 32 0)).toArray).cells.size]!)) (by
    intro v hv
    rw [List.mem_singleton] at hv
    subst hv
    exact hD) (by simp)
  rw [show ([Value.agg D].zipIdx 0).map (fun x => (x.2, x.1)) = [(0, Value.agg D)] from rfl] at hr
  rw [show (#[((0 : Nat), Value.agg D)]).toList = [(0, Value.agg D)] from rfl, hr]
  congr 1
  apply Array.ext_getElem?
  intro k
  rw [hk k]
  by_cases h : k < 32
  · rw [if_pos ⟨by omega, by simpa using h⟩, show k / 32 - 0 = 0 by omega, show k % 32 = k by omega]
    rfl
  · rw [if_neg (by simp; omega)]
    have h1 : D[k]? = none := Array.getElem?_eq_none (by omega)
    rw [h1]
    exact Array.getElem?_eq_none (by simp; omega)
/-- a digest read in the middle of a block -/
theorem dg_load_run {T : TypeId} (hu : Tryd.prog.underlying T = some (.array 32 5)) (hT : dgI T) {W : World} {b off : Nat} {d : List UInt8} (hd : d.length = 32) (h : W.rangeAt b off (bytesV d)) :
    (Instr.loadAt T (.pointer (some ⟨b, off, none⟩))).run Tryd.prog W = .ok (.agg (bytesV d).toArray) W := by
  obtain ⟨i, hi, hz, hs, hb⟩ := dgI_parts hT
  exact run_loadAt_mid (P := Tryd.prog) W b off T (bytesV d) _ h hu rfl (by rw [hi]; simp [hs, hd])
theorem Arr.rng {W : World} {b : Nat} {T : TypeId} {xs : List Value} (h : Arr W b T xs) : W.rangeAt b 0 xs := fun j v hv => by rw [Nat.zero_add, h.cell]; exact hv
/-- append of one digest -/
theorem dg_append_run {T tS : TypeId} (hS : Tryd.prog.underlying tS = some (.slice T)) (hT : dgI T) (ty : TypeId) (w : World) (base : Nat) (v : Value) (n : Nat) (xs : List Value) (hown : w.ownsRow base T 32 v n xs)
    (b : Nat) (d : List UInt8) (hd : d.length = 32) (h : w.rangeAt b 0 (bytesV d)) (hl : n ≤ 1000000) (hbase : base ≤ w.heap.size) :
    ∃ g cap w', (Builtin.append_ #[tS, tS] ty #[v, .slice (some ⟨b, 0, none⟩) 1 1]).run Tryd.prog w = .ok (.slice (some ⟨g, 0, none⟩) (n + 1) cap) w' ∧ w'.ownsRow base T 32 (.slice (some ⟨g, 0, none⟩) (n + 1) cap) (n + 1) (xs ++ bytesV d) ∧
      w.grownBy w' v.ownBlock ∧ (some g = v.ownBlock ∨ g = w.heap.size) := by
  obtain ⟨i, hi, hz, hs, hb⟩ := dgI_parts hT
  obtain ⟨v', w', h1, h2, h3, _, h5⟩ := run_append_own_at (P := Tryd.prog) w base tS ty T i _ 32 32 hS hi hz hs hb (by simp [Value.cells]) (by decide) v n xs hown ⟨b, 0, none⟩ 1 1 (bytesV d) (by simp [hd]) (fun j u hu => by rw [Addr.add_mid]; exact h j u hu) (bytesV_one _)
    (by unfold maxLen; omega) (by omega) hbase
  rcases h2.2 with ⟨_, h0⟩ | ⟨g, cap, cur, rfl, hg, _⟩
  · omega
  · refine ⟨g, cap, w', h1, h2, h3, ?_⟩
    rcases h5 with h5 | h5
    · exact .inl h5
    · exact .inr (by simpa [Value.ownBlock] using h5)
/-- the last one is let go -/
theorem own_pop {T : TypeId} {W : World} {base g n cap : Nat} {xs : List Value} (h : W.ownsRow base T 32 (.slice (some ⟨g, 0, none⟩) (n + 1) cap) (n + 1) xs) : W.ownsRow base T 32 (.slice (some ⟨g, 0, none⟩) n cap) n (xs.take (n * 32)) := by
  obtain ⟨h1, h2⟩ := h
  refine ⟨by rw [List.length_take, h1]; omega, ?_⟩
  rcases h2 with ⟨_, h0⟩ | ⟨g', cap', cur, e, hg, hh, hle, hm, hs, ht⟩
  · omega
  · cases e
    refine .inr ⟨g, cap, cur, rfl, hg, hh, by omega, hm, hs, ?_⟩
    rw [← ht, List.take_take]
    congr 1
    omega
theorem own_dg {T : TypeId} {W : World} {base n : Nat} {v : Value} {ds : List (List UInt8)} (h : W.ownsRow base T 32 v n (bytesV ds.flatten)) (ha : Da.all32 ds) : n = ds.length ∧ ∃ o c, v = .slice o n c ∧ DgIs W o ds c := by
  have hn : n = ds.length := by
    have := h.1
    rw [bytesV_length, Da.flat_len ha] at this
    omega
  refine ⟨hn, ?_⟩
  rcases h.2 with ⟨rfl, h0⟩ | ⟨g, cap, cur, rfl, hg, hh, hle, hm, hs, ht⟩
  · obtain rfl : ds = [] := List.eq_nil_of_length_eq_zero (by omega)
    exact ⟨none, 0, by rw [h0], DgIs.empty none 0 (Nat.zero_le _) (fun _ => rfl)⟩
  · refine ⟨some ⟨g, 0, none⟩, cap, rfl, by omega, hm, (fun e => by cases e), ha, fun _ => ⟨g, 0, rfl, (Array.getElem?_eq_some_iff.1 hh).1, fun j u hu => ?_⟩⟩
    rw [Nat.zero_add, cell_of_row _ _ _ _ _ _ hh]
    rw [← ht, List.getElem?_take] at hu
    split at hu
    · simpa using hu
    · cases hu
theorem own_blk {T : TypeId} {W : World} {base n : Nat} {v : Value} {xs : List Value} (h : W.ownsRow base T 32 v n xs) : ∀ g, v.ownBlock = some g → base ≤ g ∧ ∃ cur, W.heap[g]? = some (.cells cur T (0, 0)) := by
  intro g e
  rcases h.2 with ⟨rfl, _⟩ | ⟨g', cap, cur, rfl, hg, hh, _⟩
  · cases e
  · cases e
    exact ⟨hg, cur, hh⟩
end Go.Proofs.YtfccpfmgkpcnoaaDoor
