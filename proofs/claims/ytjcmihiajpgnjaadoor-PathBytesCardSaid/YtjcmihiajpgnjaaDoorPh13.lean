/- The code's Fold, where it refuses; Check. -/
import Derived.Test.YtjcmihiajpgnjaaDoorPg13
namespace Go.Proofs.YtjcmihiajpgnjaaDoor
open Go.RowKit
set_option linter.unusedVariables false
set_option linter.unusedSimpArgs false
theorem dgq_neq (xs ys : List UInt8) (hx : xs.length = 32) (hy : ys.length = 32) (w : World) : (binOp .neq 38 (.agg (bytesV xs).toArray) (.agg (bytesV ys).toArray)).run Tryd.prog w = .ok (.bool (!(xs == ys))) w := by
  have h := run_equalIn_bytes (P := Tryd.prog) w 9998 38 5 32 dg_under Tryd.underlying5 (fun w => by
    obtain ⟨i0, hi, _, hz1, _⟩ := info_parts info_u8
    simp [sizeOf, typeInfo, hi, hz1]) xs ys hx hy
  have h' : (Op.equalIn 10000 38 (.agg (bytesV xs).toArray) (.agg (bytesV ys).toArray)).run Tryd.prog w = .ok (xs == ys) w := h
  rw [run_neq_struct, h']
  rfl
theorem dg_built13 : Tryd.prog.built 38 [] = some (bytesV (List.replicate 32 0)).toArray := by kernel_rfl
theorem neq_nil13 (v : World) : (binOp .neq 27 .nilIface .nilIface).run Tryd.prog v = .ok (.bool false) v := by kernel_rfl
set_option maxRecDepth 100000 in
set_option maxHeartbeats 2000000 in
theorem pfold_range_of (Z : Array Value) (hZ : Z = (bytesV (List.replicate 32 0)).toArray) (hzs : ∀ w, Sem.run Tryd.prog (zeroValue 38) w = .ok (.agg Z) w) (hbu : Tryd.prog.built 38 [] = some Z)
    (n i : Int) (lv : Value) (op : Option Addr) (m cp : Nat) (hbad : ¬ (0 ≤ i ∧ i < n ∧ n ≤ 512)) (A : Nat → Addr) (w : World) (hA : E13 w A) :
    Calls Tryd.prog 21 #[.int .i64 n, .int .i64 i, lv, .slice op m cp] w fun e w' => e = .returned (.tuple #[.agg Z, errP A 1]) ∧ Below w.heap.size w w' := by
  obtain ⟨g, hg⟩ : ∃ g, w.heap.size = g := ⟨_, rfl⟩
  obtain ⟨W1, hW1⟩ : ∃ W1, w.alloc (Obj.cells Z 38) = W1 := ⟨_, rfl⟩
  have hb1 : Below w.heap.size w W1 := by rw [← hW1]; exact new12 _ _
  have hA1 : Arr W1 g 38 Z.toList := by rw [← hW1, ← hg]; exact Arr.made _ _ _
  have hE1 := hA.later hb1
  have hgne : (0 : Nat) ≠ g := by have := St.cell_lt hA.c0; omega
  have HGN := Lib.hid hgne
  have PL := (plen_bad n i hbad W1).mono (R' := fun e w' => e = .returned (.int .i64 (-1)) ∧ Below W1.heap.size W1 w') (fun e w' h => ⟨h.1, by rw [h.2]; exact Below.refl _ _⟩)
  have HPL := Lib.hid PL
  clear PL
  have HZS : Hid (Z.size = Z.size) := Lib.hid rfl
  have HZI : Hid ((Tryd.prog.info? 38).map (·.size) = some Z.size) := Lib.hid (by rw [dg_info, hZ]; simp)
  have HZO : Hid (Z.all (·.oneCell') = true) := Lib.hid (by rw [hZ]; exact all_oneCell_toArray (bytesV_one _))
  have HB1 := Lib.hid hb1
  have HA1 := Lib.hid hA1
  have HE1 := Lib.hid hE1
  have HW1 := Lib.hid hW1
  have HG := Lib.hid hg
  have HBU := Lib.hid hbu
  clear hb1 hA1 hE1 hW1 hg hZ hA hbu hgne
  go_enter Tryd.func21, Tryd.ntmps21
  go_upto_region 1 with fail
  rw [HW1.out, HG.out]
  clear HW1
  go_wp2_with fail
  refine HPL.out.mono ?_
  rintro e W2 ⟨rfl, hb2⟩
  have hA2 := HA1.out.later hb2 HA1.out.lt
  have hE2 := HE1.out.later hb2
  have HB2 := Lib.hid (Kit.step HB1.out hb2)
  obtain ⟨C, hC⟩ : ∃ C : World → Prop, (fun v : World => v.heap[g]? = some (.cells Z 38 (0, 0)) ∧ v.cell? ⟨0, 0, none⟩ = some (.iface 137 (.pointer (some (A 0)))) ∧ Below w.heap.size w v) = C := ⟨_, rfl⟩
  have HC2 : Hid (∀ v, C v → v.heap[g]? = some (.cells Z 38 (0, 0)) ∧ v.cell? ⟨0, 0, none⟩ = some (.iface 137 (.pointer (some (A 0)))) ∧ Below w.heap.size w v) := Lib.hid fun v hv => by rw [← hC] at hv; exact hv
  have HC1 : Hid (∀ v, v.heap[g]? = some (.cells Z 38 (0, 0)) → v.cell? ⟨0, 0, none⟩ = some (.iface 137 (.pointer (some (A 0)))) → Below w.heap.size w v → C v) := Lib.hid fun v h1 h2 h3 => by rw [← hC]; exact ⟨h1, h2, h3⟩
  have hC0 : C W2.drew := HC1.out _ hA2 hE2.c0 (Kit.step HB2.out (Kit.dn' W2 1))
  clear hC hA2 hE2 hb2 HPL
  go_upto_region 3 with fail
  refine Rgt.region C (fun _ => false) (by kernel_rfl) ?_
  refine Rgt.take (i := 0) (x := .agg Z) rfl rfl (by kernel_rfl) (by kernel_rfl) (by kernel_rfl) (by kernel_rfl) (fun _ _ _ h => h) (Or.inl ⟨by kernel_rfl, fun w hw => exec_build rfl HBU.out w⟩) hC0 ?_
  go_simp
  refine Rgt.take (i := 1) (x := .iface 137 (.pointer (some (A 0)))) rfl rfl (by kernel_rfl) (by kernel_rfl) (by kernel_rfl) (by kernel_rfl) (fun _ _ _ h => h) (Or.inl ⟨by kernel_rfl, fun w hw => by have hc := (HC2.out w hw).2.1; (go_simp <;> with_reducible rfl)⟩) hC0 ?_
  go_simp
  have hgw := (HC2.out _ hC0).1
  have hcw := (HC2.out _ hC0).2.1
  have hbw := (HC2.out _ hC0).2.2
  obtain ⟨W3, hW3⟩ : ∃ W3, W2.drew = W3 := ⟨_, rfl⟩
  rw [hW3] at hgw hcw hbw ⊢
  have hb4 : Below w.heap.size w (W3.setRow g Z) := hbw.trans (below_row (Nat.le_of_eq HG.out))
  have hg4 : (W3.setRow g Z).heap[g]? = some (.cells Z 38 (0, 0)) := setRow_heap _ _ _ _ _ _ hgw
  have hc4 : (W3.setRow g Z).cell? ⟨0, 0, none⟩ = some (.iface 137 (.pointer (some (A 0)))) := by
    rw [World.cell?_of_block (a := ⟨0, 0, none⟩) (setRow_other W3 g 0 Z HGN.out)]
    exact hcw
  have hC4 := HC1.out _ hg4 hc4 hb4
  have HG4 := Lib.hid hg4
  have HB4 := Lib.hid hb4
  clear hC0 hcw hbw hb4 hg4 hc4
  refine Rgt.ready (i := 2) (by kernel_rfl) rfl (by kernel_rfl) (fun K hK => ?_)
  refine wp_store_row 38 (.tmp 8) (.tmp 18) rfl g Z rfl rfl 38 Z hgw HZI.out rfl HZO.out (hK _ _ hC4 ?_)
  clear hK K hgw
  refine Rgt.ready (i := 3) (by kernel_rfl) rfl (by kernel_rfl) (fun K hK => ?_)
  go_simp
  refine hK _ _ hC4 ?_
  clear hK K
  refine Rgt.done (by kernel_rfl) ?_ _
  go_wp2_with fail
  refine bodyPost_ret (results_cell_row2 rfl _ _ g 38 Z (0, 0) _ rfl HG4.out dg_under rfl HZI.out) rfl ?_
  exact ⟨rfl, HB4.out⟩
theorem pfold_range_any (n i : Int) (lv : Value) (op : Option Addr) (m cp : Nat) (hbad : ¬ (0 ≤ i ∧ i < n ∧ n ≤ 512)) (A : Nat → Addr) (w : World) (hA : E13 w A) :
    Calls Tryd.prog 21 #[.int .i64 n, .int .i64 i, lv, .slice op m cp] w fun e w' => e = .returned (.tuple #[.agg (bytesV (List.replicate 32 0)).toArray, errP A 1]) ∧ Below w.heap.size w w' := pfold_range_of _ rfl dg_zero dg_built13 n i lv op m cp hbad A w hA
set_option maxRecDepth 100000 in
set_option maxHeartbeats 2000000 in
theorem pfold_size_of (Z : Array Value) (hZ : Z = (bytesV (List.replicate 32 0)).toArray) (hzs : ∀ w, Sem.run Tryd.prog (zeroValue 38) w = .ok (.agg Z) w) (hbu : Tryd.prog.built 38 [] = some Z)
    (n i : Int) (lv : Value) (op : Option Addr) (m cp : Nat) (hn0 : 0 ≤ n) (hi0 : 0 ≤ i) (hin : i < n) (hn5 : n ≤ 512) (hne : m ≠ (Da.ups n.toNat i.toNat).length) (hmm : m ≤ 1000000) (A : Nat → Addr) (w : World) (hA : E13 w A) :
    Calls Tryd.prog 21 #[.int .i64 n, .int .i64 i, lv, .slice op m cp] w fun e w' => e = .returned (.tuple #[.agg Z, errP A 8]) ∧ Below w.heap.size w w' := by
  obtain ⟨g, hg⟩ : ∃ g, w.heap.size = g := ⟨_, rfl⟩
  obtain ⟨W1, hW1⟩ : ∃ W1, w.alloc (Obj.cells Z 38) = W1 := ⟨_, rfl⟩
  have hb1 : Below w.heap.size w W1 := by rw [← hW1]; exact new12 _ _
  have hA1 : Arr W1 g 38 Z.toList := by rw [← hW1, ← hg]; exact Arr.made _ _ _
  have hE1 := hA.later hb1
  have hgne : (7 : Nat) ≠ g := by have := St.cell_lt hA.c7; omega
  have HGN := Lib.hid hgne
  have PL := plen_any n.toNat i.toNat (by omega) (by omega) W1
  rw [show ((n.toNat : Nat) : Int) = n by omega, show ((i.toNat : Nat) : Int) = i by omega] at PL
  have h9 := Da.ups_nine (n := n.toNat) (by omega) i.toNat
  obtain ⟨u, hu⟩ : ∃ u, (Da.ups n.toNat i.toNat).length = u := ⟨_, rfl⟩
  rw [hu] at PL h9 hne
  have hd1 : decide ((u : Int) < 0) = false := decide_eq_false (by omega)
  have hd2 : decide ((m : Int) ≠ (u : Int)) = true := decide_eq_true (by omega)
  have hd3 : decide (m = u) = false := decide_eq_false hne
  have hd4 : ((m : Int) != (u : Int)) = true := by simp; omega
  have HNE := Lib.hid hne
  have HPL := Lib.hid PL
  clear PL hu hne
  have HZS : Hid (Z.size = Z.size) := Lib.hid rfl
  have HZI : Hid ((Tryd.prog.info? 38).map (·.size) = some Z.size) := Lib.hid (by rw [dg_info, hZ]; simp)
  have HZO : Hid (Z.all (·.oneCell') = true) := Lib.hid (by rw [hZ]; exact all_oneCell_toArray (bytesV_one _))
  have HB1 := Lib.hid hb1
  have HA1 := Lib.hid hA1
  have HE1 := Lib.hid hE1
  have HW1 := Lib.hid hW1
  have HG := Lib.hid hg
  have HBU := Lib.hid hbu
  clear hb1 hA1 hE1 hW1 hg hZ hA hbu hgne
  go_enter Tryd.func21, Tryd.ntmps21
  go_upto_region 1 with fail
  rw [HW1.out, HG.out]
  clear HW1
  go_wp2_with fail
  refine HPL.out.mono ?_
  rintro e W2 ⟨rfl, hb2⟩
  have hA2 := HA1.out.later hb2 HA1.out.lt
  have hE2 := HE1.out.later hb2
  have HB2 := Lib.hid (Kit.step HB1.out hb2)
  obtain ⟨C, hC⟩ : ∃ C : World → Prop, (fun v : World => v.heap[g]? = some (.cells Z 38 (0, 0)) ∧ v.cell? ⟨7, 0, none⟩ = some (.iface 137 (.pointer (some (A 7)))) ∧ Below w.heap.size w v) = C := ⟨_, rfl⟩
  have HC2 : Hid (∀ v, C v → v.heap[g]? = some (.cells Z 38 (0, 0)) ∧ v.cell? ⟨7, 0, none⟩ = some (.iface 137 (.pointer (some (A 7)))) ∧ Below w.heap.size w v) := Lib.hid fun v hv => by rw [← hC] at hv; exact hv
  have HC1 : Hid (∀ v, v.heap[g]? = some (.cells Z 38 (0, 0)) → v.cell? ⟨7, 0, none⟩ = some (.iface 137 (.pointer (some (A 7)))) → Below w.heap.size w v → C v) := Lib.hid fun v h1 h2 h3 => by rw [← hC]; exact ⟨h1, h2, h3⟩
  have hC0 : C W2.drew := HC1.out _ hA2 hE2.c7 (Kit.step HB2.out (Kit.dn' W2 1))
  clear hC hA2 hE2 hb2 HPL
  go_upto_region 5 with fail
  refine Rgt.region C (fun _ => false) (by kernel_rfl) ?_
  refine Rgt.take (i := 0) (x := .agg Z) rfl rfl (by kernel_rfl) (by kernel_rfl) (by kernel_rfl) (by kernel_rfl) (fun _ _ _ h => h) (Or.inl ⟨by kernel_rfl, fun w hw => exec_build rfl HBU.out w⟩) hC0 ?_
  go_simp
  refine Rgt.take (i := 1) (x := .iface 137 (.pointer (some (A 7)))) rfl rfl (by kernel_rfl) (by kernel_rfl) (by kernel_rfl) (by kernel_rfl) (fun _ _ _ h => h) (Or.inl ⟨by kernel_rfl, fun w hw => by have hc := (HC2.out w hw).2.1; (go_simp <;> with_reducible rfl)⟩) hC0 ?_
  go_simp
  have hgw := (HC2.out _ hC0).1
  have hcw := (HC2.out _ hC0).2.1
  have hbw := (HC2.out _ hC0).2.2
  obtain ⟨W3, hW3⟩ : ∃ W3, W2.drew = W3 := ⟨_, rfl⟩
  rw [hW3] at hgw hcw hbw ⊢
  have hb4 : Below w.heap.size w (W3.setRow g Z) := hbw.trans (below_row (Nat.le_of_eq HG.out))
  have hg4 : (W3.setRow g Z).heap[g]? = some (.cells Z 38 (0, 0)) := setRow_heap _ _ _ _ _ _ hgw
  have hc4 : (W3.setRow g Z).cell? ⟨7, 0, none⟩ = some (.iface 137 (.pointer (some (A 7)))) := by
    rw [World.cell?_of_block (a := ⟨7, 0, none⟩) (setRow_other W3 g 7 Z HGN.out)]
    exact hcw
  have hC4 := HC1.out _ hg4 hc4 hb4
  have HG4 := Lib.hid hg4
  have HB4 := Lib.hid hb4
  clear hC0 hcw hbw hb4 hg4 hc4
  refine Rgt.ready (i := 2) (by kernel_rfl) rfl (by kernel_rfl) (fun K hK => ?_)
  refine wp_store_row 38 (.tmp 8) (.tmp 24) rfl g Z rfl rfl 38 Z hgw HZI.out rfl HZO.out (hK _ _ hC4 ?_)
  clear hK K hgw
  refine Rgt.ready (i := 3) (by kernel_rfl) rfl (by kernel_rfl) (fun K hK => ?_)
  go_simp
  refine hK _ _ hC4 ?_
  clear hK K
  refine Rgt.done (by kernel_rfl) ?_ _
  go_wp2_with fail
  refine bodyPost_ret (results_cell_row2 rfl _ _ g 38 Z (0, 0) _ rfl HG4.out dg_under rfl HZI.out) rfl ?_
  exact ⟨rfl, HB4.out⟩
theorem pfold_size_any (n i : Int) (lv : Value) (op : Option Addr) (m cp : Nat) (hn0 : 0 ≤ n) (hi0 : 0 ≤ i) (hin : i < n) (hn5 : n ≤ 512) (hne : m ≠ (Da.ups n.toNat i.toNat).length) (hmm : m ≤ 1000000) (A : Nat → Addr) (w : World) (hA : E13 w A) :
    Calls Tryd.prog 21 #[.int .i64 n, .int .i64 i, lv, .slice op m cp] w fun e w' => e = .returned (.tuple #[.agg (bytesV (List.replicate 32 0)).toArray, errP A 8]) ∧ Below w.heap.size w w' := pfold_size_of _ rfl dg_zero dg_built13 n i lv op m cp hn0 hi0 hin hn5 hne hmm A w hA
set_option maxRecDepth 100000 in
theorem pcheck_of (Z : Array Value) (hZ : Z = (bytesV (List.replicate 32 0)).toArray) (hzs : ∀ w, Sem.run Tryd.prog (zeroValue 38) w = .ok (.agg Z) w)
    (root d : List UInt8) (hr : root.length = 32) (hd : d.length = 32) (n i : Int) (lv pv : Value) (A : Nat → Addr) (k : Nat) (w : World) (hA : E13 w A)
    (hF : ∀ W, Below w.heap.size w W → Calls Tryd.prog 21 #[.int .i64 n, .int .i64 i, lv, pv] W fun e w' => e = .returned (.tuple #[.agg (bytesV d).toArray, errP A k]) ∧ Below W.heap.size W w') :
    Calls Tryd.prog 17 #[.agg (bytesV root).toArray, .int .i64 n, .int .i64 i, lv, pv] w fun e w' => e = .returned (errP A (if k = 0 then (if d = root then 0 else 15) else k)) ∧ Below w.heap.size w w' := by
  obtain ⟨r, hrr⟩ : ∃ r, (if k = 0 then (if d = root then 0 else 15) else k) = r := ⟨_, rfl⟩
  rw [hrr]
  have HRR := Lib.hid hrr
  clear hrr
  obtain ⟨R, hR⟩ : ∃ R, (bytesV root).toArray = R := ⟨_, rfl⟩
  obtain ⟨D, hD⟩ : ∃ D, (bytesV d).toArray = D := ⟨_, rfl⟩
  obtain ⟨g, hg⟩ : ∃ g, w.heap.size = g := ⟨_, rfl⟩
  obtain ⟨W1, hW1⟩ : ∃ W1, w.alloc (.cells R 38) = W1 := ⟨_, rfl⟩
  have hb1 : Below w.heap.size w W1 := by rw [← hW1]; exact new12 _ _
  have hg1 : W1.heap[g]? = some (.cells R 38 (0, 0)) := by rw [← hW1, ← hg]; exact World.alloc_heap_new w _
  have FO := hF W1 hb1
  have hne := fun W => dgq_neq d root hd hr W
  rw [hD] at FO hne
  rw [hR] at hne
  have HRS : Hid ((Tryd.prog.info? 38).map (·.size) = some R.size) := Lib.hid (by rw [dg_info, ← hR]; simp [hr])
  have HDS : Hid ((Tryd.prog.info? 38).map (·.size) = some D.size) := Lib.hid (by rw [dg_info, ← hD]; simp [hd])
  have HDO : Hid (D.all (·.oneCell') = true) := Lib.hid (by rw [← hD]; exact all_oneCell_toArray (bytesV_one _))
  have HDZ : Hid (Z.size = D.size) := Lib.hid (by rw [hZ, ← hD]; simp [hd])
  have HFO := Lib.hid FO
  have HW1 := Lib.hid hW1
  have HB1 := Lib.hid hb1
  have HG1 := Lib.hid hg1
  have HG := Lib.hid hg
  have HE1 := Lib.hid (hA.later hb1)
  rw [hR]
  have hn0 := neq_nil13
  have hgd := dgq_guard
  clear FO hW1 hb1 hg1 hg hF hR hD hd hr hA hZ
  go_enter Tryd.func17, Tryd.ntmps17
  go_upto_region 1 with fail
  rw [HW1.out, HG.out]
  apply wp_region_lit
  (refine wpList_plain rfl (fun K hK => ?_); go_simp; refine hK _ _ ?_; clear hK K)
  (refine wpList_plain rfl (fun K hK => ?_); go_simp; refine hK _ _ ?_; clear hK K)
  (refine wpList_plain rfl (fun K hK => ?_); go_simp; refine hK _ _ ?_; clear hK K)
  (refine wpList_plain rfl (fun K hK => ?_); go_simp; refine hK _ _ ?_; clear hK K)
  (refine wpList_plain rfl (fun K hK => ?_); go_simp)
  refine HFO.out.mono ?_
  rintro e W2 ⟨rfl, hb2⟩
  refine hK _ _ ?_
  clear hK K HFO
  obtain ⟨W3, hW3⟩ : ∃ W3, W2.alloc (.cells Z 38) = W3 := ⟨_, rfl⟩
  obtain ⟨p, hp⟩ : ∃ p, W2.heap.size = p := ⟨_, rfl⟩
  obtain ⟨W4, hW4⟩ : ∃ W4, W3.setRow p D = W4 := ⟨_, rfl⟩
  have hA3 : W3.heap[p]? = some (.cells Z 38 (0, 0)) := by rw [← hW3, ← hp]; exact World.alloc_heap_new W2 _
  have hA4 : W4.heap[p]? = some (.cells D 38 (0, 0)) := by rw [← hW4]; exact setRow_heap _ _ _ _ _ _ hA3
  have hb4 : Below W2.heap.size W2 W4 := by rw [← hW4, ← hW3]; exact (new12 _ _).trans (below_row (Nat.le_of_eq hp))
  have hB14 := Kit.step hb2 hb4
  have hB4 := Kit.step HB1.out hB14
  have hgr : W4.heap[g]? = some (.cells R 38 (0, 0)) := by rw [hB14.block g (Array.getElem?_eq_some_iff.1 HG1.out).1]; exact HG1.out
  have hE4 := HE1.out.later hB14
  have hc14 := hE4.c14
  have HA3 := Lib.hid hA3
  have HA4 := Lib.hid hA4
  have HGR := Lib.hid hgr
  have HB4 := Lib.hid hB4
  have HW3 := Lib.hid hW3
  have HW4 := Lib.hid hW4
  have HP := Lib.hid hp
  clear hW3 hp hW4 hA3 hA4 hb4 hB14 hB4 hgr hE4 hb2
  (refine wpList_plain rfl (fun K hK => ?_); go_simp; refine hK _ _ ?_; clear hK K)
  (refine wpList_plain rfl (fun K hK => ?_); go_simp; refine hK _ _ ?_; clear hK K)
  (refine wpList_plain rfl (fun K hK => ?_); go_simp; refine hK _ _ ?_; clear hK K)
  (refine wpList_plain rfl (fun K hK => ?_); go_simp; refine hK _ _ ?_; clear hK K)
  rw [HW3.out, HP.out]
  refine wpList_store_row rfl 38 (.tmp 11) (.tmp 19) rfl p D rfl rfl 38 Z HA3.out HDS.out HDZ.out HDO.out ?_
  rw [HW4.out]
  clear HW3 HW4 HA3
  by_cases hk0 : k = 0
  · subst hk0
    have e0 : errP A 0 = .nilIface := rfl
    rw [e0]
    clear e0
    go_upto_region 4 with fail
    apply wp_region_lit
    refine wpList_load_row rfl 38 (.tmp 11) rfl p rfl 38 D (0, 0) _ HA4.out dg_under rfl HDS.out ?_
    refine wpList_load_row rfl 38 (.tmp 5) rfl g rfl 38 R (0, 0) _ HGR.out dg_under rfl HRS.out ?_
    by_cases hdr : d = root
    · have hq : (d == root) = true := by rw [hdr]; exact beq_self_eq_true _
      have hne2 : ∀ W, (binOp .neq 38 (.agg D) (.agg R)).run Tryd.prog W = .ok (.bool false) W := fun W => by rw [hne W, hq]; rfl
      have HDR := Lib.hid hdr
      clear hne hq hdr
      go_wp2_with fail
      go_ret
      exact ⟨by rw [← HRR.out, if_pos trivial, if_pos HDR.out]; rfl, HB4.out⟩
    · have hq : (d == root) = false := by simpa using hdr
      have hne2 : ∀ W, (binOp .neq 38 (.agg D) (.agg R)).run Tryd.prog W = .ok (.bool true) W := fun W => by rw [hne W, hq]; rfl
      have HDR := Lib.hid hdr
      clear hne hq hdr
      go_wp2_with fail
      go_ret
      exact ⟨by rw [← HRR.out, if_pos trivial, if_neg HDR.out]; rfl, HB4.out⟩
  · have hev : errP A k = .iface 137 (.pointer (some (A (k - 1)))) := by unfold errP; rw [if_neg hk0]
    rw [hev]
    have HK0 := Lib.hid hk0
    clear hne hc14 hev hk0
    go_wp2_with fail
    go_ret
    exact ⟨by rw [← HRR.out, if_neg HK0.out]; unfold errP; rw [if_neg HK0.out]; rfl, HB4.out⟩
/-- what a path's root is: 0, or an error's number -/
def Da.chkF (n i : Int) (m : Nat) : Nat := if 0 ≤ i ∧ i < n ∧ n ≤ 512 then (if m = (Da.ups n.toNat i.toNat).length then 0 else 8) else 1
def Da.fold13 (n i : Int) (leaf : List UInt8) (ps : List (List UInt8)) : List UInt8 := if Da.chkF n i ps.length = 0 then Da.fs (Da.lf leaf) (Da.ups n.toNat i.toNat) ps ps.length else List.replicate 32 0
def Da.chk13 (root : List UInt8) (n i : Int) (leaf : List UInt8) (ps : List (List UInt8)) : Nat := if Da.chkF n i ps.length = 0 then (if Da.fold13 n i leaf ps = root then 0 else 15) else Da.chkF n i ps.length
theorem Da.fold13_length (n i : Int) (leaf : List UInt8) (ps : List (List UInt8)) : (Da.fold13 n i leaf ps).length = 32 := by
  unfold Da.fold13
  split
  · exact Da.fs_length (Da.lf_length leaf) _ _ _
  · simp
/-- Fold, whatever is asked -/
theorem pfold_all (leaf : List UInt8) (ol : Option Addr) (cl : Nat) (ps : List (List UInt8)) (op : Option Addr) (cp : Nat) (n i : Int) (hl5 : leaf.length ≤ 8900) (hp5 : ps.length ≤ 1000000) (A : Nat → Addr) (w : World)
    (hR : RowIs w ol (bytesV leaf) cl) (hP : DgIs w op ps cp) (hV : Cds w) (hA : E13 w A) :
    Calls Tryd.prog 21 #[.int .i64 n, .int .i64 i, .slice ol leaf.length cl, .slice op ps.length cp] w fun e w' => e = .returned (.tuple #[.agg (bytesV (Da.fold13 n i leaf ps)).toArray, errP A (Da.chkF n i ps.length)]) ∧ Below w.heap.size w w' := by
  by_cases hr : 0 ≤ i ∧ i < n ∧ n ≤ 512
  · by_cases hm : ps.length = (Da.ups n.toNat i.toNat).length
    · have hk : Da.chkF n i ps.length = 0 := by unfold Da.chkF; rw [if_pos hr, if_pos hm]
      have := pfold_any leaf ol cl ps op ps.length cp n.toNat i.toNat rfl hm.symm (by omega) (by omega) hl5 w hR hP hV
      rw [show ((n.toNat : Nat) : Int) = n by omega, show ((i.toNat : Nat) : Int) = i by omega] at this
      unfold Da.fold13
      rw [hk, if_pos rfl]
      exact this
    · have hk : Da.chkF n i ps.length = 8 := by unfold Da.chkF; rw [if_pos hr, if_neg hm]
      have := pfold_size_any n i (.slice ol leaf.length cl) op ps.length cp (by omega) hr.1 hr.2.1 hr.2.2 hm hp5 A w hA
      unfold Da.fold13
      rw [hk, if_neg (by omega)]
      exact this
  · have hk : Da.chkF n i ps.length = 1 := by unfold Da.chkF; rw [if_neg hr]
    have := pfold_range_any n i (.slice ol leaf.length cl) op ps.length cp hr A w hA
    unfold Da.fold13
    rw [hk, if_neg (by omega)]
    exact this
theorem pcheck_all (root : List UInt8) (hr : root.length = 32) (leaf : List UInt8) (ol : Option Addr) (cl : Nat) (ps : List (List UInt8)) (op : Option Addr) (cp : Nat) (n i : Int) (hl5 : leaf.length ≤ 8900) (hp5 : ps.length ≤ 1000000) (A : Nat → Addr) (w : World)
    (hR : RowIs w ol (bytesV leaf) cl) (hP : DgIs w op ps cp) (hV : Cds w) (hA : E13 w A) :
    Calls Tryd.prog 17 #[.agg (bytesV root).toArray, .int .i64 n, .int .i64 i, .slice ol leaf.length cl, .slice op ps.length cp] w fun e w' => e = .returned (errP A (Da.chk13 root n i leaf ps)) ∧ Below w.heap.size w w' :=
  pcheck_of _ rfl dg_zero root (Da.fold13 n i leaf ps) hr (Da.fold13_length n i leaf ps) n i _ _ A (Da.chkF n i ps.length) w hA fun W hW => pfold_all leaf ol cl ps op cp n i hl5 hp5 A W (hR.later hW) (hP.later hW) (hV.later hW) (hA.later hW)
end Go.Proofs.YtjcmihiajpgnjaaDoor
