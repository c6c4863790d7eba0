/- The document's Fold and Check. -/
import Derived.Test.YtjcmihiajpgnjaaDoorPb13
namespace Go.Proofs.YtjcmihiajpgnjaaDoor
open Go.RowKit
set_option linter.unusedVariables false
set_option linter.unusedSimpArgs false
theorem Da.last_snoc (ps : List (List UInt8)) (m : Nat) (h : ps.length = m + 1) : ps = ps.take m ++ [bi ps m] := by
  have h1 : ps.take (m + 1) = ps := List.take_of_length_le (by omega)
  conv => lhs; rw [← h1, List.take_add_one]
  congr 1
  rw [List.getElem?_eq_getElem (by omega)]
  simp [bi, List.getD_eq_getElem?_getD, List.getElem?_eq_getElem (show m < ps.length by omega)]
set_option maxRecDepth 100000 in
set_option maxHeartbeats 4000000 in
theorem rfold_of (Z : Array Value) (hZ : Z = (bytesV (List.replicate 32 0)).toArray) (hzs : ∀ w, Sem.run Tryd.prog (zeroValue 37) w = .ok (.agg Z) w) :
    ∀ (n i : Nat) (d : List UInt8) (ps : List (List UInt8)) (o : Option Addr) (c : Nat) (w : World), i < n → n ≤ 512 → d.length = 32 → ps.length = (Da.ups n i).length → DgIs w o ps c → Rds w →
    Calls Tryd.prog 22 #[.int .i64 (n : Int), .int .i64 (i : Int), .agg (bytesV d).toArray, .slice o ps.length c] w fun e w' => e = .returned (.agg (bytesV (Da.fs d (Da.ups n i) ps ps.length)).toArray) ∧ Below w.heap.size w w' := by
  intro n
  induction n using Nat.strongRecOn with
  | ind n ih =>
    intro i d ps o c w hi h5 hdl hups hR hV
    obtain ⟨g, hg⟩ : ∃ g, w.heap.size = g := ⟨_, rfl⟩
    obtain ⟨DA, hDA⟩ : ∃ DA, (bytesV d).toArray = DA := ⟨_, rfl⟩
    obtain ⟨W1, hW1⟩ : ∃ W1, w.alloc (.cells DA 37) = W1 := ⟨_, rfl⟩
    have hs1 : W1.heap.size = g + 1 := by rw [← hW1, World.size_alloc, hg]
    obtain ⟨W2, hW2⟩ : ∃ W2, W1.alloc (.cells Z 37) = W2 := ⟨_, rfl⟩
    have hb1 : Below w.heap.size w W1 := by rw [← hW1]; exact new12 _ _
    have hb2 : Below W1.heap.size W1 W2 := by rw [← hW2]; exact new12 _ _
    have hB2 := Kit.step hb1 hb2
    have hg2 : W2.heap[g]? = some (.cells DA 37 (0, 0)) := by rw [hb2.block g (by omega), ← hW1, ← hg]; exact World.alloc_heap_new w _
    have hz2 : W2.heap[g + 1]? = some (.cells Z 37 (0, 0)) := by rw [← hW2, ← hs1]; exact World.alloc_heap_new W1 _
    have hfl := Da.fs_length hdl (Da.ups n i) ps ps.length
    obtain ⟨F, hF⟩ : ∃ F, (bytesV (Da.fs d (Da.ups n i) ps ps.length)).toArray = F := ⟨_, rfl⟩
    have HFS : Hid ((Tryd.prog.info? 37).map (·.size) = some F.size) := Lib.hid (by rw [d32_info, ← hF]; simp [hfl])
    have HFO : Hid (F.all (·.oneCell') = true) := Lib.hid (by rw [← hF]; exact all_oneCell_toArray (bytesV_one _))
    have HFZ : Hid (Z.size = F.size) := Lib.hid (by rw [hZ, ← hF]; simp [hfl])
    have HDS : Hid ((Tryd.prog.info? 37).map (·.size) = some DA.size) := Lib.hid (by rw [d32_info, ← hDA]; simp [hdl])
    have HW1 := Lib.hid hW1
    have HW2 := Lib.hid hW2
    have HG := Lib.hid hg
    have HS1 := Lib.hid hs1
    have HB2 := Lib.hid hB2
    have HG2 := Lib.hid hg2
    have HZ2 := Lib.hid hz2
    have HFF := Lib.hid hF
    rw [hF, hDA]
    clear hW1 hW2 hg hs1 hb1 hb2 hB2 hg2 hz2 hfl
    by_cases h : n < 2
    · obtain rfl : n = 1 := by omega
      rw [Da.ups_one i h] at hups hF
      rw [hups, List.length_nil, Da.fs, hDA] at hF
      subst hF
      clear ih hR hV hZ
      obtain ⟨L, hL⟩ : ∃ L, ps.length = L := ⟨_, rfl⟩
      rw [hL]
      clear hups hL
      go_enter Tryd.func22, Tryd.ntmps22
      go_upto_region 1 with fail
      rw [HW1.out, HW2.out, HG.out]
      go_upto_region 2 with fail
      apply wp_region_lit
      refine wpList_load_row rfl 37 (.tmp 6) rfl g rfl 37 DA (0, 0) _ HG2.out d32_under rfl HFS.out ?_
      have HGW : Hid ((W2.setRow (g + 1) DA).heap[g + 1]? = some (.cells DA 37 (0, 0))) := Lib.hid (setRow_heap _ _ _ _ _ _ HZ2.out)
      have HBW : Hid (Below w.heap.size w (W2.setRow (g + 1) DA)) := Lib.hid (HB2.out.trans (below_row (by have := HG.out; omega)))
      refine wpList_store_row rfl 37 (.tmp 8) (.tmp 13) rfl (g + 1) DA rfl rfl 37 Z HZ2.out HFS.out HFZ.out HFO.out ?_
      go_wp2_with fail
      refine bodyPost_ret (results_cell_row rfl _ _ (g + 1) 37 DA (0, 0) _ rfl HGW.out d32_under rfl HFS.out) rfl ?_
      exact ⟨rfl, HBW.out⟩
    have hd6 : decide ((n : Int) = 1) = false := decide_eq_false (by omega)
    have hd6' : decide (n = 1) = false := decide_eq_false (by omega)
    have SP := rsplit_any n (by omega) (by omega) W2
    obtain ⟨s1, s2, _⟩ := Da.spl_lt (n := n) (by omega)
    have ul := Da.ups_left (n := n) (i := i) (by omega)
    have ur := Da.ups_right (n := n) (i := i) (by omega)
    obtain ⟨k, hk⟩ : ∃ k, Da.spl n = k := ⟨_, rfl⟩
    rw [hk] at SP s1 s2 ul ur
    have hpos : 0 < (Da.ups n i).length := by
      by_cases hik : i < k
      · rw [ul hik]; simp
      · rw [ur (by omega)]; simp
    have h9 := Da.ups_nine h5 i
    obtain ⟨u, hu1⟩ : ∃ u, ps.length = u + 1 := ⟨ps.length - 1, by omega⟩
    have hpl : ps.length = u + 1 := hu1
    obtain ⟨M, hM⟩ : ∃ M, u + 1 = M := ⟨_, rfl⟩
    rw [hu1, hM] at hF ⊢
    clear hu1
    have hul : (Da.ups n i).length = u + 1 := by omega
    have hcl := hR.le
    have hca := hR.cap
    rw [hpl] at hcl
    unfold maxLen at hca
    have hR2 := hR.later HB2.out
    have hV2 := hV.later HB2.out
    obtain ⟨b1, off1, rfl, hb1, hrng⟩ := hR2.at_ u (by omega)
    have hll : (bi ps u).length = 32 := hR.all.at_ (by omega)
    obtain ⟨LA, hLA⟩ : ∃ LA, (bytesV (bi ps u)).toArray = LA := ⟨_, rfl⟩
    have HLS : Hid ((Tryd.prog.info? 37).map (·.size) = some LA.size) := Lib.hid (by rw [d32_info, ← hLA]; simp [hll])
    have HLM : Hid ((Tryd.prog.info? 37).map (·.size) = some (bytesV (bi ps u)).length) := Lib.hid (by rw [d32_info]; simp [hll])
    have HLO : Hid (LA.all (·.oneCell') = true) := Lib.hid (by rw [← hLA]; exact all_oneCell_toArray (bytesV_one _))
    have HLZ : Hid (Z.size = LA.size) := Lib.hid (by rw [hZ, ← hLA]; simp [hll])
    have hw1 : (M : Int) - 1 = (u : Int) := by omega
    have hwu : IntKind.i64.wrap (u : Int) = (u : Int) := by rw [IntKind.wrap_i64]; omega
    have h0u : (0 : Int) ≤ (u : Int) := by omega
    have huM : u < M := by omega
    have huM2 : u ≤ M := by omega
    have huM3 : (u : Int) < (M : Int) := by omega
    obtain ⟨p, hp⟩ : ∃ p, W2.heap.size = p := ⟨_, rfl⟩
    obtain ⟨W3, hW3⟩ : ∃ W3, W2.alloc (.cells Z 37) = W3 := ⟨_, rfl⟩
    obtain ⟨W4, hW4⟩ : ∃ W4, W3.setRow p LA = W4 := ⟨_, rfl⟩
    have hA3 : W3.heap[p]? = some (.cells Z 37 (0, 0)) := by rw [← hW3, ← hp]; exact World.alloc_heap_new W2 _
    have hA4 : W4.heap[p]? = some (.cells LA 37 (0, 0)) := by rw [← hW4]; exact setRow_heap _ _ _ _ _ _ hA3
    have hb4 : Below W2.heap.size W2 W4 := by rw [← hW4, ← hW3]; exact (new12 _ _).trans (below_row (Nat.le_of_eq hp))
    have hg4 : W4.heap[g]? = some (.cells DA 37 (0, 0)) := by rw [hb4.block g (Array.getElem?_eq_some_iff.1 HG2.out).1]; exact HG2.out
    have hg8 : W4.heap[g + 1]? = some (.cells Z 37 (0, 0)) := by rw [hb4.block (g + 1) (Array.getElem?_eq_some_iff.1 HZ2.out).1]; exact HZ2.out
    have HPP : Hid (g + 1 < p) := Lib.hid (by rw [← hp]; exact (Array.getElem?_eq_some_iff.1 HZ2.out).1)
    have hR4 := hR2.later hb4
    have hV4 := hV2.later hb4
    have hsub := hR4.part 0 u (by omega) c (by omega) (by unfold maxLen; omega)
    rw [Nat.zero_mul, Nat.add_zero, List.drop_zero] at hsub
    have hdr : Below W4.heap.size W4 W4.drew := Kit.dn' W4 1
    obtain ⟨C, hC⟩ : ∃ C : World → Prop, (fun v : World => v.heap[g]? = some (.cells DA 37 (0, 0)) ∧ v.heap[p]? = some (.cells LA 37 (0, 0))) = C := ⟨_, rfl⟩
    have HC2 : Hid (∀ v, C v → v.heap[g]? = some (.cells DA 37 (0, 0)) ∧ v.heap[p]? = some (.cells LA 37 (0, 0))) := Lib.hid fun v hv => by rw [← hC] at hv; exact hv
    have HC1 : Hid (∀ v : World, v.heap[g]? = some (.cells DA 37 (0, 0)) → v.heap[p]? = some (.cells LA 37 (0, 0)) → C v) := Lib.hid fun v h1 h2 => by rw [← hC]; exact ⟨h1, h2⟩
    have HCB : Hid (∀ v, Below W4.heap.size W4 v → C v) := Lib.hid fun v hv => HC1.out v (by rw [hv.block g (Array.getElem?_eq_some_iff.1 hg4).1]; exact hg4) (by rw [hv.block p (Array.getElem?_eq_some_iff.1 hA4).1]; exact hA4)
    have hC0 : C W4.drew := HCB.out _ hdr
    have HSP := Lib.hid SP
    have HW3 := Lib.hid hW3
    have HW4 := Lib.hid hW4
    have HP := Lib.hid hp
    have HA3 := Lib.hid hA3
    have HB4 := Lib.hid (Kit.step HB2.out hb4)
    have HLA := Lib.hid hLA
    have HRNG := Lib.hid hrng
    have HUL := Lib.hid hul
    have hu8 : u ≤ 8 := by omega
    have huc : u ≤ c := by omega
    have HFF := Lib.hid hF
    clear SP hk hpos h9 hR hV hR2 hV2 hb1 hrng hLA hp hW3 hW4 hA3 hA4 hb4 hg4 hR4 hC hul hZ hF
    by_cases hik : i < k
    · have hd7 : decide (i < k) = true := decide_eq_true hik
      have hu : (Da.ups k i).length = u := by have := congrArg List.length (ul hik); simp at this; omega
      have IH := ih k s2 i d (ps.take u) _ c W4.drew hik (by omega) hdl (by rw [List.length_take, hpl, hu]; omega) (hsub.later hdr) (hV4.later hdr)
      rw [show (ps.take u).length = u by rw [List.length_take]; omega] at IH
      have hfe : Da.fs d (Da.ups n i) ps (u + 1) = Da.nd (Da.fs d (Da.ups k i) (ps.take u) u) (bi ps u) := by
        rw [ul hik, Da.last_snoc ps u hpl, ← hu, Da.fs_snoc _ _ _ _ _ (by rw [List.length_take, hpl, hu]; omega), if_neg (by simp)]
        rw [hu]
        congr 1
        · rw [← Da.last_snoc ps u hpl]
        · rw [← Da.last_snoc ps u hpl]
      obtain ⟨R, hR⟩ : ∃ R, Da.fs d (Da.ups k i) (ps.take u) u = R := ⟨_, rfl⟩
      have hRl : R.length = 32 := by rw [← hR]; exact Da.fs_length hdl _ _ _
      rw [hR] at IH hfe
      have ND := fun W (hb : Below W4.heap.size W4 W) => rnode_any R (bi ps u) hRl hll W (hV4.later hb)
      have hLA : ∃ LA, (bytesV (bi ps u)).toArray = LA := ⟨_, rfl⟩
      rw [hM] at hfe
      rw [← hfe] at ND
      rw [hDA] at IH
      obtain ⟨RA, hRA⟩ : ∃ RA, (bytesV R).toArray = RA := ⟨_, rfl⟩
      rw [hRA] at IH
      rw [hRA, HLA.out, HFF.out] at ND
      have HIH := Lib.hid IH
      have HND := Lib.hid ND
      have HIK := Lib.hid hik
      have HDR := Lib.hid hdr
      have HG8 := Lib.hid hg8
      have HUU := Lib.hid hu
      clear IH ND hfe hR hRl hRA hLA hu hik hdr hsub hV4 hdl hll ul ur ih hDA hpl hups hg8 hM
      go_enter Tryd.func22, Tryd.ntmps22
      go_upto_region 1 with fail
      rw [HW1.out, HW2.out, HG.out]
      go_wp2_with fail
      refine HSP.out.mono ?_
      rintro e0 w2 ⟨rfl, rfl⟩
      rename World => W2
      clear HSP
      go_upto_region 4 with fail
      apply wp_region_lit
      (refine wpList_plain rfl (fun K hK => ?_); go_simp; refine hK _ _ ?_; clear hK K)
      (refine wpList_plain rfl (fun K hK => ?_); go_simp; refine hK _ _ ?_; clear hK K)
      (refine wpList_plain rfl (fun K hK => ?_); go_simp; refine hK _ _ ?_; clear hK K)
      (refine wpList_plain rfl (fun K hK => ?_); go_simp; refine hK _ _ ?_; clear hK K)
      (refine wpList_plain rfl (fun K hK => ?_); go_simp; refine hK _ _ ?_; clear hK K)
      refine wpList_load_mid rfl 37 (.tmp 20) rfl b1 (off1 + u * 32) rfl (bytesV (bi ps u)) _ HRNG.out d32_under rfl HLM.out ?_
      rw [HLA.out]
      (refine wpList_plain rfl (fun K hK => ?_); go_simp; refine hK _ _ ?_; clear hK K)
      rw [HW3.out, HP.out]
      refine wpList_store_row rfl 37 (.tmp 10) (.tmp 21) rfl p LA rfl rfl 37 Z HA3.out HLS.out HLZ.out HLO.out ?_
      rw [HW4.out]
      go_upto_region 6 with fail
      refine Rgt.region C (fun _ => false) (by kernel_rfl) ?_
      refine Rgt.take (i := 0) (x := .int .i64 (k : Int)) rfl rfl (by kernel_rfl) (by kernel_rfl) (by kernel_rfl) (by kernel_rfl) (fun _ _ _ h => h) (Or.inl ⟨by kernel_rfl, fun w hw => by (go_simp <;> with_reducible rfl)⟩) hC0 ?_
      go_simp
      refine Rgt.take (i := 1) (x := .int .i64 (i : Int)) rfl rfl (by kernel_rfl) (by kernel_rfl) (by kernel_rfl) (by kernel_rfl) (fun _ _ _ h => h) (Or.inl ⟨by kernel_rfl, fun w hw => by (go_simp <;> with_reducible rfl)⟩) hC0 ?_
      go_simp
      refine Rgt.take (i := 2) (x := .agg DA) rfl rfl (by kernel_rfl) (by kernel_rfl) (by kernel_rfl) (by kernel_rfl) (fun _ _ _ h => h) (Or.inl ⟨by kernel_rfl, fun w hw => exec_row (t := 37) (fr := (0, 0)) rfl rfl (((HC2.out w hw).1)) d32_under rfl HDS.out⟩) hC0 ?_
      go_simp
      refine Rgt.take (i := 3) (x := .slice (some ⟨b1, off1, none⟩) M c) rfl rfl (by kernel_rfl) (by kernel_rfl) (by kernel_rfl) (by kernel_rfl) (fun _ _ _ h => h) (Or.inl ⟨by kernel_rfl, fun w hw => by (go_simp <;> with_reducible rfl)⟩) hC0 ?_
      go_simp
      refine Rgt.take (i := 4) (x := .slice (some ⟨b1, off1, none⟩) M c) rfl rfl (by kernel_rfl) (by kernel_rfl) (by kernel_rfl) (by kernel_rfl) (fun _ _ _ h => h) (Or.inl ⟨by kernel_rfl, fun w hw => by (go_simp <;> with_reducible rfl)⟩) hC0 ?_
      go_simp
      refine Rgt.take (i := 5) (x := .int .i64 (M : Int)) rfl rfl (by kernel_rfl) (by kernel_rfl) (by kernel_rfl) (by kernel_rfl) (fun _ _ _ h => h) (Or.inl ⟨by kernel_rfl, fun w hw => by (go_simp <;> with_reducible rfl)⟩) hC0 ?_
      go_simp
      refine Rgt.take (i := 6) (x := .int .i64 (u : Int)) rfl rfl (by kernel_rfl) (by kernel_rfl) (by kernel_rfl) (by kernel_rfl) (fun _ _ _ h => h) (Or.inl ⟨by kernel_rfl, fun w hw => by (go_simp <;> with_reducible rfl)⟩) hC0 ?_
      go_simp
      refine Rgt.take (i := 7) (x := .slice (some ⟨b1, off1, none⟩) u c) rfl rfl (by kernel_rfl) (by kernel_rfl) (by kernel_rfl) (by kernel_rfl) (fun _ _ _ h => h) (Or.inl ⟨by kernel_rfl, fun w hw => by (go_simp <;> with_reducible rfl)⟩) hC0 ?_
      go_simp
      refine Rgt.take (i := 9) (x := .agg LA) rfl rfl (by kernel_rfl) (by kernel_rfl) (by kernel_rfl) (by kernel_rfl) (fun _ _ _ h => h) (Or.inl ⟨by kernel_rfl, fun w hw => exec_row (t := 37) (fr := (0, 0)) rfl rfl (((HC2.out w hw).2)) d32_under rfl HLS.out⟩) hC0 ?_
      go_simp
      refine Rgt.ready (i := 8) (by kernel_rfl) rfl (by kernel_rfl) (fun K hK => ?_)
      go_simp
      refine HIH.out.mono ?_
      rintro e1 W5 ⟨rfl, hb5⟩
      have hb45 := Kit.step HDR.out hb5
      have hC5 := HCB.out _ hb45
      have ND := Lib.hid (HND.out W5 hb45)
      have HB45 := Lib.hid hb45
      refine hK _ _ hC5 ?_
      clear hK K HIH hb5 hb45
      refine Rgt.ready (i := 10) (by kernel_rfl) rfl (by kernel_rfl) (fun K hK => ?_)
      go_simp
      refine ND.out.mono ?_
      rintro e2 W6 ⟨rfl, hb6⟩
      have hb46 := Kit.step HB45.out hb6
      have hC6 := HCB.out _ hb46
      refine hK _ _ hC6 ?_
      clear hK K ND hb6
      have hg6 : W6.heap[g + 1]? = some (.cells Z 37 (0, 0)) := by rw [hb46.block (g + 1) (Array.getElem?_eq_some_iff.1 HG8.out).1]; exact HG8.out
      have hC7 : C (W6.setRow (g + 1) F) := HC1.out _ (by rw [setRow_other W6 (g + 1) g F (by omega)]; exact (HC2.out _ hC6).1) (by rw [setRow_other W6 (g + 1) p F (by have := HPP.out; omega)]; exact (HC2.out _ hC6).2)
      have HGW : Hid ((W6.setRow (g + 1) F).heap[g + 1]? = some (.cells F 37 (0, 0))) := Lib.hid (setRow_heap _ _ _ _ _ _ hg6)
      have HBW : Hid (Below w.heap.size w (W6.setRow (g + 1) F)) := Lib.hid ((Kit.step HB4.out hb46).trans (below_row (by have := HG.out; omega)))
      have HG6 := Lib.hid hg6
      clear hg6 hb46 hC6 hC5
      refine Rgt.ready (i := 11) (by kernel_rfl) rfl (by kernel_rfl) (fun K hK => ?_)
      refine wp_store_row 37 (.tmp 8) (.tmp 35) rfl (g + 1) F rfl rfl 37 Z HG6.out HFS.out HFZ.out HFO.out (hK _ _ hC7 ?_)
      clear hK K
      refine Rgt.done (by kernel_rfl) ?_ _
      go_wp2_with fail
      refine bodyPost_ret (results_cell_row rfl _ _ (g + 1) 37 F (0, 0) _ rfl HGW.out d32_under rfl HFS.out) rfl ?_
      exact ⟨rfl, HBW.out⟩
    · have hd7 : decide (i < k) = false := decide_eq_false hik
      obtain ⟨N, hN⟩ : ∃ N, n - k = N := ⟨_, rfl⟩
      obtain ⟨J, hJ⟩ : ∃ J, i - k = J := ⟨_, rfl⟩
      have hn1 : (n : Int) - (k : Int) = (N : Int) := by omega
      have hj1 : (i : Int) - (k : Int) = (J : Int) := by omega
      have hn2 : IntKind.i64.wrap (N : Int) = (N : Int) := by rw [IntKind.wrap_i64]; omega
      have hj2 : IntKind.i64.wrap (J : Int) = (J : Int) := by rw [IntKind.wrap_i64]; omega
      have ur2 := ur (by omega)
      rw [hN, hJ] at ur2
      have hu : (Da.ups N J).length = u := by have := congrArg List.length ur2; simp at this; omega
      have IH := ih N (by omega) J d (ps.take u) _ c W4.drew (by omega) (by omega) hdl (by rw [List.length_take, hpl, hu]; omega) (hsub.later hdr) (hV4.later hdr)
      rw [show (ps.take u).length = u by rw [List.length_take]; omega] at IH
      have hfe : Da.fs d (Da.ups n i) ps (u + 1) = Da.nd (bi ps u) (Da.fs d (Da.ups N J) (ps.take u) u) := by
        rw [ur2, Da.last_snoc ps u hpl, ← hu, Da.fs_snoc _ _ _ _ _ (by rw [List.length_take, hpl, hu]; omega), if_pos rfl]
        rw [hu]
        congr 1
        · rw [← Da.last_snoc ps u hpl]
        · rw [← Da.last_snoc ps u hpl]
      obtain ⟨R, hR⟩ : ∃ R, Da.fs d (Da.ups N J) (ps.take u) u = R := ⟨_, rfl⟩
      have hRl : R.length = 32 := by rw [← hR]; exact Da.fs_length hdl _ _ _
      rw [hR] at IH hfe
      have ND := fun W (hb : Below W4.heap.size W4 W) => rnode_any (bi ps u) R hll hRl W (hV4.later hb)
      clear hN hJ ur2
      have hLA : ∃ LA, (bytesV (bi ps u)).toArray = LA := ⟨_, rfl⟩
      rw [hM] at hfe
      rw [← hfe] at ND
      rw [hDA] at IH
      obtain ⟨RA, hRA⟩ : ∃ RA, (bytesV R).toArray = RA := ⟨_, rfl⟩
      rw [hRA] at IH
      rw [hRA, HLA.out, HFF.out] at ND
      have HIH := Lib.hid IH
      have HND := Lib.hid ND
      have HIK := Lib.hid hik
      have HDR := Lib.hid hdr
      have HG8 := Lib.hid hg8
      have HUU := Lib.hid hu
      clear IH ND hfe hR hRl hRA hLA hu hik hdr hsub hV4 hdl hll ul ur ih hDA hpl hups hg8 hM
      go_enter Tryd.func22, Tryd.ntmps22
      go_upto_region 1 with fail
      rw [HW1.out, HW2.out, HG.out]
      go_wp2_with fail
      refine HSP.out.mono ?_
      rintro e0 w2 ⟨rfl, rfl⟩
      rename World => W2
      clear HSP
      go_upto_region 4 with fail
      apply wp_region_lit
      (refine wpList_plain rfl (fun K hK => ?_); go_simp; refine hK _ _ ?_; clear hK K)
      (refine wpList_plain rfl (fun K hK => ?_); go_simp; refine hK _ _ ?_; clear hK K)
      (refine wpList_plain rfl (fun K hK => ?_); go_simp; refine hK _ _ ?_; clear hK K)
      (refine wpList_plain rfl (fun K hK => ?_); go_simp; refine hK _ _ ?_; clear hK K)
      (refine wpList_plain rfl (fun K hK => ?_); go_simp; refine hK _ _ ?_; clear hK K)
      refine wpList_load_mid rfl 37 (.tmp 20) rfl b1 (off1 + u * 32) rfl (bytesV (bi ps u)) _ HRNG.out d32_under rfl HLM.out ?_
      rw [HLA.out]
      (refine wpList_plain rfl (fun K hK => ?_); go_simp; refine hK _ _ ?_; clear hK K)
      rw [HW3.out, HP.out]
      refine wpList_store_row rfl 37 (.tmp 10) (.tmp 21) rfl p LA rfl rfl 37 Z HA3.out HLS.out HLZ.out HLO.out ?_
      rw [HW4.out]
      go_upto_region 7 with fail
      refine Rgt.region C (fun _ => false) (by kernel_rfl) ?_
      refine Rgt.take (i := 0) (x := .agg LA) rfl rfl (by kernel_rfl) (by kernel_rfl) (by kernel_rfl) (by kernel_rfl) (fun _ _ _ h => h) (Or.inl ⟨by kernel_rfl, fun w hw => exec_row (t := 37) (fr := (0, 0)) rfl rfl (((HC2.out w hw).2)) d32_under rfl HLS.out⟩) hC0 ?_
      go_simp
      refine Rgt.take (i := 1) (x := .int .i64 (n : Int)) rfl rfl (by kernel_rfl) (by kernel_rfl) (by kernel_rfl) (by kernel_rfl) (fun _ _ _ h => h) (Or.inl ⟨by kernel_rfl, fun w hw => by (go_simp <;> with_reducible rfl)⟩) hC0 ?_
      go_simp
      refine Rgt.take (i := 2) (x := .int .i64 (k : Int)) rfl rfl (by kernel_rfl) (by kernel_rfl) (by kernel_rfl) (by kernel_rfl) (fun _ _ _ h => h) (Or.inl ⟨by kernel_rfl, fun w hw => by (go_simp <;> with_reducible rfl)⟩) hC0 ?_
      go_simp
      refine Rgt.take (i := 3) (x := .int .i64 (N : Int)) rfl rfl (by kernel_rfl) (by kernel_rfl) (by kernel_rfl) (by kernel_rfl) (fun _ _ _ h => h) (Or.inl ⟨by kernel_rfl, fun w hw => by (go_simp <;> with_reducible rfl)⟩) hC0 ?_
      go_simp
      refine Rgt.take (i := 4) (x := .int .i64 (i : Int)) rfl rfl (by kernel_rfl) (by kernel_rfl) (by kernel_rfl) (by kernel_rfl) (fun _ _ _ h => h) (Or.inl ⟨by kernel_rfl, fun w hw => by (go_simp <;> with_reducible rfl)⟩) hC0 ?_
      go_simp
      refine Rgt.take (i := 5) (x := .int .i64 (k : Int)) rfl rfl (by kernel_rfl) (by kernel_rfl) (by kernel_rfl) (by kernel_rfl) (fun _ _ _ h => h) (Or.inl ⟨by kernel_rfl, fun w hw => by (go_simp <;> with_reducible rfl)⟩) hC0 ?_
      go_simp
      refine Rgt.take (i := 6) (x := .int .i64 (J : Int)) rfl rfl (by kernel_rfl) (by kernel_rfl) (by kernel_rfl) (by kernel_rfl) (fun _ _ _ h => h) (Or.inl ⟨by kernel_rfl, fun w hw => by (go_simp <;> with_reducible rfl)⟩) hC0 ?_
      go_simp
      refine Rgt.take (i := 7) (x := .agg DA) rfl rfl (by kernel_rfl) (by kernel_rfl) (by kernel_rfl) (by kernel_rfl) (fun _ _ _ h => h) (Or.inl ⟨by kernel_rfl, fun w hw => exec_row (t := 37) (fr := (0, 0)) rfl rfl (((HC2.out w hw).1)) d32_under rfl HDS.out⟩) hC0 ?_
      go_simp
      refine Rgt.take (i := 8) (x := .slice (some ⟨b1, off1, none⟩) M c) rfl rfl (by kernel_rfl) (by kernel_rfl) (by kernel_rfl) (by kernel_rfl) (fun _ _ _ h => h) (Or.inl ⟨by kernel_rfl, fun w hw => by (go_simp <;> with_reducible rfl)⟩) hC0 ?_
      go_simp
      refine Rgt.take (i := 9) (x := .slice (some ⟨b1, off1, none⟩) M c) rfl rfl (by kernel_rfl) (by kernel_rfl) (by kernel_rfl) (by kernel_rfl) (fun _ _ _ h => h) (Or.inl ⟨by kernel_rfl, fun w hw => by (go_simp <;> with_reducible rfl)⟩) hC0 ?_
      go_simp
      refine Rgt.take (i := 10) (x := .int .i64 (M : Int)) rfl rfl (by kernel_rfl) (by kernel_rfl) (by kernel_rfl) (by kernel_rfl) (fun _ _ _ h => h) (Or.inl ⟨by kernel_rfl, fun w hw => by (go_simp <;> with_reducible rfl)⟩) hC0 ?_
      go_simp
      refine Rgt.take (i := 11) (x := .int .i64 (u : Int)) rfl rfl (by kernel_rfl) (by kernel_rfl) (by kernel_rfl) (by kernel_rfl) (fun _ _ _ h => h) (Or.inl ⟨by kernel_rfl, fun w hw => by (go_simp <;> with_reducible rfl)⟩) hC0 ?_
      go_simp
      refine Rgt.take (i := 12) (x := .slice (some ⟨b1, off1, none⟩) u c) rfl rfl (by kernel_rfl) (by kernel_rfl) (by kernel_rfl) (by kernel_rfl) (fun _ _ _ h => h) (Or.inl ⟨by kernel_rfl, fun w hw => by (go_simp <;> with_reducible rfl)⟩) hC0 ?_
      go_simp
      refine Rgt.ready (i := 13) (by kernel_rfl) rfl (by kernel_rfl) (fun K hK => ?_)
      go_simp
      refine HIH.out.mono ?_
      rintro e1 W5 ⟨rfl, hb5⟩
      have hb45 := Kit.step HDR.out hb5
      have hC5 := HCB.out _ hb45
      have ND := Lib.hid (HND.out W5 hb45)
      have HB45 := Lib.hid hb45
      refine hK _ _ hC5 ?_
      clear hK K HIH hb5 hb45
      refine Rgt.ready (i := 14) (by kernel_rfl) rfl (by kernel_rfl) (fun K hK => ?_)
      go_simp
      refine ND.out.mono ?_
      rintro e2 W6 ⟨rfl, hb6⟩
      have hb46 := Kit.step HB45.out hb6
      have hC6 := HCB.out _ hb46
      refine hK _ _ hC6 ?_
      clear hK K ND hb6
      have hg6 : W6.heap[g + 1]? = some (.cells Z 37 (0, 0)) := by rw [hb46.block (g + 1) (Array.getElem?_eq_some_iff.1 HG8.out).1]; exact HG8.out
      have hC7 : C (W6.setRow (g + 1) F) := HC1.out _ (by rw [setRow_other W6 (g + 1) g F (by omega)]; exact (HC2.out _ hC6).1) (by rw [setRow_other W6 (g + 1) p F (by have := HPP.out; omega)]; exact (HC2.out _ hC6).2)
      have HGW : Hid ((W6.setRow (g + 1) F).heap[g + 1]? = some (.cells F 37 (0, 0))) := Lib.hid (setRow_heap _ _ _ _ _ _ hg6)
      have HBW : Hid (Below w.heap.size w (W6.setRow (g + 1) F)) := Lib.hid ((Kit.step HB4.out hb46).trans (below_row (by have := HG.out; omega)))
      have HG6 := Lib.hid hg6
      clear hg6 hb46 hC6 hC5
      refine Rgt.ready (i := 15) (by kernel_rfl) rfl (by kernel_rfl) (fun K hK => ?_)
      refine wp_store_row 37 (.tmp 8) (.tmp 50) rfl (g + 1) F rfl rfl 37 Z HG6.out HFS.out HFZ.out HFO.out (hK _ _ hC7 ?_)
      clear hK K
      refine Rgt.done (by kernel_rfl) ?_ _
      go_wp2_with fail
      refine bodyPost_ret (results_cell_row rfl _ _ (g + 1) 37 F (0, 0) _ rfl HGW.out d32_under rfl HFS.out) rfl ?_
      exact ⟨rfl, HBW.out⟩
theorem rfold_any13 (n i : Nat) (d : List UInt8) (ps : List (List UInt8)) (o : Option Addr) (c : Nat) (w : World) (hi : i < n) (h5 : n ≤ 512) (hd : d.length = 32) (hu : ps.length = (Da.ups n i).length) (hR : DgIs w o ps c) (hV : Rds w) :
    Calls Tryd.prog 22 #[.int .i64 (n : Int), .int .i64 (i : Int), .agg (bytesV d).toArray, .slice o ps.length c] w fun e w' => e = .returned (.agg (bytesV (Da.fs d (Da.ups n i) ps ps.length)).toArray) ∧ Below w.heap.size w w' := rfold_of _ rfl d32_zero n i d ps o c w hi h5 hd hu hR hV
set_option maxRecDepth 100000 in
set_option maxHeartbeats 2000000 in
theorem rcheck_any13 (root : List UInt8) (hr : root.length = 32) (leaf : List UInt8) (ol : Option Addr) (cl : Nat) (ps : List (List UInt8)) (op : Option Addr) (cp : Nat) (n i : Int) (hl5 : leaf.length ≤ 8900) (hp5 : ps.length ≤ 1000) (w : World)
    (hR : RowIs w ol (bytesV leaf) cl) (hP : DgIs w op ps cp) (hV : Rds w) :
    Calls Tryd.prog 20 #[.agg (bytesV root).toArray, .int .i64 n, .int .i64 i, .slice ol leaf.length cl, .slice op ps.length cp] w fun e w' => e = .returned (.int .i64 ((Da.chk13 root n i leaf ps : Nat) : Int)) ∧ Below w.heap.size w w' := by
  obtain ⟨r, hrr⟩ : ∃ r, Da.chk13 root n i leaf ps = r := ⟨_, rfl⟩
  have HRR := Lib.hid hrr
  obtain ⟨R, hRA⟩ : ∃ R, (bytesV root).toArray = R := ⟨_, rfl⟩
  obtain ⟨L, hL⟩ : ∃ L, leaf.length = L := ⟨_, rfl⟩
  obtain ⟨M, hM⟩ : ∃ M, ps.length = M := ⟨_, rfl⟩
  obtain ⟨g, hg⟩ : ∃ g, w.heap.size = g := ⟨_, rfl⟩
  obtain ⟨W1, hW1⟩ : ∃ W1, w.alloc (.cells R 37) = W1 := ⟨_, rfl⟩
  have hb1 : Below w.heap.size w W1 := by rw [← hW1]; exact new12 _ _
  have hg1 : W1.heap[g]? = some (.cells R 37 (0, 0)) := by rw [← hW1, ← hg]; exact World.alloc_heap_new w _
  have HRS : Hid ((Tryd.prog.info? 37).map (·.size) = some R.size) := Lib.hid (by rw [d32_info, ← hRA]; simp [hr])
  have HW1 := Lib.hid hW1
  have HB1 := Lib.hid hb1
  have HG1 := Lib.hid hg1
  have HG := Lib.hid hg
  have HRA := Lib.hid hRA
  have HL := Lib.hid hL
  have HM := Lib.hid hM
  have HHR := Lib.hid hr
  have HR1 := Lib.hid (hR.later hb1)
  have HP1 := Lib.hid (hP.later hb1)
  have HV1 := Lib.hid (hV.later hb1)
  have hM2 : M ≤ 1000 := by omega
  have hL2 : L ≤ 8900 := by omega
  rw [hrr, hRA, hL, hM]
  clear hrr hRA hW1 hb1 hg1 hg hL hM hR hP hV hl5 hp5 hr
  by_cases hin : 0 ≤ i ∧ i < n ∧ n ≤ 512
  · have PL := rlen_any13 n.toNat i.toNat W1 (by omega) (by omega)
    rw [show ((n.toNat : Nat) : Int) = n by omega, show ((i.toNat : Nat) : Int) = i by omega] at PL
    have h9 := Da.ups_nine (n := n.toNat) (by omega) i.toNat
    obtain ⟨u, hu⟩ : ∃ u, (Da.ups n.toNat i.toNat).length = u := ⟨_, rfl⟩
    rw [hu] at PL h9
    have HPL := Lib.hid PL
    have hd1 : decide ((u : Int) < 0) = false := decide_eq_false (by omega)
    by_cases hne : M = u
    · have hk : Da.chkF n i ps.length = 0 := by unfold Da.chkF; rw [if_pos hin, if_pos (by rw [HM.out, hu, hne])]
      have hd2 : ((u : Int) != (M : Int)) = false := by simp; omega
      have hfo : Da.fold13 n i leaf ps = Da.fs (Da.lf leaf) (Da.ups n.toNat i.toNat) ps ps.length := by unfold Da.fold13; rw [if_pos hk]
      have FO := fun W (hb : Below W1.heap.size W1 W) => rfold_any13 n.toNat i.toNat (Da.lf leaf) ps op cp W (by omega) (by omega) (Da.lf_length leaf) (by rw [HM.out, hu, hne]) (HP1.out.later hb) (HV1.out.later hb)
      rw [← hfo] at FO
      have hch : Da.chk13 root n i leaf ps = if Da.fold13 n i leaf ps = root then 0 else 15 := by unfold Da.chk13; rw [if_pos hk]
      have hfl := Da.fold13_length n i leaf ps
      obtain ⟨f, hf⟩ : ∃ f, Da.fold13 n i leaf ps = f := ⟨_, rfl⟩
      rw [hf] at FO hch hfl
      rw [show ((n.toNat : Nat) : Int) = n by omega, show ((i.toNat : Nat) : Int) = i by omega, HM.out] at FO
      have LE := rleaf_any leaf ol cl W1.drew (HR1.out.later (Kit.dn' W1 1)) (HV1.out.later (Kit.dn' W1 1)) (by rw [HL.out]; omega)
      rw [HL.out] at LE
      obtain ⟨LA, hLA⟩ : ∃ LA, (bytesV (Da.lf leaf)).toArray = LA := ⟨_, rfl⟩
      obtain ⟨FA, hFA⟩ : ∃ FA, (bytesV f).toArray = FA := ⟨_, rfl⟩
      have hneq := fun W => d32_neq f root hfl HHR.out W
      rw [hFA, HRA.out] at hneq
      rw [hLA] at LE FO
      rw [hFA] at FO
      have HLF := Lib.hid LE
      have HFO := Lib.hid FO
      have HCH := Lib.hid hch
      have HNE := Lib.hid hne
      clear hne
      have HHIN := Lib.hid hin
      have hgd := d32_guard
      obtain ⟨C, hC⟩ : ∃ C : World → Prop, (fun v : World => v.heap[g]? = some (.cells R 37 (0, 0)) ∧ Below W1.heap.size W1 v) = C := ⟨_, rfl⟩
      have HC2 : Hid (∀ v, C v → v.heap[g]? = some (.cells R 37 (0, 0)) ∧ Below W1.heap.size W1 v) := Lib.hid fun v hv => by rw [← hC] at hv; exact hv
      have HC1 : Hid (∀ v, Below W1.heap.size W1 v → C v) := Lib.hid fun v hv => by rw [← hC]; exact ⟨by rw [hv.block g (Array.getElem?_eq_some_iff.1 HG1.out).1]; exact HG1.out, hv⟩
      have hdr : Below W1.heap.size W1 W1.drew := Kit.dn' W1 1
      have hC0 : C W1.drew := HC1.out _ hdr
      have HDR := Lib.hid hdr
      by_cases hq : f = root
      · have hb : (f == root) = true := by rw [hq]; exact beq_self_eq_true _
        have hne : ∀ W, (binOp .neq 37 (.agg FA) (.agg R)).run Tryd.prog W = .ok (.bool false) W := fun W => by rw [hneq W, hb]; rfl
        have HQ := Lib.hid hq
        clear hC hdr hq hb hneq LE FO hch hfl hf hLA hFA hfo hk PL hu hin
        go_enter Tryd.func20, Tryd.ntmps20
        go_upto_region 1 with fail
        rw [HW1.out, HG.out]
        go_wp2_with fail
        refine HPL.out.mono ?_
        rintro e w1 ⟨rfl, rfl⟩
        rename World => W1
        go_upto_region 6 with fail
        refine Rgt.region C (fun _ => false) (by kernel_rfl) ?_
        refine Rgt.take (i := 0) (x := .int .i64 n) rfl rfl (by kernel_rfl) (by kernel_rfl) (by kernel_rfl) (by kernel_rfl) (fun _ _ _ h => h) (Or.inl ⟨by kernel_rfl, fun w hw => by (go_simp <;> with_reducible rfl)⟩) hC0 ?_
        go_simp
        refine Rgt.take (i := 1) (x := .int .i64 i) rfl rfl (by kernel_rfl) (by kernel_rfl) (by kernel_rfl) (by kernel_rfl) (fun _ _ _ h => h) (Or.inl ⟨by kernel_rfl, fun w hw => by (go_simp <;> with_reducible rfl)⟩) hC0 ?_
        go_simp
        refine Rgt.take (i := 2) (x := .slice ol L cl) rfl rfl (by kernel_rfl) (by kernel_rfl) (by kernel_rfl) (by kernel_rfl) (fun _ _ _ h => h) (Or.inl ⟨by kernel_rfl, fun w hw => by (go_simp <;> with_reducible rfl)⟩) hC0 ?_
        go_simp
        refine Rgt.take (i := 4) (x := .slice op M cp) rfl rfl (by kernel_rfl) (by kernel_rfl) (by kernel_rfl) (by kernel_rfl) (fun _ _ _ h => h) (Or.inl ⟨by kernel_rfl, fun w hw => by (go_simp <;> with_reducible rfl)⟩) hC0 ?_
        go_simp
        refine Rgt.take (i := 6) (x := .agg R) rfl rfl (by kernel_rfl) (by kernel_rfl) (by kernel_rfl) (by kernel_rfl) (fun _ _ _ h => h) (Or.inl ⟨by kernel_rfl, fun w hw => exec_row (t := 37) (fr := (0, 0)) rfl rfl (HC2.out w hw).1 d32_under rfl HRS.out⟩) hC0 ?_
        go_simp
        refine Rgt.ready (i := 3) (by kernel_rfl) rfl (by kernel_rfl) (fun K hK => ?_)
        go_simp
        refine (HLF.out).mono ?_
        rintro e Y1 ⟨rfl, hb⟩
        have hb1 := Kit.step HDR.out hb
        have hC1 := HC1.out _ hb1
        have FO := Lib.hid (HFO.out Y1 hb1)
        clear hb hb1
        refine hK _ _ hC1 ?_
        clear hK K hC0 HLF
        rename C _ => hC0
        refine Rgt.ready (i := 5) (by kernel_rfl) rfl (by kernel_rfl) (fun K hK => ?_)
        go_simp
        refine (FO.out).mono ?_
        rintro e Y2 ⟨rfl, hb⟩
        have hC1 := HC1.out _ (Kit.step (HC2.out _ hC0).2 hb)
        clear hb
        refine hK _ _ hC1 ?_
        clear hK K hC0 FO
        rename C _ => hC0
        refine Rgt.take (i := 7) (x := .bool false) rfl rfl (by kernel_rfl) (by kernel_rfl) (by kernel_rfl) (by kernel_rfl) (fun _ _ _ h => h) (Or.inl ⟨by kernel_rfl, fun w hw => by have hc := hne w; (go_simp <;> with_reducible rfl)⟩) hC0 ?_
        go_simp
        refine Rgt.done (by kernel_rfl) ?_ _
        have HB6 := Lib.hid (Kit.step HB1.out (HC2.out _ hC0).2)
        clear hC0
        go_wp2_with fail
        go_ret
        exact ⟨by rw [← HRR.out, HCH.out, if_pos HQ.out]; rfl, HB6.out⟩
      · have hb : (f == root) = false := by simpa using hq
        have hne : ∀ W, (binOp .neq 37 (.agg FA) (.agg R)).run Tryd.prog W = .ok (.bool true) W := fun W => by rw [hneq W, hb]; rfl
        have HQ := Lib.hid hq
        clear hC hdr hq hb hneq LE FO hch hfl hf hLA hFA hfo hk PL hu hin
        go_enter Tryd.func20, Tryd.ntmps20
        go_upto_region 1 with fail
        rw [HW1.out, HG.out]
        go_wp2_with fail
        refine HPL.out.mono ?_
        rintro e w1 ⟨rfl, rfl⟩
        rename World => W1
        go_upto_region 6 with fail
        refine Rgt.region C (fun _ => false) (by kernel_rfl) ?_
        refine Rgt.take (i := 0) (x := .int .i64 n) rfl rfl (by kernel_rfl) (by kernel_rfl) (by kernel_rfl) (by kernel_rfl) (fun _ _ _ h => h) (Or.inl ⟨by kernel_rfl, fun w hw => by (go_simp <;> with_reducible rfl)⟩) hC0 ?_
        go_simp
        refine Rgt.take (i := 1) (x := .int .i64 i) rfl rfl (by kernel_rfl) (by kernel_rfl) (by kernel_rfl) (by kernel_rfl) (fun _ _ _ h => h) (Or.inl ⟨by kernel_rfl, fun w hw => by (go_simp <;> with_reducible rfl)⟩) hC0 ?_
        go_simp
        refine Rgt.take (i := 2) (x := .slice ol L cl) rfl rfl (by kernel_rfl) (by kernel_rfl) (by kernel_rfl) (by kernel_rfl) (fun _ _ _ h => h) (Or.inl ⟨by kernel_rfl, fun w hw => by (go_simp <;> with_reducible rfl)⟩) hC0 ?_
        go_simp
        refine Rgt.take (i := 4) (x := .slice op M cp) rfl rfl (by kernel_rfl) (by kernel_rfl) (by kernel_rfl) (by kernel_rfl) (fun _ _ _ h => h) (Or.inl ⟨by kernel_rfl, fun w hw => by (go_simp <;> with_reducible rfl)⟩) hC0 ?_
        go_simp
        refine Rgt.take (i := 6) (x := .agg R) rfl rfl (by kernel_rfl) (by kernel_rfl) (by kernel_rfl) (by kernel_rfl) (fun _ _ _ h => h) (Or.inl ⟨by kernel_rfl, fun w hw => exec_row (t := 37) (fr := (0, 0)) rfl rfl (HC2.out w hw).1 d32_under rfl HRS.out⟩) hC0 ?_
        go_simp
        refine Rgt.ready (i := 3) (by kernel_rfl) rfl (by kernel_rfl) (fun K hK => ?_)
        go_simp
        refine (HLF.out).mono ?_
        rintro e Y1 ⟨rfl, hb⟩
        have hb1 := Kit.step HDR.out hb
        have hC1 := HC1.out _ hb1
        have FO := Lib.hid (HFO.out Y1 hb1)
        clear hb hb1
        refine hK _ _ hC1 ?_
        clear hK K hC0 HLF
        rename C _ => hC0
        refine Rgt.ready (i := 5) (by kernel_rfl) rfl (by kernel_rfl) (fun K hK => ?_)
        go_simp
        refine (FO.out).mono ?_
        rintro e Y2 ⟨rfl, hb⟩
        have hC1 := HC1.out _ (Kit.step (HC2.out _ hC0).2 hb)
        clear hb
        refine hK _ _ hC1 ?_
        clear hK K hC0 FO
        rename C _ => hC0
        refine Rgt.take (i := 7) (x := .bool true) rfl rfl (by kernel_rfl) (by kernel_rfl) (by kernel_rfl) (by kernel_rfl) (fun _ _ _ h => h) (Or.inl ⟨by kernel_rfl, fun w hw => by have hc := hne w; (go_simp <;> with_reducible rfl)⟩) hC0 ?_
        go_simp
        refine Rgt.done (by kernel_rfl) ?_ _
        have HB6 := Lib.hid (Kit.step HB1.out (HC2.out _ hC0).2)
        clear hC0
        go_wp2_with fail
        go_ret
        exact ⟨by rw [← HRR.out, HCH.out, if_neg HQ.out]; rfl, HB6.out⟩
    · have hk : Da.chkF n i ps.length = 8 := by unfold Da.chkF; rw [if_pos hin, if_neg (by rw [HM.out, hu]; exact hne)]
      have hr8 : r = 8 := by rw [← HRR.out]; unfold Da.chk13; rw [hk]; rfl
      subst hr8
      have hd2 : ((u : Int) != (M : Int)) = true := by simp; omega
      have HNE := Lib.hid hne
      have HHIN := Lib.hid hin
      clear hne hk PL hu hin
      go_enter Tryd.func20, Tryd.ntmps20
      go_upto_region 1 with fail
      rw [HW1.out, HG.out]
      go_wp2_with fail
      refine HPL.out.mono ?_
      rintro e w1 ⟨rfl, rfl⟩
      go_wp2_with fail
      go_ret
      exact ⟨rfl, HB1.out⟩
  · have PL := rlen_bad13 n i hin W1
    have hk : Da.chkF n i ps.length = 1 := by unfold Da.chkF; rw [if_neg hin]
    have hr1 : r = 1 := by rw [← HRR.out]; unfold Da.chk13; rw [hk]; rfl
    subst hr1
    have HPL := Lib.hid PL
    have HHIN := Lib.hid hin
    clear hk PL hin
    go_enter Tryd.func20, Tryd.ntmps20
    go_upto_region 1 with fail
    rw [HW1.out, HG.out]
    go_wp2_with fail
    refine HPL.out.mono ?_
    rintro e w1 ⟨rfl, rfl⟩
    go_wp2_with fail
    go_ret
    exact ⟨rfl, HB1.out⟩
end Go.Proofs.YtjcmihiajpgnjaaDoor
