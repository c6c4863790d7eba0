/- GrowthProves, walked. -/
import Derived.Test.YtfccpfmgkpcnoaaDoorSx14
namespace Go.Proofs.YtfccpfmgkpcnoaaDoor
open Go.RowKit
set_option linter.unusedVariables false
set_option linter.unusedSimpArgs false
set_option maxRecDepth 100000 in
set_option maxHeartbeats 4000000 in
theorem wp14_of (Z : Array Value) (hZ : Z = (bytesV (List.replicate 32 0)).toArray) (hzs : ∀ w, Sem.run Tryd.prog (zeroValue 40) w = .ok (.agg Z) w)
    (A : Nat → Addr) (hC : GrC A) (bs : List (List UInt8)) (o : Option Addr) (n c : Nat) (hn : bs.length = n) (m : Int) (w : World) (hR : RbIs w o bs c) (hV : Cds w) (hD : Rds w) (hE : Er.Errs w A) :
    Calls Tryd.prog 5 #[.slice o n c, .int .i64 m] w fun e w' => e = .returned (.bool true) ∧ Below w.heap.size w w' := by
  have AL := hC.alive w hV hD
  have hcl := hR.le.1
  have hca := hR.le.2
  rw [hn] at hcl
  unfold maxLen at hca
  have HAL := Lib.hid AL
  have HR := Lib.hid hR
  have HV := Lib.hid hV
  have HD := Lib.hid hD
  have HE := Lib.hid hE
  have HN := Lib.hid hn
  have HZ := Lib.hid hZ
  have HC := Lib.hid hC
  have hen := eql_nil13
  clear AL hR hV hD hE hn hZ hC
  go_enter Tryd.func5, Tryd.ntmps5
  go_wp2_with fail
  refine HAL.out.mono ?_
  rintro e W1 ⟨rfl, hb1⟩
  have LG := long_any bs o n c HN.out 40 (by omega) W1 (HR.out.later hb1)
  have HB1 := Lib.hid hb1
  clear HAL hb1
  by_cases hlg : Da.lng bs 40 = true
  · rw [hlg] at LG
    have HLG := Lib.hid LG
    clear LG hlg
    go_wp2_with fail
    refine HLG.out.mono ?_
    rintro e W2 ⟨rfl, rfl⟩
    go_wp2_with fail
    go_ret
    exact ⟨rfl, HB1.out⟩
  have hlg2 : Da.lng bs 40 = false := by simpa using hlg
  obtain ⟨hl40, hl200⟩ := Da.lng_not hlg2
  rw [hlg2] at LG
  rw [HN.out] at hl40
  have HLG := Lib.hid LG
  have HL2 := Lib.hid hl200
  have LV := rleaves_any bs o n c HN.out W1 (HR.out.later HB1.out) (HD.out.later HB1.out) (by omega) (Da.len_of hl200 90000 (by omega))
  have HLV := Lib.hid LV
  clear LG hlg hlg2 hl200 LV
  go_wp2_with fail
  refine HLG.out.mono ?_
  rintro e W2 ⟨rfl, rfl⟩
  rename World => W1
  clear HLG
  go_wp2_with fail
  refine HLV.out.mono ?_
  rintro e W2 ⟨o2, c2, rfl, hdg2, hb2⟩
  obtain ⟨ds, hds⟩ : ∃ ds, bs.map Da.lf = ds := ⟨_, rfl⟩
  have hdn : ds.length = n := by rw [← hds, List.length_map]; exact HN.out
  rw [hds] at hdg2
  have HDN := Lib.hid hdn
  have HDG2 := Lib.hid hdg2
  have HB2 := Lib.hid (Kit.step HB1.out hb2)
  have DG := digs_any ds o2 n c2 hdn (by omega) W2 hdg2
  have HDGS := Lib.hid DG
  clear hdg2 hb2 HLV DG hdn hds
  go_wp2_with fail
  refine HDGS.out.mono ?_
  rintro e W3 ⟨o3, c3, rfl, hdg3, hb3⟩
  have HB23 := Lib.hid hb3
  have HB3 := Lib.hid (Kit.step HB2.out hb3)
  have HDG3 := Lib.hid hdg3
  clear hdg3 hb3 HDGS
  by_cases hbad : ¬ (1 ≤ m ∧ m ≤ (n : Int))
  · have PB := HC.out.bad W3 ds o3 n c3 m HDN.out (fun h => hbad ⟨h.1, h.2.1⟩) HDG3.out (HV.out.later HB3.out) (HE.out.later HB3.out).t13
    obtain ⟨EV, hEV⟩ : ∃ EV, errP A 1 = EV := ⟨_, rfl⟩
    rw [hEV] at PB
    have HPB := Lib.hid PB
    have HEV := Lib.hid hEV
    clear PB hEV
    by_cases h1 : m < 1
    · have hd1 : decide (m < 1) = true := decide_eq_true h1
      have HBAD := Lib.hid (And.intro hbad h1)
      clear hbad h1
      go_wp2_with fail
      refine HPB.out.mono ?_
      rintro e W4 ⟨o4, c4, rfl, hb4⟩
      have NU := num_errP14 A 1 (by omega) W4 (HE.out.later (Kit.step HB3.out hb4))
      rw [HEV.out] at NU
      have HNU := Lib.hid NU
      have HB4 := Lib.hid (Kit.step HB3.out hb4)
      clear NU hb4 HPB
      go_wp2_with fail
      refine HNU.out.mono ?_
      rintro e W5 ⟨rfl, hb5⟩
      have HB5 := Lib.hid (Kit.step HB4.out hb5)
      clear hb5 HNU
      go_wp2_with fail
      go_ret
      exact ⟨rfl, HB5.out⟩
    · have hd1 : decide (m < 1) = false := decide_eq_false h1
      have hd2 : decide (m > (n : Int)) = true := decide_eq_true (by omega)
      have hd3 : decide ((n : Int) < m) = true := decide_eq_true (by omega)
      have HBAD := Lib.hid (And.intro hbad h1)
      clear hbad h1
      go_wp2_with fail
      refine HPB.out.mono ?_
      rintro e W4 ⟨o4, c4, rfl, hb4⟩
      have NU := num_errP14 A 1 (by omega) W4 (HE.out.later (Kit.step HB3.out hb4))
      rw [HEV.out] at NU
      have HNU := Lib.hid NU
      have HB4 := Lib.hid (Kit.step HB3.out hb4)
      clear NU hb4 HPB
      go_wp2_with fail
      refine HNU.out.mono ?_
      rintro e W5 ⟨rfl, hb5⟩
      have HB5 := Lib.hid (Kit.step HB4.out hb5)
      clear hb5 HNU
      go_wp2_with fail
      go_ret
      exact ⟨rfl, HB5.out⟩
  obtain ⟨m, rfl⟩ : ∃ k : Nat, m = (k : Int) := ⟨m.toNat, by omega⟩
  have hm1 : 1 ≤ m := by omega
  have hmn : m ≤ n := by omega
  have hd1 : decide ((m : Int) < 1) = false := decide_eq_false (by omega)
  have hd2 : decide ((m : Int) > (n : Int)) = false := decide_eq_false (by omega)
  have hd3 : decide ((n : Int) < (m : Int)) = false := decide_eq_false (by omega)
  have hd4 : decide (n < m) = false := decide_eq_false (by omega)
  have hd5 : decide (m < 1) = false := decide_eq_false (by omega)
  have PR := HC.out.prove W3 ds o3 n c3 m HDN.out hm1 hmn (by omega) HDG3.out (HV.out.later HB3.out)
  have hpl := Da.prf_length n ds m true HDN.out hm1 hmn
  have hgo := Da.gch_own ds n m HDN.out hm1 hmn (by omega)
  have hc64 := Da.cnt_le n m true hm1 hmn
  have hd63 := Da.dpt_le (n := n) (by omega)
  have hgc : Da.gcn (m : Int) (n : Int) = ((Da.cnt m n true : Nat) : Int) := by unfold Da.gcn; rw [if_pos (by omega), Int.toNat_natCast, Int.toNat_natCast]
  obtain ⟨u, hu⟩ : ∃ u, Da.cnt m n true = u := ⟨_, rfl⟩
  obtain ⟨ps, hps⟩ : ∃ ps, Da.prf ds m true = ps := ⟨_, rfl⟩
  rw [hu] at PR hpl hgc hc64
  rw [hps] at PR hpl hgo
  have hu64 : u ≤ 64 := by omega
  have HPR := Lib.hid PR
  have HPL := Lib.hid hpl
  have HGO := Lib.hid hgo
  have HGC := Lib.hid hgc
  have HU := Lib.hid (And.intro hu hps)
  have HBAD := Lib.hid hbad
  clear PR hpl hgo hc64 hd63 hgc hu hps hbad
  go_wp2_with fail
  refine HPR.out.mono ?_
  rintro e W4 ⟨o4, c4, rfl, hdg4, hb4⟩
  have HB24 := Lib.hid (Kit.step HB23.out hb4)
  have HB4 := Lib.hid (Kit.step HB3.out hb4)
  have HDG4 := Lib.hid hdg4
  have hD4 := HDG2.out.later (Kit.step HB23.out hb4)
  have hcl2 := hD4.le
  have hca2 := hD4.cap
  rw [HDN.out] at hcl2
  unfold maxLen at hca2
  obtain ⟨b1, off1, rfl, hlt1, _⟩ := hD4.at_ 0 (by have := HDN.out; omega)
  have hLk := hD4.part 0 m (by have := HDN.out; omega) c2 (by omega) (by unfold maxLen; omega)
  rw [Nat.zero_mul, Nat.add_zero, List.drop_zero] at hLk
  have hmc : m ≤ c2 := by omega
  have OV1 := rover_any (ds.take m) (some ⟨b1, off1, none⟩) m c2 (by rw [List.length_take, HDN.out]; omega) W4 hLk (HD.out.later HB4.out) (by omega)
  have hr1 := Da.ov_length (l := ds.take m) (hD4.all.take m)
  have hr2 := Da.ov_length (l := ds) hD4.all
  obtain ⟨r1, hr1e⟩ : ∃ r, Da.ov (ds.take m) = r := ⟨_, rfl⟩
  obtain ⟨r2, hr2e⟩ : ∃ r, Da.ov ds = r := ⟨_, rfl⟩
  rw [hr1e] at OV1 hr1
  rw [hr2e] at hr2
  have HGO2 : Hid (Da.gch (m : Int) r1 (n : Int) r2 ps = 0) := Lib.hid (by rw [← hr1e, ← hr2e]; exact HGO.out)
  obtain ⟨R1, hR1⟩ : ∃ R, (bytesV r1).toArray = R := ⟨_, rfl⟩
  obtain ⟨R2, hR2⟩ : ∃ R, (bytesV r2).toArray = R := ⟨_, rfl⟩
  rw [hR1] at OV1
  have H1S : Hid ((Tryd.prog.info? 40).map (·.size) = some R1.size) := Lib.hid (by rw [d32_info, ← hR1]; simp [hr1])
  have H1O : Hid (R1.all (·.oneCell') = true) := Lib.hid (by rw [← hR1]; exact all_oneCell_toArray (bytesV_one _))
  have H1Z : Hid (Z.size = R1.size) := Lib.hid (by rw [HZ.out, ← hR1]; simp [hr1])
  have H2S : Hid ((Tryd.prog.info? 40).map (·.size) = some R2.size) := Lib.hid (by rw [d32_info, ← hR2]; simp [hr2])
  have H2O : Hid (R2.all (·.oneCell') = true) := Lib.hid (by rw [← hR2]; exact all_oneCell_toArray (bytesV_one _))
  have H2Z : Hid (Z.size = R2.size) := Lib.hid (by rw [HZ.out, ← hR2]; simp [hr2])
  have HOV1 := Lib.hid OV1
  have HD4 := Lib.hid hD4
  have HRR := Lib.hid (show r1.length = 32 ∧ r2.length = 32 ∧ Da.ov ds = r2 ∧ (bytesV r1).toArray = R1 ∧ (bytesV r2).toArray = R2 from ⟨hr1, hr2, hr2e, hR1, hR2⟩)
  clear hdg4 hb4 OV1 hr1 hr2 hr1e hr2e hR1 hR2 hLk hlt1 hD4 HPR
  go_upto_region 9 with fail
  apply wp_region_lit
  (refine wpList_plain rfl (fun K hK => ?_); go_simp; refine hK _ _ ?_; clear hK K)
  (refine wpList_plain rfl (fun K hK => ?_); go_simp; refine hK _ _ ?_; clear hK K)
  (refine wpList_plain rfl (fun K hK => ?_); go_simp; refine hK _ _ ?_; clear hK K)
  (refine wpList_plain rfl (fun K hK => ?_); go_simp)
  refine HOV1.out.mono ?_
  rintro e W5 ⟨rfl, hb5⟩
  refine hK _ _ ?_
  clear hK K HOV1
  have OV2 := rover_any ds (some ⟨b1, off1, none⟩) n c2 HDN.out W5 (HD4.out.later hb5) (HD.out.later (Kit.step HB4.out hb5)) (by omega)
  rw [HRR.out.2.2.1, HRR.out.2.2.2.2] at OV2
  have HOV2 := Lib.hid OV2
  have HB45 := Lib.hid hb5
  clear OV2 hb5
  (refine wpList_plain rfl (fun K hK => ?_); go_simp; refine hK _ _ ?_; clear hK K)
  (refine wpList_plain rfl (fun K hK => ?_); go_simp)
  refine HOV2.out.mono ?_
  rintro e W6 ⟨rfl, hb6⟩
  refine hK _ _ ?_
  clear hK K HOV2
  obtain ⟨q, hq6⟩ : ∃ q, W6.heap.size = q := ⟨_, rfl⟩
  obtain ⟨W7, hW7⟩ : ∃ W7, W6.alloc (.cells Z 40) = W7 := ⟨_, rfl⟩
  have hs7 : W7.heap.size = q + 1 := by rw [← hW7, World.size_alloc, hq6]
  obtain ⟨W8, hW8⟩ : ∃ W8, W7.alloc (.cells Z 40) = W8 := ⟨_, rfl⟩
  have hb7 : Below W6.heap.size W6 W7 := by rw [← hW7]; exact new12 _ _
  have hb8 : Below W7.heap.size W7 W8 := by rw [← hW8]; exact new12 _ _
  have hq8 : W8.heap[q]? = some (.cells Z 40 (0, 0)) := by rw [hb8.block q (by omega), ← hW7, ← hq6]; exact World.alloc_heap_new W6 _
  have hr8 : W8.heap[q + 1]? = some (.cells Z 40 (0, 0)) := by rw [← hW8, ← hs7]; exact World.alloc_heap_new W7 _
  obtain ⟨W9, hW9⟩ : ∃ W9, W8.setRow q R1 = W9 := ⟨_, rfl⟩
  have hr9 : W9.heap[q + 1]? = some (.cells Z 40 (0, 0)) := by rw [← hW9, setRow_other W8 q (q + 1) R1 (by omega)]; exact hr8
  have hq9 : W9.heap[q]? = some (.cells R1 40 (0, 0)) := by rw [← hW9]; exact setRow_heap _ _ _ _ _ _ hq8
  obtain ⟨W10, hW10⟩ : ∃ W10, W9.setRow (q + 1) R2 = W10 := ⟨_, rfl⟩
  have hq10 : W10.heap[q]? = some (.cells R1 40 (0, 0)) := by rw [← hW10, setRow_other W9 (q + 1) q R2 (by omega)]; exact hq9
  have hr10 : W10.heap[q + 1]? = some (.cells R2 40 (0, 0)) := by rw [← hW10]; exact setRow_heap _ _ _ _ _ _ hr9
  have hb10 : Below W6.heap.size W6 W10 := by rw [← hW10, ← hW9]; exact ((Kit.step hb7 hb8).trans (below_row (by omega))).trans (below_row (by omega))
  have HB410 := Lib.hid (Kit.step (Kit.step HB45.out hb6) hb10)
  have HB10 := Lib.hid (Kit.step HB4.out HB410.out)
  have HQ10 := Lib.hid hq10
  have HR10 := Lib.hid hr10
  have HW7 := Lib.hid hW7
  have HW8 := Lib.hid hW8
  have HW9 := Lib.hid hW9
  have HW10 := Lib.hid hW10
  have HQ6 := Lib.hid hq6
  have HQ8 := Lib.hid hq8
  have HR9 := Lib.hid hr9
  clear hq6 hW7 hs7 hW8 hb7 hb8 hq8 hr8 hW9 hr9 hq9 hW10 hq10 hr10 hb10 hb6
  (refine wpList_plain rfl (fun K hK => ?_); go_simp; refine hK _ _ ?_; clear hK K)
  (refine wpList_plain rfl (fun K hK => ?_); go_simp; refine hK _ _ ?_; clear hK K)
  rw [HW7.out, HW8.out, HQ6.out]
  refine wpList_store_row rfl 40 (.tmp 8) (.tmp 42) rfl q R1 rfl rfl 40 Z HQ8.out H1S.out H1Z.out H1O.out ?_
  rw [HW9.out]
  refine wpList_store_row rfl 40 (.tmp 9) (.tmp 44) rfl (q + 1) R2 rfl rfl 40 Z HR9.out H2S.out H2Z.out H2O.out ?_
  rw [HW10.out]
  have HDA := Lib.hid (HDG4.out.later HB410.out)
  have HDB := Lib.hid (HDG2.out.later (Kit.step HB24.out HB410.out))
  go_upto_region 10 with fail
  apply wp_region_lit
  (refine wpList_plain rfl (fun K hK => ?_); go_simp; refine hK _ _ ?_; clear hK K)
  (refine wpList_plain rfl (fun K hK => ?_); go_simp; refine hK _ _ ?_; clear hK K)
  (refine wpList_plain rfl (fun K hK => ?_); go_simp; refine hK _ _ ?_; clear hK K)
  (refine BigFrame.wpList_want (by rfl) (fun K hK => ?_); go_simp; refine hK _ _ ?_; clear hK K)
  (refine BigFrame.wpList_want (by rfl) (fun K hK => ?_); go_simp; refine hK _ _ ?_; clear hK K)
  (refine BigFrame.wpList_want (by rfl) (fun K hK => ?_); go_simp; refine hK _ _ ?_; clear hK K)
  refine BigFrame.wpList_want (by rfl) (fun K hK => ?_)
  go_simp
  refine (rprove_any14 n ds _ c2 m true W10 HDN.out hm1 hmn HDB.out (HD.out.later HB10.out) (by omega)).mono ?_
  rintro e W11 ⟨v11, rfl, hown, hb11⟩
  rw [HU.out.1, HU.out.2] at hown
  obtain ⟨hnn, o11, c11, rfl, hdg11⟩ := own_dg hown (by rw [← HU.out.2]; exact Da.prf_all32 n ds m true HDN.out HDB.out.all hm1 hmn)
  have HB11 := Lib.hid hb11
  have HDG11 := Lib.hid hdg11
  clear hown hb11 hdg11 hnn
  refine hK _ _ ?_
  clear hK K
  refine BigFrame.wpList_want (by rfl) (fun K hK => ?_)
  go_simp
  refine (same_any14 ps o4 o11 u c4 c11 HPL.out W11 (HDA.out.later HB11.out) HDG11.out).mono ?_
  rintro e W12 ⟨rfl, hb12⟩
  have HB12 := Lib.hid (Kit.step HB11.out hb12)
  clear hb12
  refine hK _ _ ?_
  clear hK K
  (refine wpList_plain rfl (fun K hK => ?_); go_simp; refine hK _ _ ?_; clear hK K)
  (refine wpList_plain rfl (fun K hK => ?_); go_simp; refine hK _ _ ?_; clear hK K)
  (refine BigFrame.wpList_want (by rfl) (fun K hK => ?_); go_simp; refine hK _ _ ?_; clear hK K)
  (refine BigFrame.wpList_want (by rfl) (fun K hK => ?_); go_simp; refine hK _ _ ?_; clear hK K)
  (refine BigFrame.wpList_want (by rfl) (fun K hK => ?_); go_simp; refine hK _ _ ?_; clear hK K)
  refine BigFrame.wpList_want (by rfl) (fun K hK => ?_)
  go_simp
  refine (HC.out.count W12 (m : Int) (n : Int)).mono ?_
  rintro e W13 ⟨rfl, hb13⟩
  have HB13 := Lib.hid (Kit.step HB12.out hb13)
  rw [HGC.out]
  clear hb13
  refine hK _ _ ?_
  clear hK K
  (refine BigFrame.wpList_want (by rfl) (fun K hK => ?_); go_simp; refine hK _ _ ?_; clear hK K)
  (refine BigFrame.wpList_want (by rfl) (fun K hK => ?_); go_simp; refine hK _ _ ?_; clear hK K)
  (refine BigFrame.wpList_want (by rfl) (fun K hK => ?_); go_simp; refine hK _ _ ?_; clear hK K)
  (refine wpList_plain rfl (fun K hK => ?_); go_simp; refine hK _ _ ?_; clear hK K)
  (refine wpList_plain rfl (fun K hK => ?_); go_simp; refine hK _ _ ?_; clear hK K)
  (refine BigFrame.wpList_want (by rfl) (fun K hK => ?_); go_simp; refine hK _ _ ?_; clear hK K)
  refine BigFrame.wpList_want (by rfl) (fun K hK => wp_load_row 40 (.tmp 8) rfl q rfl 40 R1 (0, 0) _ (by rw [HB13.out.block q (Array.getElem?_eq_some_iff.1 HQ10.out).1]; exact HQ10.out) d32_under rfl H1S.out (hK _ _ ?_))
  (refine BigFrame.wpList_want (by rfl) (fun K hK => ?_); go_simp; refine hK _ _ ?_; clear hK K)
  (refine BigFrame.wpList_want (by rfl) (fun K hK => ?_); go_simp; refine hK _ _ ?_; clear hK K)
  refine BigFrame.wpList_want (by rfl) (fun K hK => wp_load_row 40 (.tmp 9) rfl (q + 1) rfl 40 R2 (0, 0) _ (by rw [HB13.out.block (q + 1) (Array.getElem?_eq_some_iff.1 HR10.out).1]; exact HR10.out) d32_under rfl H2S.out (hK _ _ ?_))
  (refine BigFrame.wpList_want (by rfl) (fun K hK => ?_); go_simp; refine hK _ _ ?_; clear hK K)
  have CK := HC.out.check W13 (m : Int) (n : Int) r1 r2 ps o4 c4 HRR.out.1 HRR.out.2.1 (by rw [HPL.out]; omega) (HDA.out.later HB13.out) (HV.out.later (Kit.step HB10.out HB13.out)) (HE.out.later (Kit.step HB10.out HB13.out)).t13
  rw [HGO2.out, HPL.out, HRR.out.2.2.2.1, HRR.out.2.2.2.2] at CK
  have HCK := Lib.hid CK
  clear CK
  refine BigFrame.wpList_want (by rfl) (fun K hK => ?_)
  go_simp
  refine (HCK.out).mono ?_
  rintro e W14 ⟨rfl, hb14⟩
  have HB14 := Lib.hid (Kit.step HB10.out (Kit.step HB13.out hb14))
  rw [show errP A 0 = .nilIface from rfl]
  clear hb14
  refine hK _ _ ?_
  clear hK K
  go_wp2_with fail
  go_ret
  exact ⟨rfl, HB14.out⟩
theorem wp14_any (A : Nat → Addr) (hC : GrC A) (bs : List (List UInt8)) (o : Option Addr) (n c : Nat) (hn : bs.length = n) (m : Int) (w : World) (hR : RbIs w o bs c) (hV : Cds w) (hD : Rds w) (hE : Er.Errs w A) :
    Calls Tryd.prog 5 #[.slice o n c, .int .i64 m] w fun e w' => e = .returned (.bool true) ∧ Below w.heap.size w w' := wp14_of _ rfl d32_zero A hC bs o n c hn m w hR hV hD hE
end Go.Proofs.YtfccpfmgkpcnoaaDoor
