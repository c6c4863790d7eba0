/- A path asked for as a struct; PathChecks. -/
import Derived.Test.YtjcmihiajpgnjaaDoorPr13
import Derived.Test.YtjcmihiajpgnjaaDoorOa13
namespace Go.Proofs.YtjcmihiajpgnjaaDoor
open Go.RowKit
set_option linter.unusedVariables false
set_option linter.unusedSimpArgs false
/-- such a struct, in a block -/
structure AskAt (W : World) (g : Nat) (root : List UInt8) (n i : Int) (lv pv : Value) : Prop where
  lt : g < W.heap.size
  rt : W.rangeAt g 0 (bytesV root)
  cn : W.cell? ⟨g, 32, none⟩ = some (.int .i64 n)
  ci : W.cell? ⟨g, 33, none⟩ = some (.int .i64 i)
  cl : W.cell? ⟨g, 34, none⟩ = some lv
  cp : W.cell? ⟨g, 35, none⟩ = some pv
theorem AskAt.later {W W' : World} {g : Nat} {root : List UInt8} {n i : Int} {lv pv : Value} (h : AskAt W g root n i lv pv) (hb : Below W.heap.size W W') : AskAt W' g root n i lv pv :=
  ⟨Nat.lt_of_lt_of_le h.lt hb.size, rangeAt_later h.rt hb h.lt, by rw [hb.cell (p := ⟨g, 32, none⟩) h.lt]; exact h.cn, by rw [hb.cell (p := ⟨g, 33, none⟩) h.lt]; exact h.ci, by rw [hb.cell (p := ⟨g, 34, none⟩) h.lt]; exact h.cl, by rw [hb.cell (p := ⟨g, 35, none⟩) h.lt]; exact h.cp⟩
theorem AskAt.of {W : World} {g : Nat} {T : TypeId} {root : List UInt8} {n i : Int} {lv pv : Value} (hr : root.length = 32) (h : Arr W g T (askL root n i lv pv)) : AskAt W g root n i lv pv := by
  have k : ∀ j, (askL root n i lv pv)[32 + j]? = [Value.int .i64 n, .int .i64 i, lv, pv][j]? := fun j => by
    unfold askL
    rw [List.getElem?_append_right (by rw [bytesV_length]; omega), bytesV_length, hr]
    congr 1
    omega
  refine ⟨h.lt, h.range 0 _ fun j v hv => ?_, ?_, ?_, ?_, ?_⟩
  · have hj := (List.getElem?_eq_some_iff.1 hv).1
    unfold askL
    rw [Nat.zero_add, List.getElem?_append_left hj]; exact hv
  · rw [h.cell]; exact k 0
  · rw [h.cell]; exact k 1
  · rw [h.cell]; exact k 2
  · rw [h.cell]; exact k 3
/-- an error's number -/
theorem num_errP (A : Nat → Addr) (k : Nat) (hk : k ≤ 20) (w : World) (hE : Er.Errs w A) : Calls Tryd.prog 13 #[errP A k] w fun e w' => e = .returned (.int .i64 (k : Int)) ∧ Below w.heap.size w w' := by
  unfold errP
  by_cases h0 : k = 0
  · rw [if_pos h0]
    subst h0
    refine (Er.num_nil w).mono ?_
    rintro e w' ⟨rfl, rfl⟩
    exact ⟨rfl, Below.refl _ _⟩
  · rw [if_neg h0]
    have := Er.num_of A (k - 1) (by omega) w hE
    rw [show k - 1 + 1 = k by omega] at this
    exact this
set_option maxRecDepth 100000 in
set_option maxHeartbeats 4000000 in
theorem pc13_of (Z : Array Value) (hZ : Z = (bytesV (List.replicate 32 0)).toArray) (hzs : ∀ w, Sem.run Tryd.prog (zeroValue 38) w = .ok (.agg Z) w) (hbu : Tryd.prog.built 38 [] = some Z)
    (root leaf : List UInt8) (n i : Int) (ol op : Option Addr) (cl cp : Nat) (ps : List (List UInt8)) (hr : root.length = 32) (A : Nat → Addr) (w : World)
    (hR : RowIs w ol (bytesV leaf) cl) (hP : DgIs w op ps cp) (hV : Cds w) (hVr : Rds w) (hE : Er.Errs w A) :
    Calls Tryd.prog 4 #[.agg (askL root n i (.slice ol leaf.length cl) (.slice op ps.length cp)).toArray] w fun e w' => e = .returned (.bool true) ∧ Below w.heap.size w w' := by
  obtain ⟨g, hg⟩ : ∃ g, w.heap.size = g := ⟨_, rfl⟩
  obtain ⟨AL, hAL⟩ : ∃ AL, askL root n i (.slice ol leaf.length cl) (.slice op ps.length cp) = AL := ⟨_, rfl⟩
  obtain ⟨W1, hW1⟩ : ∃ W1, w.alloc (.cells AL.toArray 43) = W1 := ⟨_, rfl⟩
  have hb1 : Below w.heap.size w W1 := by rw [← hW1]; exact new12 _ _
  have hk1 : AskAt W1 g root n i (.slice ol leaf.length cl) (.slice op ps.length cp) := AskAt.of (T := 43) hr (by rw [hAL, ← hW1, ← hg]; exact Arr.made _ _ _)
  obtain ⟨L, hL⟩ : ∃ L, leaf.length = L := ⟨_, rfl⟩
  obtain ⟨M, hM⟩ : ∃ M, ps.length = M := ⟨_, rfl⟩
  have hlL := hR.le
  have hlM := hP.le
  rw [bytesV_length] at hlL
  obtain ⟨AA, hAA⟩ : ∃ AA, AL.toArray = AA := ⟨_, rfl⟩
  rw [hAL, hAA]
  rw [hAA] at hW1
  have ALV := alive13_any W1 (hV.later hb1)
  have HALV := Lib.hid ALV
  have HG := Lib.hid hg
  have HW1 := Lib.hid hW1
  have HB1 := Lib.hid hb1
  have HK1 := Lib.hid hk1
  have HL := Lib.hid hL
  have HM := Lib.hid hM
  have HRL := Lib.hid hr
  have HR1 := Lib.hid (hR.later hb1)
  have HP1 := Lib.hid (hP.later hb1)
  have HV1 := Lib.hid (hV.later hb1)
  have HVR1 := Lib.hid (hVr.later hb1)
  have HE1 := Lib.hid (hE.later hb1)
  have HZ := Lib.hid hZ
  clear ALV hg hW1 hb1 hk1 hL hM hr hR hP hV hVr hE hZ hAA hAL AL hlL hlM
  go_enter Tryd.func4, Tryd.ntmps4
  go_upto_region 1 with fail
  rw [HW1.out, HG.out]
  go_wp2_with fail
  refine HALV.out.mono ?_
  rintro e W2 ⟨rfl, hb2⟩
  have hk2 := HK1.out.later hb2
  rw [HL.out, HM.out] at hk2
  have HK2 := Lib.hid hk2
  have HB12 := Lib.hid hb2
  have HB2 := Lib.hid (Kit.step HB1.out hb2)
  clear hb2 hk2 HALV
  have hcn := HK2.out.cn
  have hci := HK2.out.ci
  have hcl := HK2.out.cl
  have hcp := HK2.out.cp
  by_cases h200 : 200 < L
  · have hd1 : decide ((L : Int) > 200) = true := decide_eq_true (by omega)
    have hd2 : decide (200 < (L : Int)) = true := decide_eq_true (by omega)
    have H200 := Lib.hid h200
    clear h200
    go_wp2_with fail
    go_ret
    exact ⟨rfl, HB2.out⟩
  have hd1 : decide ((L : Int) > 200) = false := decide_eq_false (by omega)
  have hd2 : decide (200 < (L : Int)) = false := decide_eq_false (by omega)
  by_cases h40 : 40 < M
  · have hd3 : decide ((M : Int) > 40) = true := decide_eq_true (by omega)
    have hd4 : decide (40 < (M : Int)) = true := decide_eq_true (by omega)
    have H200 := Lib.hid h200
    have H40 := Lib.hid h40
    clear h200 h40
    go_wp2_with fail
    go_ret
    exact ⟨rfl, HB2.out⟩
  have hd3 : decide ((M : Int) > 40) = false := decide_eq_false (by omega)
  have hd4 : decide (40 < (M : Int)) = false := decide_eq_false (by omega)
  have hL2 : L ≤ 200 := by omega
  have hM2 : M ≤ 40 := by omega
  obtain ⟨r, hrr⟩ : ∃ r, Da.chk13 root n i leaf ps = r := ⟨_, rfl⟩
  obtain ⟨kf, hkf⟩ : ∃ kf, Da.chkF n i ps.length = kf := ⟨_, rfl⟩
  have hk3 : kf = 0 ∧ (r = 0 ∨ r = 15) ∨ (kf = 1 ∨ kf = 8) ∧ r = kf := by
    by_cases h0 : kf = 0
    · refine .inl ⟨h0, ?_⟩
      rw [← hrr]; unfold Da.chk13
      rw [if_pos (by rw [hkf, h0])]
      split
      · exact .inl rfl
      · exact .inr rfl
    · refine .inr ⟨?_, by rw [← hrr]; unfold Da.chk13; rw [if_neg (by rw [hkf]; exact h0), hkf]⟩
      unfold Da.chkF at hkf
      split at hkf
      · split at hkf
        · omega
        · exact .inr hkf.symm
      · exact .inl hkf.symm
  have DG := digs_any ps op M cp HM.out (by omega) W2 (HP1.out.later HB12.out)
  have HDG := Lib.hid DG
  have HH200 := Lib.hid h200
  have HH40 := Lib.hid h40
  have HRR := Lib.hid hrr
  have HKF := Lib.hid hkf
  have HK3 := Lib.hid hk3
  clear h200 h40 DG hrr hkf hk3
  go_wp2_with fail
  refine HDG.out.mono ?_
  rintro e W3 ⟨o3, c3, rfl, hdg3, hb3⟩
  clear hcn hci hcl hcp HDG
  have HB13 := Lib.hid (Kit.step HB12.out hb3)
  have HK3' := Lib.hid (HK2.out.later hb3)
  have HDG3 := Lib.hid hdg3
  clear hb3 hdg3
  obtain ⟨R, hRA⟩ : ∃ R, (bytesV root).toArray = R := ⟨_, rfl⟩
  have HRS : Hid ((Tryd.prog.info? 37).map (·.size) = some (bytesV root).length) := Lib.hid (by rw [d32_info]; simp [HRL.out])
  have RC := rcheck_any13 root HRL.out leaf ol cl ps op cp n i (by have := HL.out; omega) (by have := HM.out; omega) W3 (HR1.out.later HB13.out) (HP1.out.later HB13.out) (HVR1.out.later HB13.out)
  rw [HRR.out, hRA, HL.out, HM.out] at RC
  have HRC := Lib.hid RC
  have HRA := Lib.hid hRA
  clear RC hRA
  have hcn := HK3'.out.cn
  have hci := HK3'.out.ci
  have hcl := HK3'.out.cl
  have hcp := HK3'.out.cp
  go_upto_region 6 with fail
  apply wp_region_lit
  (refine wpList_plain rfl (fun K hK => ?_); go_simp; refine hK _ _ ?_; clear hK K)
  refine wpList_load_mid rfl 37 (.tmp 22) rfl g 0 rfl (bytesV root) _ HK3'.out.rt d32_under rfl HRS.out ?_
  rw [HRA.out]
  go_wp2_with fail
  refine HRC.out.mono ?_
  rintro e W4 ⟨rfl, hb4⟩
  clear hcn hci hcl hcp HRC
  have HB14 := Lib.hid (Kit.step HB13.out hb4)
  have HK4 := Lib.hid (HK3'.out.later hb4)
  have HDG4 := Lib.hid (HDG3.out.later hb4)
  clear hb4 HK3' HDG3
  have PC := pcheck_all root HRL.out leaf ol cl ps o3 c3 n i (by have := HL.out; omega) (by have := HM.out; omega) A W4 (HR1.out.later HB14.out) HDG4.out (HV1.out.later HB14.out) (HE1.out.later HB14.out).t13
  rw [HRR.out, HRA.out, HL.out, HM.out] at PC
  obtain ⟨EC, hEC⟩ : ∃ EC, errP A r = EC := ⟨_, rfl⟩
  rw [hEC] at PC
  have HEC := Lib.hid hEC
  have HPC := Lib.hid PC
  clear PC hEC
  have hcn := HK4.out.cn
  have hci := HK4.out.ci
  have hcl := HK4.out.cl
  have hcp := HK4.out.cp
  go_upto_region 7 with fail
  apply wp_region_lit
  (refine wpList_plain rfl (fun K hK => ?_); go_simp; refine hK _ _ ?_; clear hK K)
  refine wpList_load_mid rfl 37 (.tmp 33) rfl g 0 rfl (bytesV root) _ HK4.out.rt d32_under rfl HRS.out ?_
  rw [HRA.out]
  go_wp2_with fail
  refine HPC.out.mono ?_
  rintro e W5 ⟨rfl, hb5⟩
  clear hcn hci hcl hcp HPC
  have HB15 := Lib.hid (Kit.step HB14.out hb5)
  have HK5 := Lib.hid (HK4.out.later hb5)
  have HDG5 := Lib.hid (HDG4.out.later hb5)
  clear hb5 HK4 HDG4
  have NU := num_errP A r (by have := HK3.out; omega) W5 (HE1.out.later HB15.out)
  rw [HEC.out] at NU
  have HNU := Lib.hid NU
  clear NU
  have hnr : ((r : Int) != (r : Int)) = false := by simp
  go_wp2_with fail
  refine HNU.out.mono ?_
  rintro e W6 ⟨rfl, hb6⟩
  have HB16 := Lib.hid (Kit.step HB15.out hb6)
  have HK6 := Lib.hid (HK5.out.later hb6)
  have HDG6 := Lib.hid (HDG5.out.later hb6)
  clear hb6 HK5 HDG5 HNU
  have PF := pfold_all leaf ol cl ps o3 c3 n i (by have := HL.out; omega) (by have := HM.out; omega) A W6 (HR1.out.later HB16.out) HDG6.out (HV1.out.later HB16.out) (HE1.out.later HB16.out).t13
  rw [HKF.out, HL.out, HM.out] at PF
  obtain ⟨f, hf⟩ : ∃ f, Da.fold13 n i leaf ps = f := ⟨_, rfl⟩
  have hfl := Da.fold13_length n i leaf ps
  rw [hf] at PF hfl
  obtain ⟨D, hD⟩ : ∃ D, (bytesV f).toArray = D := ⟨_, rfl⟩
  obtain ⟨EF, hEF⟩ : ∃ EF, errP A kf = EF := ⟨_, rfl⟩
  rw [hD, hEF] at PF
  have HDS : Hid ((Tryd.prog.info? 38).map (·.size) = some D.size) := Lib.hid (by rw [dg_info, ← hD]; simp [hfl])
  have HDO : Hid (D.all (·.oneCell') = true) := Lib.hid (by rw [← hD]; exact all_oneCell_toArray (bytesV_one _))
  have HDZ : Hid (Z.size = D.size) := Lib.hid (by rw [HZ.out, ← hD]; simp [hfl])
  have HPF := Lib.hid PF
  have HD := Lib.hid hD
  have HEF := Lib.hid hEF
  have HF := Lib.hid hf
  have HFL := Lib.hid hfl
  clear PF hD hEF hf hfl
  have hcn := HK6.out.cn
  have hci := HK6.out.ci
  have hcl := HK6.out.cl
  have hcp := HK6.out.cp
  go_upto_region 9 with fail
  apply wp_region_lit
  (refine wpList_plain rfl (fun K hK => ?_); go_simp; refine hK _ _ ?_; clear hK K)
  (refine wpList_plain rfl (fun K hK => ?_); go_simp; refine hK _ _ ?_; clear hK K)
  (refine wpList_plain rfl (fun K hK => ?_); go_simp; refine hK _ _ ?_; clear hK K)
  (refine wpList_plain rfl (fun K hK => ?_); go_simp; refine hK _ _ ?_; clear hK K)
  (refine wpList_plain rfl (fun K hK => ?_); go_simp; refine hK _ _ ?_; clear hK K)
  (refine wpList_plain rfl (fun K hK => ?_); go_simp; refine hK _ _ ?_; clear hK K)
  (refine wpList_plain rfl (fun K hK => ?_); go_simp; refine hK _ _ ?_; clear hK K)
  (refine wpList_plain rfl (fun K hK => ?_); go_simp)
  refine HPF.out.mono ?_
  rintro e W7 ⟨rfl, hb7⟩
  refine hK _ _ ?_
  clear hK K HPF hcn hci hcl hcp
  obtain ⟨W8, hW8⟩ : ∃ W8, W7.alloc (.cells Z 38) = W8 := ⟨_, rfl⟩
  obtain ⟨p, hp⟩ : ∃ p, W7.heap.size = p := ⟨_, rfl⟩
  obtain ⟨W9, hW9⟩ : ∃ W9, W8.setRow p D = W9 := ⟨_, rfl⟩
  have hA8 : W8.heap[p]? = some (.cells Z 38 (0, 0)) := by rw [← hW8, ← hp]; exact World.alloc_heap_new W7 _
  have hA9 : W9.heap[p]? = some (.cells D 38 (0, 0)) := by rw [← hW9]; exact setRow_heap _ _ _ _ _ _ hA8
  have hb9 : Below W7.heap.size W7 W9 := by rw [← hW9, ← hW8]; exact (new12 _ _).trans (below_row (Nat.le_of_eq hp))
  have hb69 := Kit.step hb7 hb9
  have HB19 := Lib.hid (Kit.step HB16.out hb69)
  have HK9 := Lib.hid (HK6.out.later hb69)
  have HA8 := Lib.hid hA8
  have HA9 := Lib.hid hA9
  have HW8 := Lib.hid hW8
  have HW9 := Lib.hid hW9
  have HP := Lib.hid hp
  clear hW8 hp hW9 hA8 hA9 hb9 hb69 hb7 HK6 HDG6
  (refine wpList_plain rfl (fun K hK => ?_); go_simp; refine hK _ _ ?_; clear hK K)
  (refine wpList_plain rfl (fun K hK => ?_); go_simp; refine hK _ _ ?_; clear hK K)
  (refine wpList_plain rfl (fun K hK => ?_); go_simp; refine hK _ _ ?_; clear hK K)
  (refine wpList_plain rfl (fun K hK => ?_); go_simp; refine hK _ _ ?_; clear hK K)
  rw [HW8.out, HP.out]
  refine wpList_store_row rfl 38 (.tmp 5) (.tmp 55) rfl p D rfl rfl 38 Z HA8.out HDS.out HDZ.out HDO.out ?_
  rw [HW9.out]
  clear HW8 HW9 HA8
  rcases HK3.out with ⟨hk0, hr3⟩ | ⟨hk1, hrk⟩
  · have hef : EF = .nilIface := by rw [← HEF.out, hk0]; rfl
    subst hef
    have hq1 : ((r : Int) == (1 : Int)) = false := by rcases hr3 with h | h <;> rw [h] <;> rfl
    have hq8 : ((r : Int) == (8 : Int)) = false := by rcases hr3 with h | h <;> rw [h] <;> rfl
    have hde1 : decide ((r : Int) = (1 : Int)) = false := decide_eq_false (by omega)
    have hde8 : decide ((r : Int) = (8 : Int)) = false := decide_eq_false (by omega)
    have hin : (0 ≤ i ∧ i < n ∧ n ≤ 512) ∧ ps.length = (Da.ups n.toNat i.toNat).length := by
      have hh := HKF.out
      rw [hk0] at hh
      unfold Da.chkF at hh
      split at hh
      · rename_i h1
        split at hh
        · rename_i h2; exact ⟨h1, h2⟩
        · cases hh
      · cases hh
    have hfo : f = Da.fs (Da.lf leaf) (Da.ups n.toNat i.toNat) ps ps.length := by rw [← HF.out]; unfold Da.fold13; rw [if_pos (by rw [HKF.out, hk0])]
    have LE := fun W (hb : Below W9.heap.size W9 W) => rleaf_any leaf ol cl W (HR1.out.later (Kit.step HB19.out hb)) (HVR1.out.later (Kit.step HB19.out hb)) (by have := HL.out; omega)
    have FO := fun W (hb : Below W9.heap.size W9 W) => rfold_any13 n.toNat i.toNat (Da.lf leaf) ps op cp W (by omega) (by omega) (Da.lf_length leaf) hin.2 (HP1.out.later (Kit.step HB19.out hb)) (HVR1.out.later (Kit.step HB19.out hb))
    rw [← hfo, show ((n.toNat : Nat) : Int) = n by omega, show ((i.toNat : Nat) : Int) = i by omega, HM.out, HD.out] at FO
    rw [HL.out] at LE
    obtain ⟨LA, hLA⟩ : ∃ LA, (bytesV (Da.lf leaf)).toArray = LA := ⟨_, rfl⟩
    rw [hLA] at FO LE
    have hqq : ∀ W, (binOp .eql 37 (.agg D) (.agg D)).run Tryd.prog W = .ok (.bool true) W := fun W => by
      have := d32_eql f f HFL.out HFL.out W
      rw [HD.out, beq_self_eq_true] at this
      exact this
    have hgd := d32_guard
    have hen := eql_nil13
    have HLE := Lib.hid LE
    have HFO := Lib.hid FO
    obtain ⟨C, hC⟩ : ∃ C : World → Prop, (fun v => Below W9.heap.size W9 v) = C := ⟨_, rfl⟩
    have HC1 : Hid (∀ v, Below W9.heap.size W9 v → C v) := Lib.hid fun v hv => by rw [← hC]; exact hv
    have HC2 : Hid (∀ v, C v → Below W9.heap.size W9 v) := Lib.hid fun v hv => by rw [← hC] at hv; exact hv
    have HKA : Hid (∀ v, C v → AskAt v g root n i (.slice ol L cl) (.slice op M cp)) := Lib.hid fun v hv => HK9.out.later (HC2.out v hv)
    have HAC : Hid (∀ v, C v → v.heap[p]? = some (.cells D 38 (0, 0))) := Lib.hid fun v hv => by rw [(HC2.out v hv).block p (Array.getElem?_eq_some_iff.1 HA9.out).1]; exact HA9.out
    have hC0 : C W9.drew := HC1.out _ (Kit.dn' W9 1)
    have HK0 := Lib.hid hk0
    have HR3 := Lib.hid hr3
    have HHIN := Lib.hid hin
    clear LE FO hLA hC hfo hin hk0 hr3
    go_upto_region 12 with fail
    refine Rgt.region C (fun _ => false) (by kernel_rfl) ?_
    refine Rgt.take (i := 0) (x := .nilIface) rfl rfl (by kernel_rfl) (by kernel_rfl) (by kernel_rfl) (by kernel_rfl) (fun _ _ _ h => h) (Or.inl ⟨by kernel_rfl, fun w hw => by (go_simp <;> with_reducible rfl)⟩) hC0 ?_
    go_simp
    refine Rgt.take (i := 1) (x := .bool true) rfl rfl (by kernel_rfl) (by kernel_rfl) (by kernel_rfl) (by kernel_rfl) (fun _ _ _ h => h) (Or.inl ⟨by kernel_rfl, fun w hw => by have hc := hen w; (go_simp <;> with_reducible rfl)⟩) hC0 ?_
    go_simp
    refine Rgt.take (i := 2) (x := .bool true) rfl rfl (by kernel_rfl) (by kernel_rfl) (by kernel_rfl) (by kernel_rfl) (fun _ _ _ h => h) (Or.inl ⟨by kernel_rfl, fun w hw => by (go_simp <;> with_reducible rfl)⟩) hC0 ?_
    go_simp
    refine Rgt.take (i := 3) (x := .agg D) rfl rfl (by kernel_rfl) (by kernel_rfl) (by kernel_rfl) (by kernel_rfl) (fun _ _ _ h => h) (Or.inl ⟨by kernel_rfl, fun w hw => exec_row (t := 38) (fr := (0, 0)) rfl rfl (HAC.out w hw) dg_under rfl HDS.out⟩) hC0 ?_
    go_simp
    refine Rgt.take (i := 4) (x := .pointer (some ⟨g, 32, none⟩)) rfl rfl (by kernel_rfl) (by kernel_rfl) (by kernel_rfl) (by kernel_rfl) (fun _ _ _ h => h) (Or.inl ⟨by kernel_rfl, fun w hw => by (go_simp <;> with_reducible rfl)⟩) hC0 ?_
    go_simp
    refine Rgt.take (i := 5) (x := .int .i64 n) rfl rfl (by kernel_rfl) (by kernel_rfl) (by kernel_rfl) (by kernel_rfl) (fun _ _ _ h => h) (Or.inl ⟨by kernel_rfl, fun w hw => by have hc := (HKA.out w hw).cn; (go_simp <;> with_reducible rfl)⟩) hC0 ?_
    go_simp
    refine Rgt.take (i := 6) (x := .pointer (some ⟨g, 33, none⟩)) rfl rfl (by kernel_rfl) (by kernel_rfl) (by kernel_rfl) (by kernel_rfl) (fun _ _ _ h => h) (Or.inl ⟨by kernel_rfl, fun w hw => by (go_simp <;> with_reducible rfl)⟩) hC0 ?_
    go_simp
    refine Rgt.take (i := 7) (x := .int .i64 i) rfl rfl (by kernel_rfl) (by kernel_rfl) (by kernel_rfl) (by kernel_rfl) (fun _ _ _ h => h) (Or.inl ⟨by kernel_rfl, fun w hw => by have hc := (HKA.out w hw).ci; (go_simp <;> with_reducible rfl)⟩) hC0 ?_
    go_simp
    refine Rgt.take (i := 8) (x := .pointer (some ⟨g, 34, none⟩)) rfl rfl (by kernel_rfl) (by kernel_rfl) (by kernel_rfl) (by kernel_rfl) (fun _ _ _ h => h) (Or.inl ⟨by kernel_rfl, fun w hw => by (go_simp <;> with_reducible rfl)⟩) hC0 ?_
    go_simp
    refine Rgt.take (i := 9) (x := .slice ol L cl) rfl rfl (by kernel_rfl) (by kernel_rfl) (by kernel_rfl) (by kernel_rfl) (fun _ _ _ h => h) (Or.inl ⟨by kernel_rfl, fun w hw => by have hc := (HKA.out w hw).cl; (go_simp <;> with_reducible rfl)⟩) hC0 ?_
    go_simp
    refine Rgt.take (i := 11) (x := .pointer (some ⟨g, 35, none⟩)) rfl rfl (by kernel_rfl) (by kernel_rfl) (by kernel_rfl) (by kernel_rfl) (fun _ _ _ h => h) (Or.inl ⟨by kernel_rfl, fun w hw => by (go_simp <;> with_reducible rfl)⟩) hC0 ?_
    go_simp
    refine Rgt.take (i := 12) (x := .slice op M cp) rfl rfl (by kernel_rfl) (by kernel_rfl) (by kernel_rfl) (by kernel_rfl) (fun _ _ _ h => h) (Or.inl ⟨by kernel_rfl, fun w hw => by have hc := (HKA.out w hw).cp; (go_simp <;> with_reducible rfl)⟩) hC0 ?_
    go_simp
    refine Rgt.ready (i := 10) (by kernel_rfl) rfl (by kernel_rfl) (fun K hK => ?_)
    go_simp
    refine (HLE.out _ (HC2.out _ hC0)).mono ?_
    rintro e Y1 ⟨rfl, hb⟩
    have hC1 := HC1.out _ (Kit.step (HC2.out _ hC0) hb)
    clear hb
    refine hK _ _ hC1 ?_
    clear hK K hC0
    rename C _ => hC0
    refine Rgt.ready (i := 13) (by kernel_rfl) rfl (by kernel_rfl) (fun K hK => ?_)
    go_simp
    refine (HFO.out _ (HC2.out _ hC0)).mono ?_
    rintro e Y2 ⟨rfl, hb⟩
    have hC1 := HC1.out _ (Kit.step (HC2.out _ hC0) hb)
    clear hb
    refine hK _ _ hC1 ?_
    clear hK K hC0
    rename C _ => hC0
    refine Rgt.take (i := 14) (x := .bool true) rfl rfl (by kernel_rfl) (by kernel_rfl) (by kernel_rfl) (by kernel_rfl) (fun _ _ _ h => h) (Or.inl ⟨by kernel_rfl, fun w hw => by have hc := hqq w; (go_simp <;> with_reducible rfl)⟩) hC0 ?_
    go_simp
    refine Rgt.take (i := 15) (x := .bool true) rfl rfl (by kernel_rfl) (by kernel_rfl) (by kernel_rfl) (by kernel_rfl) (fun _ _ _ h => h) (Or.inl ⟨by kernel_rfl, fun w hw => by (go_simp <;> with_reducible rfl)⟩) hC0 ?_
    go_simp
    refine Rgt.ready (i := 16) (by kernel_rfl) rfl (by kernel_rfl) (fun K hK => ?_)
    go_simp
    refine hK _ _ hC0 ?_
    clear hK K
    refine Rgt.done (by kernel_rfl) ?_ _
    have HB20 := Lib.hid (Kit.step HB1.out (Kit.step HB19.out (HC2.out _ hC0)))
    clear hC0
    go_wp2_with fail
    go_ret
    exact ⟨rfl, HB20.out⟩
  · subst hrk
    have hfz : f = List.replicate 32 0 := by rw [← HF.out]; unfold Da.fold13; rw [if_neg (by rw [HKF.out]; omega)]
    have hDZ : D = Z := by rw [← HD.out, hfz, HZ.out]
    have heq : ∀ W, (binOp .eql 38 (.agg Z) (.agg Z)).run Tryd.prog W = .ok (.bool true) W := fun W => by
      have := dgq_eql (List.replicate 32 0) (List.replicate 32 0) (by simp) (by simp) W
      rw [← HZ.out, beq_self_eq_true] at this
      exact this
    have hgd := dgq_guard
    have NU := num_errP A r (by omega) W9 (HE1.out.later HB19.out)
    rw [HEF.out] at NU
    have HNU := Lib.hid NU
    have HA9Z : Hid (W9.heap[p]? = some (.cells Z 38 (0, 0))) := Lib.hid (by rw [← hDZ]; exact HA9.out)
    have HDSZ : Hid ((Tryd.prog.info? 38).map (·.size) = some Z.size) := Lib.hid (by rw [← hDZ]; exact HDS.out)
    have hrr2 : ((r : Int) == (r : Int)) = true := by simp
    have h18 : (((r : Int) == (1 : Int)) = true ∧ decide ((r : Int) = 1) = true) ∨ ((((r : Int) == (1 : Int)) = false ∧ decide ((r : Int) = 1) = false) ∧ ((r : Int) == (8 : Int)) = true ∧ decide ((r : Int) = 8) = true) := by
      rcases hk1 with h | h
      · left; subst h; exact ⟨rfl, rfl⟩
      · right; subst h; exact ⟨⟨rfl, rfl⟩, rfl, rfl⟩
    have HDZ2 := Lib.hid hDZ
    have HFZ := Lib.hid hfz
    have HK10 := Lib.hid hk1
    clear NU hDZ hfz hk1
    rcases h18 with ⟨h1, h2⟩ | ⟨⟨h1, h2⟩, h3, h4⟩
    · go_upto_region 11 with fail
      apply wp_region_lit
      refine wpList_load_row rfl 38 (.tmp 5) rfl p rfl 38 Z (0, 0) _ HA9Z.out dg_under rfl HDSZ.out ?_
      go_wp2_with fail
      refine HNU.out.mono ?_
      rintro e W10 ⟨rfl, hb10⟩
      have HB20 := Lib.hid (Kit.step HB1.out (Kit.step HB19.out hb10))
      clear hb10
      go_wp2_with fail
      go_ret
      exact ⟨rfl, HB20.out⟩
    · go_upto_region 11 with fail
      apply wp_region_lit
      refine wpList_load_row rfl 38 (.tmp 5) rfl p rfl 38 Z (0, 0) _ HA9Z.out dg_under rfl HDSZ.out ?_
      go_wp2_with fail
      refine HNU.out.mono ?_
      rintro e W10 ⟨rfl, hb10⟩
      have HB20 := Lib.hid (Kit.step HB1.out (Kit.step HB19.out hb10))
      clear hb10
      go_wp2_with fail
      go_ret
      exact ⟨rfl, HB20.out⟩
end Go.Proofs.YtjcmihiajpgnjaaDoor
