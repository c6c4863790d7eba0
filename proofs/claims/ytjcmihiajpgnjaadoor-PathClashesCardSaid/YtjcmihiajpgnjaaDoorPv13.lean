/- PathClashes, walked. -/
import Derived.Test.YtjcmihiajpgnjaaDoorPu13
import Derived.Test.YtjcmihiajpgnjaaDoorPc13
namespace Go.Proofs.YtjcmihiajpgnjaaDoor
open Go.RowKit
attribute [local go_sem] Oper.semAt_some
set_option linter.unusedVariables false
set_option linter.unusedSimpArgs false
theorem eqg13 (A : Nat → Addr) (k j : Nat) (v : World) : (eqGuard .eql 27 (.tmp j) (.const .nilIface) (errP A k) .nilIface).run Tryd.prog v = .ok () v := by
  unfold errP
  by_cases h0 : k = 0
  · rw [if_pos h0]; rfl
  · rw [if_neg h0]; rfl
set_option maxRecDepth 100000 in
set_option maxHeartbeats 4000000 in
theorem pl13_any (bs : List (List UInt8)) (o : Option Addr) (n c : Nat) (hn : bs.length = n) (root leaf : List UInt8) (an ai : Int) (ol op : Option Addr) (cl cp : Nat) (ps : List (List UInt8)) (hr : root.length = 32) (A : Nat → Addr) (w : World)
    (hR : RbIs w o bs c) (hL : RowIs w ol (bytesV leaf) cl) (hP : DgIs w op ps cp) (hV : Cds w) (hVr : Rds w) (hE : E13 w A) :
    Calls Tryd.prog 5 #[.slice o n c, .agg (askL root an ai (.slice ol leaf.length cl) (.slice op ps.length cp)).toArray] w fun e w' => e = .returned (.bool true) ∧ Below w.heap.size w w' := by
  obtain ⟨g, hg⟩ : ∃ g, w.heap.size = g := ⟨_, rfl⟩
  obtain ⟨AL, hAL⟩ : ∃ AL, askL root an ai (.slice ol leaf.length cl) (.slice op ps.length cp) = AL := ⟨_, rfl⟩
  obtain ⟨W1, hW1⟩ : ∃ W1, w.alloc (.cells AL.toArray 43) = W1 := ⟨_, rfl⟩
  have hb1 : Below w.heap.size w W1 := by rw [← hW1]; exact new12 _ _
  have hk1 : AskAt W1 g root an ai (.slice ol leaf.length cl) (.slice op ps.length cp) := AskAt.of (T := 43) hr (by rw [hAL, ← hW1, ← hg]; exact Arr.made _ _ _)
  obtain ⟨L, hLe⟩ : ∃ L, leaf.length = L := ⟨_, rfl⟩
  obtain ⟨M, hM⟩ : ∃ M, ps.length = M := ⟨_, rfl⟩
  have hlL := hL.le
  have hlM := hP.le
  rw [bytesV_length] at hlL
  have hcl0 := hR.le.1
  have hca := hR.le.2
  rw [hn] at hcl0
  unfold maxLen at hca
  obtain ⟨AA, hAA⟩ : ∃ AA, AL.toArray = AA := ⟨_, rfl⟩
  rw [hAL, hAA]
  rw [hAA] at hW1
  have ALV := alive13_any W1 (hV.later hb1)
  have HALV := Lib.hid ALV
  have HG := Lib.hid hg
  have HW1 := Lib.hid hW1
  have HB1 := Lib.hid hb1
  have HK1 := Lib.hid hk1
  have HL := Lib.hid hLe
  have HM := Lib.hid hM
  have HN := Lib.hid hn
  have HR1 := Lib.hid (hR.later hb1)
  have HL1 := Lib.hid (hL.later hb1)
  have HP1 := Lib.hid (hP.later hb1)
  have HV1 := Lib.hid (hV.later hb1)
  have HVR1 := Lib.hid (hVr.later hb1)
  have HE1 := Lib.hid (hE.later hb1)
  have hen := eql_nil13
  have hgd := d32_guard
  clear ALV hg hW1 hb1 hk1 hLe hM hr hR hL hP hV hVr hE hAA hAL AL hlL hlM hn
  go_enter Tryd.func5, Tryd.ntmps5
  go_upto_region 1 with fail
  rw [HW1.out, HG.out]
  go_wp2_with fail
  refine HALV.out.mono ?_
  rintro e W2 ⟨rfl, hb2⟩
  have hk2 := HK1.out.later hb2
  rw [HL.out, HM.out] at hk2
  have HK2 := Lib.hid hk2
  have HB12 := Lib.hid hb2
  have HB2 := Lib.hid (Kit.step HB1.out hb2)
  have LG := long_any bs o n c HN.out 40 (by omega) W2 (HR1.out.later hb2)
  clear hb2 hk2 HALV
  by_cases hlg : Da.lng bs 40 = true
  · rw [hlg] at LG
    have HLG := Lib.hid LG
    clear LG hlg
    go_wp2_with fail
    refine HLG.out.mono ?_
    rintro e W3 ⟨rfl, rfl⟩
    go_wp2_with fail
    go_ret
    exact ⟨rfl, HB2.out⟩
  have hlg2 : Da.lng bs 40 = false := by simpa using hlg
  obtain ⟨hl40, hl200⟩ := Da.lng_not hlg2
  rw [hlg2] at LG
  rw [HN.out] at hl40
  have HLG := Lib.hid LG
  have HL2 := Lib.hid hl200
  clear LG hlg hlg2 hl200
  have hcl := HK2.out.cl
  have hcp := HK2.out.cp
  by_cases h200 : 200 < L
  · have hd1 : decide ((L : Int) > 200) = true := decide_eq_true (by omega)
    have hd2 : decide (200 < (L : Int)) = true := decide_eq_true (by omega)
    have H200 := Lib.hid h200
    clear h200
    go_wp2_with fail
    refine HLG.out.mono ?_
    rintro e W3 ⟨rfl, rfl⟩
    go_wp2_with fail
    go_ret
    exact ⟨rfl, HB2.out⟩
  have hd1 : decide ((L : Int) > 200) = false := decide_eq_false (by omega)
  have hd2 : decide (200 < (L : Int)) = false := decide_eq_false (by omega)
  by_cases h40 : 40 < M
  · have hd3 : decide ((M : Int) > 40) = true := decide_eq_true (by omega)
    have hd4 : decide (40 < (M : Int)) = true := decide_eq_true (by omega)
    have H200 := Lib.hid h200
    have H40 := Lib.hid h40
    clear h200 h40
    go_wp2_with fail
    refine HLG.out.mono ?_
    rintro e W3 ⟨rfl, rfl⟩
    go_wp2_with fail
    go_ret
    exact ⟨rfl, HB2.out⟩
  have hd3 : decide ((M : Int) > 40) = false := decide_eq_false (by omega)
  have hd4 : decide (40 < (M : Int)) = false := decide_eq_false (by omega)
  have DG := digs_any ps op M cp HM.out (by omega) W2 (HP1.out.later HB12.out)
  have HDG := Lib.hid DG
  have HLM := Lib.hid (show L ≤ 200 ∧ M ≤ 40 from ⟨by omega, by omega⟩)
  clear DG h200 h40
  go_wp2_with fail
  refine HLG.out.mono ?_
  rintro e W3 ⟨rfl, rfl⟩
  rename World => W2
  clear HLG
  go_wp2_with fail
  refine HDG.out.mono ?_
  rintro e W3 ⟨o3, c3, rfl, hdg3, hb3⟩
  clear hcl hcp HDG hd1 hd2 hd3 hd4
  have HB13 := Lib.hid (Kit.step HB12.out hb3)
  have HK3 := Lib.hid (HK2.out.later hb3)
  have HDG3 := Lib.hid hdg3
  have CLA := pclash_any bs o n c ai HN.out leaf ol cl ps o3 M c3 A W3 (HR1.out.later HB13.out) (HL1.out.later HB13.out) hdg3 (HV1.out.later HB13.out) (HE1.out.later HB13.out) (Da.len_of HL2.out 8900 (by omega)) (by have := HL.out; have := HLM.out; omega) HM.out (by have := HLM.out; omega) (by omega)
  rw [HL.out] at CLA
  have HCLA := Lib.hid CLA
  clear hb3 HK2 CLA hdg3
  have hci := HK3.out.ci
  have hcl := HK3.out.cl
  go_wp2_with fail
  refine HCLA.out.mono ?_
  rintro e W4 ⟨hb4, h4⟩
  clear hci hcl HCLA
  obtain ⟨X, Y, bb, rfl, hXY⟩ : ∃ (X Y : Value) (bb : Bool), e = .returned (.tuple #[X, Y, .bool bb]) ∧ ((bb = false ∧ X = .slice none 0 0 ∧ Y = .slice none 0 0 ∧ ¬ Da.isClash bs ai leaf ps) ∨
      (bb = true ∧ Da.isClash bs ai leaf ps ∧ ∃ (x y : List UInt8) (o1 : Option Addr) (c1 : Nat) (o2 : Option Addr) (c2 : Nat), X = .slice o1 x.length c1 ∧ Y = .slice o2 y.length c2 ∧ RowIs W4 o1 (bytesV x) c1 ∧ RowIs W4 o2 (bytesV y) c2 ∧ x ≠ y ∧ Da.sha x = Da.sha y ∧ x.length ≤ 8901 ∧ y.length ≤ 8901)) := by
    rcases h4 with ⟨h1, h2⟩ | ⟨h1, x, y, o1, c1, o2, c2, h2, h3⟩
    · exact ⟨_, _, _, h1, .inl ⟨rfl, rfl, rfl, h2⟩⟩
    · exact ⟨_, _, _, h2, .inr ⟨rfl, h1, x, y, o1, c1, o2, c2, rfl, rfl, h3⟩⟩
  have HXY := Lib.hid hXY
  have HB14 := Lib.hid (Kit.step HB13.out hb4)
  have HB4 := Lib.hid (Kit.step HB1.out HB14.out)
  have HK4 := Lib.hid (HK3.out.later hb4)
  have HDG4 := Lib.hid (HDG3.out.later hb4)
  clear hb4 h4 hXY HK3 HDG3
  have hci := HK4.out.ci
  by_cases hbad : ¬ (0 ≤ ai ∧ ai < (n : Int))
  · obtain ⟨rfl, rfl, rfl, _⟩ : bb = false ∧ X = .slice none 0 0 ∧ Y = .slice none 0 0 ∧ ¬ Da.isClash bs ai leaf ps := by
      rcases HXY.out with h | ⟨_, h, _⟩
      · exact h
      · exact absurd (show 0 ≤ ai ∧ ai < (n : Int) from ⟨h.1.1, by have := h.1.2.1; rw [HN.out] at this; exact this⟩) hbad
    by_cases h0 : ai < 0
    · have hd1 : decide (ai < 0) = true := decide_eq_true h0
      have H0 := Lib.hid h0
      have HBAD := Lib.hid hbad
      clear h0 hbad
      go_wp2_with fail
      go_ret
      exact ⟨rfl, HB4.out⟩
    · have hd1 : decide (ai < 0) = false := decide_eq_false h0
      have hd2 : decide (ai ≥ (n : Int)) = true := decide_eq_true (by omega)
      have hd3 : decide ((n : Int) ≤ ai) = true := decide_eq_true (by omega)
      have H0 := Lib.hid h0
      have HBAD := Lib.hid hbad
      clear h0 hbad
      go_wp2_with fail
      go_ret
      exact ⟨rfl, HB4.out⟩
  obtain ⟨i, rfl⟩ : ∃ k : Nat, ai = (k : Int) := ⟨ai.toNat, by omega⟩
  have hin : i < n := by omega
  have hd1 : decide ((i : Int) < 0) = false := decide_eq_false (by omega)
  have hd2 : decide ((i : Int) ≥ (n : Int)) = false := decide_eq_false (by omega)
  have hd3 : decide ((n : Int) ≤ (i : Int)) = false := decide_eq_false (by omega)
  have hd4 : decide (n ≤ i) = false := decide_eq_false (by omega)
  obtain ⟨k, hk⟩ : ∃ k, Da.chk13 (Da.mth bs) (n : Int) (i : Int) leaf ps = k := ⟨_, rfl⟩
  have hiff : Da.isClash bs (i : Int) leaf ps ↔ leaf ≠ bi bs i ∧ k = 0 := by
    unfold Da.isClash
    rw [Int.toNat_natCast, HN.out, hk]
    exact ⟨fun h => h.2, fun h => ⟨by omega, h⟩⟩
  obtain ⟨bl, offl, pl, ql, rfl, hlbl, hlcell, hlrow⟩ := (HR1.out.later HB14.out).cell i (by rw [HN.out]; exact hin)
  obtain ⟨EK, hEK⟩ : ∃ EK, errP A k = EK := ⟨_, rfl⟩
  obtain ⟨RA, hRA⟩ : ∃ RA, (bytesV (Da.mth bs)).toArray = RA := ⟨_, rfl⟩
  have heq : ∀ v, (binOp .eql 27 EK .nilIface).run Tryd.prog v = .ok (.bool (decide (k = 0))) v := fun v => by
    rw [← hEK]
    unfold errP
    by_cases h0 : k = 0
    · rw [if_pos h0, decide_eq_true h0]; exact eql_nil13 v
    · rw [if_neg h0, decide_eq_false h0]; rfl
  have HEG : Hid (∀ v, (eqGuard .eql 27 (.tmp 71) (.const .nilIface) EK .nilIface).run Tryd.prog v = .ok () v) := Lib.hid fun v => by rw [← hEK]; exact eqg13 A k 71 v
  have RT : ∀ v, Below W4.heap.size W4 v → Calls Tryd.prog 18 #[.slice (some ⟨bl, offl, none⟩) n c] v fun e w' => e = .returned (.agg RA) ∧ Below W4.heap.size W4 w' := fun v hv => by
    rw [← hRA]
    exact (rroot_any bs _ n c HN.out v ((HR1.out.later HB14.out).later hv) ((HVR1.out.later HB14.out).later hv) (by omega) (Da.len_of HL2.out 90000 (by omega))).mono fun e w' h => ⟨h.1, Kit.step hv h.2⟩
  have CK : ∀ v, Below W4.heap.size W4 v → Calls Tryd.prog 17 #[.agg RA, .int .i64 (n : Int), .int .i64 (i : Int), .slice ol L cl, .slice o3 M c3] v fun e w' => e = .returned EK ∧ Below W4.heap.size W4 w' := fun v hv => by
    have := pcheck_all (Da.mth bs) (Da.mth_length bs) leaf ol cl ps o3 c3 (n : Int) (i : Int) (by have := HL.out; have := HLM.out; omega) (by have := HM.out; have := HLM.out; omega) A v ((HL1.out.later HB14.out).later hv) (HDG4.out.later hv) ((HV1.out.later HB14.out).later hv) ((HE1.out.later HB14.out).later hv)
    rw [hk, hEK, hRA, HL.out, HM.out] at this
    exact this.mono fun e w' h => ⟨h.1, Kit.step hv h.2⟩
  have HRT := Lib.hid RT
  have HCK := Lib.hid CK
  have HIFF := Lib.hid hiff
  have HLC := Lib.hid hlcell
  have HLB := Lib.hid hlbl
  have HLR := Lib.hid hlrow
  have HEQ := Lib.hid heq
  have HK := Lib.hid hk
  have HBAD := Lib.hid hbad
  clear RT CK hiff hlcell hlbl hlrow heq hk hEK hRA hbad
  obtain ⟨C, hC⟩ : ∃ C : World → Prop, (fun v => Below W4.heap.size W4 v) = C := ⟨_, rfl⟩
  have HC1 : Hid (∀ v, Below W4.heap.size W4 v → C v) := Lib.hid fun v hv => by rw [← hC]; exact hv
  have HC2 : Hid (∀ v, C v → Below W4.heap.size W4 v) := Lib.hid fun v hv => by rw [← hC] at hv; exact hv
  have hC0 : C W4.drew := HC1.out _ (Kit.dn' W4 1)
  clear hC
  have HKA : Hid (∀ v, C v → AskAt v g root an (i : Int) (.slice ol L cl) (.slice op M cp)) := Lib.hid fun v hv => HK4.out.later (HC2.out v hv)
  go_upto_region 9 with fail
  refine Rgt.region C (fun _ => false) (by kernel_rfl) ?_
  refine Rgt.take (i := 0) (x := .slice (some ⟨bl, offl, none⟩) n c) rfl rfl (by kernel_rfl) (by kernel_rfl) (by kernel_rfl) (by kernel_rfl) (fun _ _ _ h => h) (Or.inl ⟨by kernel_rfl, fun w hw => by (go_simp <;> with_reducible rfl)⟩) hC0 ?_
  go_simp
  refine Rgt.take (i := 2) (x := .slice (some ⟨bl, offl, none⟩) n c) rfl rfl (by kernel_rfl) (by kernel_rfl) (by kernel_rfl) (by kernel_rfl) (fun _ _ _ h => h) (Or.inl ⟨by kernel_rfl, fun w hw => by (go_simp <;> with_reducible rfl)⟩) hC0 ?_
  go_simp
  refine Rgt.take (i := 3) (x := .int .i64 (n : Int)) rfl rfl (by kernel_rfl) (by kernel_rfl) (by kernel_rfl) (by kernel_rfl) (fun _ _ _ h => h) (Or.inl ⟨by kernel_rfl, fun w hw => by (go_simp <;> with_reducible rfl)⟩) hC0 ?_
  go_simp
  refine Rgt.take (i := 4) (x := .pointer (some ⟨g, 33, none⟩)) rfl rfl (by kernel_rfl) (by kernel_rfl) (by kernel_rfl) (by kernel_rfl) (fun _ _ _ h => h) (Or.inl ⟨by kernel_rfl, fun w hw => by (go_simp <;> with_reducible rfl)⟩) hC0 ?_
  go_simp
  refine Rgt.take (i := 5) (x := .int .i64 (i : Int)) rfl rfl (by kernel_rfl) (by kernel_rfl) (by kernel_rfl) (by kernel_rfl) (fun _ _ _ h => h) (Or.inl ⟨by kernel_rfl, fun w hw => by have hc := (HKA.out w hw).ci; (go_simp <;> with_reducible rfl)⟩) hC0 ?_
  go_simp
  refine Rgt.take (i := 6) (x := .pointer (some ⟨g, 34, none⟩)) rfl rfl (by kernel_rfl) (by kernel_rfl) (by kernel_rfl) (by kernel_rfl) (fun _ _ _ h => h) (Or.inl ⟨by kernel_rfl, fun w hw => by (go_simp <;> with_reducible rfl)⟩) hC0 ?_
  go_simp
  refine Rgt.take (i := 7) (x := .slice ol L cl) rfl rfl (by kernel_rfl) (by kernel_rfl) (by kernel_rfl) (by kernel_rfl) (fun _ _ _ h => h) (Or.inl ⟨by kernel_rfl, fun w hw => by have hc := (HKA.out w hw).cl; (go_simp <;> with_reducible rfl)⟩) hC0 ?_
  go_simp
  refine Rgt.take (i := 8) (x := .slice o3 M c3) rfl rfl (by kernel_rfl) (by kernel_rfl) (by kernel_rfl) (by kernel_rfl) (fun _ _ _ h => h) (Or.inl ⟨by kernel_rfl, fun w hw => by (go_simp <;> with_reducible rfl)⟩) hC0 ?_
  go_simp
  refine Rgt.ready (i := 1) (by kernel_rfl) rfl (by kernel_rfl) (fun K hK => ?_)
  go_simp
  refine (HRT.out _ (HC2.out _ hC0)).mono ?_
  rintro e Y1 ⟨rfl, hb⟩
  have hC1 := HC1.out _ hb
  clear hb
  refine hK _ _ hC1 ?_
  clear hK K hC0
  rename C _ => hC0
  refine Rgt.ready (i := 9) (by kernel_rfl) rfl (by kernel_rfl) (fun K hK => ?_)
  go_simp
  refine (HCK.out _ (HC2.out _ hC0)).mono ?_
  rintro e Y1 ⟨rfl, hb⟩
  have hC1 := HC1.out _ hb
  clear hb
  refine hK _ _ hC1 ?_
  clear hK K hC0
  rename C _ => hC0
  refine Rgt.take (i := 10) (x := .bool (decide (k = 0))) rfl rfl (by kernel_rfl) (by kernel_rfl) (by kernel_rfl) (by kernel_rfl) (fun _ _ _ h => h) (Or.inl ⟨by kernel_rfl, fun w hw => by have hc := HEQ.out w; have hc2 := HEG.out w; (go_simp <;> with_reducible rfl)⟩) hC0 ?_
  go_simp
  refine Rgt.ready (i := 11) (by kernel_rfl) rfl (by kernel_rfl) (fun K hK => ?_)
  go_simp
  refine hK _ _ hC0 ?_
  clear hK K
  refine Rgt.done (by kernel_rfl) ?_ _
  rename World => W5
  have HB45 := Lib.hid (HC2.out _ hC0)
  have HK5 := Lib.hid (HK4.out.later HB45.out)
  have HB5 := Lib.hid (Kit.step HB4.out HB45.out)
  clear hC0 HC1 HC2 HKA C HRT HCK hci hd1 hd2 hd3 hd4
  have ANS : Hid ((bb = false ∧ X = .slice none 0 0 ∧ Y = .slice none 0 0) ∨ k = 0 ∧ leaf ≠ bi bs i) := Lib.hid (by
    rcases HXY.out with ⟨h1, h2, h3, _⟩ | ⟨_, h, _⟩
    · exact .inl ⟨h1, h2, h3⟩
    · exact .inr ⟨(HIFF.out.1 h).2, (HIFF.out.1 h).1⟩)
  by_cases hk0 : k = 0
  rotate_left
  · obtain ⟨rfl, rfl, rfl⟩ : bb = false ∧ X = .slice none 0 0 ∧ Y = .slice none 0 0 := by
      rcases ANS.out with h | h
      · exact h
      · exact absurd h.1 hk0
    rw [decide_eq_false hk0]
    have HK0 := Lib.hid hk0
    clear hk0 ANS
    obtain ⟨C, hC⟩ : ∃ C : World → Prop, (fun v => Below W5.heap.size W5 v) = C := ⟨_, rfl⟩
    have HC1 : Hid (∀ v, Below W5.heap.size W5 v → C v) := Lib.hid fun v hv => by rw [← hC]; exact hv
    have HC2 : Hid (∀ v, C v → Below W5.heap.size W5 v) := Lib.hid fun v hv => by rw [← hC] at hv; exact hv
    have hC0 : C W5.drew := HC1.out _ (Kit.dn' W5 1)
    clear hC
    go_upto_region 10 with fail
    refine Rgt.region C (fun _ => false) (by kernel_rfl) ?_
    refine Rgt.take (i := 0) (x := .bool false) rfl rfl (by kernel_rfl) (by kernel_rfl) (by kernel_rfl) (by kernel_rfl) (fun _ _ _ h => h) (Or.inl ⟨by kernel_rfl, fun w hw => by (go_simp <;> with_reducible rfl)⟩) hC0 ?_
    go_simp
    refine Rgt.take (i := 1) (x := .bool true) rfl rfl (by kernel_rfl) (by kernel_rfl) (by kernel_rfl) (by kernel_rfl) (fun _ _ _ h => h) (Or.inl ⟨by kernel_rfl, fun w hw => by (go_simp <;> with_reducible rfl)⟩) hC0 ?_
    go_simp
    refine Rgt.take (i := 2) (x := .bool true) rfl rfl (by kernel_rfl) (by kernel_rfl) (by kernel_rfl) (by kernel_rfl) (fun _ _ _ h => h) (Or.inl ⟨by kernel_rfl, fun w hw => by (go_simp <;> with_reducible rfl)⟩) hC0 ?_
    go_simp
    refine Rgt.take (i := 3) (x := undef) rfl rfl (by kernel_rfl) (by kernel_rfl) (by kernel_rfl) (by kernel_rfl) (fun _ _ _ h => h) (Or.inr ⟨by kernel_rfl, rfl⟩) hC0 ?_
    go_simp
    refine Rgt.take (i := 4) (x := undef) rfl rfl (by kernel_rfl) (by kernel_rfl) (by kernel_rfl) (by kernel_rfl) (fun _ _ _ h => h) (Or.inr ⟨by kernel_rfl, rfl⟩) hC0 ?_
    go_simp
    refine Rgt.take (i := 5) (x := undef) rfl rfl (by kernel_rfl) (by kernel_rfl) (by kernel_rfl) (by kernel_rfl) (fun _ _ _ h => h) (Or.inr ⟨by kernel_rfl, rfl⟩) hC0 ?_
    go_simp
    refine Rgt.take (i := 6) (x := undef) rfl rfl (by kernel_rfl) (by kernel_rfl) (by kernel_rfl) (by kernel_rfl) (fun _ _ _ h => h) (Or.inr ⟨by kernel_rfl, rfl⟩) hC0 ?_
    go_simp
    refine Rgt.take (i := 7) (x := undef) rfl rfl (by kernel_rfl) (by kernel_rfl) (by kernel_rfl) (by kernel_rfl) (fun _ _ _ h => h) (Or.inr ⟨by kernel_rfl, rfl⟩) hC0 ?_
    go_simp
    refine Rgt.take (i := 8) (x := undef) rfl rfl (by kernel_rfl) (by kernel_rfl) (by kernel_rfl) (by kernel_rfl) (fun _ _ _ h => h) (Or.inr ⟨by kernel_rfl, rfl⟩) hC0 ?_
    go_simp
    refine Rgt.take (i := 9) (x := undef) rfl rfl (by kernel_rfl) (by kernel_rfl) (by kernel_rfl) (by kernel_rfl) (fun _ _ _ h => h) (Or.inr ⟨by kernel_rfl, rfl⟩) hC0 ?_
    go_simp
    refine Rgt.take (i := 10) (x := undef) rfl rfl (by kernel_rfl) (by kernel_rfl) (by kernel_rfl) (by kernel_rfl) (fun _ _ _ h => h) (Or.inr ⟨by kernel_rfl, rfl⟩) hC0 ?_
    go_simp
    refine Rgt.take (i := 11) (x := undef) rfl rfl (by kernel_rfl) (by kernel_rfl) (by kernel_rfl) (by kernel_rfl) (fun _ _ _ h => h) (Or.inr ⟨by kernel_rfl, rfl⟩) hC0 ?_
    go_simp
    refine Rgt.take (i := 12) (x := undef) rfl rfl (by kernel_rfl) (by kernel_rfl) (by kernel_rfl) (by kernel_rfl) (fun _ _ _ h => h) (Or.inr ⟨by kernel_rfl, rfl⟩) hC0 ?_
    go_simp
    refine Rgt.take (i := 13) (x := .bool true) rfl rfl (by kernel_rfl) (by kernel_rfl) (by kernel_rfl) (by kernel_rfl) (fun _ _ _ h => h) (Or.inl ⟨by kernel_rfl, fun w hw => by (go_simp <;> with_reducible rfl)⟩) hC0 ?_
    go_simp
    refine Rgt.done (by kernel_rfl) ?_ _
    have HB6 := Lib.hid (Kit.step HB5.out (HC2.out _ hC0))
    clear hC0 HC1 HC2 C
    go_wp2_with fail
    go_ret
    exact ⟨rfl, HB6.out⟩
  have hdk : decide (k = 0) = true := decide_eq_true hk0
  rw [hdk]
  obtain ⟨SA, hSA⟩ : ∃ SA, (⟨leaf.toArray⟩ : ByteArray) = SA := ⟨_, rfl⟩
  obtain ⟨SB, hSB⟩ : ∃ SB, (⟨(bi bs i).toArray⟩ : ByteArray) = SB := ⟨_, rfl⟩
  have hq1 := str_beq13 (bi bs i) leaf
  rw [hSA, hSB] at hq1
  obtain ⟨l1, hl1⟩ : ∃ l1, (bi bs i).length = l1 := ⟨_, rfl⟩
  have HKL : Hid (∀ v, Below W5.heap.size W5 v → (convert 40 9 (.slice ol L cl)).run Tryd.prog v = .ok (.string SA) v) := Lib.hid fun v hv => by
    have := run_string (HL1.out.later (Kit.step (Kit.step HB14.out HB45.out) hv)) Tryd.underlying40 Tryd.underlying5 Tryd.underlying9 cl
    rw [HL.out, hSA] at this
    exact this
  have HKB : Hid (∀ v, Below W5.heap.size W5 v → (convert 40 9 (.slice pl l1 ql)).run Tryd.prog v = .ok (.string SB) v) := Lib.hid fun v hv => by
    have := run_string (HLR.out.later (Kit.step HB45.out hv)) Tryd.underlying40 Tryd.underlying5 Tryd.underlying9 ql
    rw [hl1, hSB] at this
    exact this
  have HLC5 : Hid (∀ v, Below W5.heap.size W5 v → v.cell? ⟨bl, offl + i, none⟩ = some (.slice pl l1 ql)) := Lib.hid fun v hv => by
    rw [(Kit.step HB45.out hv).cell (p := ⟨bl, offl + i, none⟩) HLB.out, HLC.out, hl1]
  have HK0 := Lib.hid hk0
  clear hSA hSB hl1 hk0 hdk
  obtain ⟨C, hC⟩ : ∃ C : World → Prop, (fun v => Below W5.heap.size W5 v) = C := ⟨_, rfl⟩
  have HC1 : Hid (∀ v, Below W5.heap.size W5 v → C v) := Lib.hid fun v hv => by rw [← hC]; exact hv
  have HC2 : Hid (∀ v, C v → Below W5.heap.size W5 v) := Lib.hid fun v hv => by rw [← hC] at hv; exact hv
  have hC0 : C W5.drew := HC1.out _ (Kit.dn' W5 1)
  clear hC
  have HKA : Hid (∀ v, C v → AskAt v g root an (i : Int) (.slice ol L cl) (.slice op M cp)) := Lib.hid fun v hv => HK5.out.later (HC2.out v hv)
  by_cases hq : leaf = bi bs i
  · obtain ⟨rfl, rfl, rfl⟩ : bb = false ∧ X = .slice none 0 0 ∧ Y = .slice none 0 0 := by
      rcases ANS.out with h | h
      · exact h
      · exact absurd hq h.2
    have hqb : (bi bs i == leaf) = true := by rw [hq]; exact beq_self_eq_true _
    rw [hqb] at hq1
    have HQ := Lib.hid hq
    clear hqb hq ANS
    go_upto_region 10 with fail
    refine Rgt.region C (fun _ => false) (by kernel_rfl) ?_
    refine Rgt.take (i := 0) (x := .bool true) rfl rfl (by kernel_rfl) (by kernel_rfl) (by kernel_rfl) (by kernel_rfl) (fun _ _ _ h => h) (Or.inl ⟨by kernel_rfl, fun w hw => by (go_simp <;> with_reducible rfl)⟩) hC0 ?_
    go_simp
    refine Rgt.take (i := 1) (x := .bool false) rfl rfl (by kernel_rfl) (by kernel_rfl) (by kernel_rfl) (by kernel_rfl) (fun _ _ _ h => h) (Or.inl ⟨by kernel_rfl, fun w hw => by (go_simp <;> with_reducible rfl)⟩) hC0 ?_
    go_simp
    refine Rgt.take (i := 2) (x := .bool false) rfl rfl (by kernel_rfl) (by kernel_rfl) (by kernel_rfl) (by kernel_rfl) (fun _ _ _ h => h) (Or.inl ⟨by kernel_rfl, fun w hw => by (go_simp <;> with_reducible rfl)⟩) hC0 ?_
    go_simp
    refine Rgt.take (i := 3) (x := .slice (some ⟨bl, offl, none⟩) n c) rfl rfl (by kernel_rfl) (by kernel_rfl) (by kernel_rfl) (by kernel_rfl) (fun _ _ _ h => h) (Or.inl ⟨by kernel_rfl, fun w hw => by (go_simp <;> with_reducible rfl)⟩) hC0 ?_
    go_simp
    refine Rgt.take (i := 4) (x := .pointer (some ⟨g, 33, none⟩)) rfl rfl (by kernel_rfl) (by kernel_rfl) (by kernel_rfl) (by kernel_rfl) (fun _ _ _ h => h) (Or.inl ⟨by kernel_rfl, fun w hw => by (go_simp <;> with_reducible rfl)⟩) hC0 ?_
    go_simp
    refine Rgt.take (i := 5) (x := .int .i64 (i : Int)) rfl rfl (by kernel_rfl) (by kernel_rfl) (by kernel_rfl) (by kernel_rfl) (fun _ _ _ h => h) (Or.inl ⟨by kernel_rfl, fun w hw => by have hc := (HKA.out w hw).ci; (go_simp <;> with_reducible rfl)⟩) hC0 ?_
    go_simp
    refine Rgt.take (i := 6) (x := .pointer (some ⟨bl, offl + i, none⟩)) rfl rfl (by kernel_rfl) (by kernel_rfl) (by kernel_rfl) (by kernel_rfl) (fun _ _ _ h => h) (Or.inl ⟨by kernel_rfl, fun w hw => by (go_simp <;> with_reducible rfl)⟩) hC0 ?_
    go_simp
    refine Rgt.take (i := 7) (x := .slice pl l1 ql) rfl rfl (by kernel_rfl) (by kernel_rfl) (by kernel_rfl) (by kernel_rfl) (fun _ _ _ h => h) (Or.inl ⟨by kernel_rfl, fun w hw => by have hc := HLC5.out w (HC2.out w hw); (go_simp <;> with_reducible rfl)⟩) hC0 ?_
    go_simp
    refine Rgt.take (i := 8) (x := .string SB) rfl rfl (by kernel_rfl) (by kernel_rfl) (by kernel_rfl) (by kernel_rfl) (fun _ _ _ h => h) (Or.inl ⟨by kernel_rfl, fun w hw => St.exec_conv rfl (HKB.out w (HC2.out w hw))⟩) hC0 ?_
    go_simp
    refine Rgt.take (i := 9) (x := .pointer (some ⟨g, 34, none⟩)) rfl rfl (by kernel_rfl) (by kernel_rfl) (by kernel_rfl) (by kernel_rfl) (fun _ _ _ h => h) (Or.inl ⟨by kernel_rfl, fun w hw => by (go_simp <;> with_reducible rfl)⟩) hC0 ?_
    go_simp
    refine Rgt.take (i := 10) (x := .slice ol L cl) rfl rfl (by kernel_rfl) (by kernel_rfl) (by kernel_rfl) (by kernel_rfl) (fun _ _ _ h => h) (Or.inl ⟨by kernel_rfl, fun w hw => by have hc := (HKA.out w hw).cl; (go_simp <;> with_reducible rfl)⟩) hC0 ?_
    go_simp
    refine Rgt.take (i := 11) (x := .string SA) rfl rfl (by kernel_rfl) (by kernel_rfl) (by kernel_rfl) (by kernel_rfl) (fun _ _ _ h => h) (Or.inl ⟨by kernel_rfl, fun w hw => St.exec_conv rfl (HKL.out w (HC2.out w hw))⟩) hC0 ?_
    go_simp
    refine Rgt.take (i := 12) (x := .bool true) rfl rfl (by kernel_rfl) (by kernel_rfl) (by kernel_rfl) (by kernel_rfl) (fun _ _ _ h => h) (Or.inl ⟨by kernel_rfl, fun w hw => by (go_simp <;> with_reducible rfl)⟩) hC0 ?_
    go_simp
    refine Rgt.take (i := 13) (x := .bool true) rfl rfl (by kernel_rfl) (by kernel_rfl) (by kernel_rfl) (by kernel_rfl) (fun _ _ _ h => h) (Or.inl ⟨by kernel_rfl, fun w hw => by (go_simp <;> with_reducible rfl)⟩) hC0 ?_
    go_simp
    refine Rgt.done (by kernel_rfl) ?_ _
    have HB56 := Lib.hid (HC2.out _ hC0)
    have HB6 := Lib.hid (Kit.step HB5.out HB56.out)
    clear hC0 HC1 HC2 C HKA
    go_wp2_with fail
    go_ret
    exact ⟨rfl, HB6.out⟩
  obtain ⟨rfl, _, x, y, o1, c1, o2, c2, rfl, rfl, hx, hy, hne, hsh, hxl, hyl⟩ : bb = true ∧ Da.isClash bs (i : Int) leaf ps ∧ ∃ (x y : List UInt8) (o1 : Option Addr) (c1 : Nat) (o2 : Option Addr) (c2 : Nat), X = .slice o1 x.length c1 ∧ Y = .slice o2 y.length c2 ∧ RowIs W4 o1 (bytesV x) c1 ∧ RowIs W4 o2 (bytesV y) c2 ∧ x ≠ y ∧ Da.sha x = Da.sha y ∧ x.length ≤ 8901 ∧ y.length ≤ 8901 := by
    rcases HXY.out with ⟨_, _, _, h⟩ | h
    · exact absurd (HIFF.out.2 ⟨hq, HK0.out⟩) h
    · exact h
  have hqb : (bi bs i == leaf) = false := by
    rw [beq_eq_false_iff_ne]
    exact fun h => hq h.symm
  rw [hqb] at hq1
  obtain ⟨xl, hxe⟩ : ∃ z, x.length = z := ⟨_, rfl⟩
  obtain ⟨yl, hye⟩ : ∃ z, y.length = z := ⟨_, rfl⟩
  obtain ⟨SX, hSX⟩ : ∃ SX, (⟨x.toArray⟩ : ByteArray) = SX := ⟨_, rfl⟩
  obtain ⟨SY, hSY⟩ : ∃ SY, (⟨y.toArray⟩ : ByteArray) = SY := ⟨_, rfl⟩
  obtain ⟨D, hD⟩ : ∃ D, (bytesV (Da.sha y)).toArray = D := ⟨_, rfl⟩
  have hq2 := str_beq13 x y
  rw [hSX, hSY, show (x == y) = false by rw [beq_eq_false_iff_ne]; exact hne] at hq2
  have hqq : ∀ v, (binOp .eql 37 (.agg D) (.agg D)).run Tryd.prog v = .ok (.bool true) v := fun v => by
    have := d32_eql (Da.sha y) (Da.sha y) (Da.sha_length y) (Da.sha_length y) v
    rw [hD, beq_self_eq_true] at this
    exact this
  have HQ := Lib.hid hq
  have HX := Lib.hid hx
  have HY := Lib.hid hy
  have HXL := Lib.hid (show x.length ≤ 100000 ∧ y.length ≤ 100000 from ⟨by omega, by omega⟩)
  have HXE := Lib.hid hxe
  have HYE := Lib.hid hye
  have HSX := Lib.hid hSX
  have HSY := Lib.hid hSY
  have HSH := Lib.hid (show (bytesV (Da.sha x)).toArray = D ∧ (bytesV (Da.sha y)).toArray = D from ⟨by rw [hsh]; exact hD, hD⟩)
  rw [hxe, hye]
  clear hqb hq hx hy hxl hyl hne hsh hxe hye hSX hSY hD ANS
  go_upto_region 10 with fail
  refine Rgt.region C (fun _ => false) (by kernel_rfl) ?_
  refine Rgt.take (i := 0) (x := .bool true) rfl rfl (by kernel_rfl) (by kernel_rfl) (by kernel_rfl) (by kernel_rfl) (fun _ _ _ h => h) (Or.inl ⟨by kernel_rfl, fun w hw => by (go_simp <;> with_reducible rfl)⟩) hC0 ?_
  go_simp
  refine Rgt.take (i := 1) (x := .bool false) rfl rfl (by kernel_rfl) (by kernel_rfl) (by kernel_rfl) (by kernel_rfl) (fun _ _ _ h => h) (Or.inl ⟨by kernel_rfl, fun w hw => by (go_simp <;> with_reducible rfl)⟩) hC0 ?_
  go_simp
  refine Rgt.take (i := 2) (x := .bool false) rfl rfl (by kernel_rfl) (by kernel_rfl) (by kernel_rfl) (by kernel_rfl) (fun _ _ _ h => h) (Or.inl ⟨by kernel_rfl, fun w hw => by (go_simp <;> with_reducible rfl)⟩) hC0 ?_
  go_simp
  refine Rgt.take (i := 3) (x := .slice (some ⟨bl, offl, none⟩) n c) rfl rfl (by kernel_rfl) (by kernel_rfl) (by kernel_rfl) (by kernel_rfl) (fun _ _ _ h => h) (Or.inl ⟨by kernel_rfl, fun w hw => by (go_simp <;> with_reducible rfl)⟩) hC0 ?_
  go_simp
  refine Rgt.take (i := 4) (x := .pointer (some ⟨g, 33, none⟩)) rfl rfl (by kernel_rfl) (by kernel_rfl) (by kernel_rfl) (by kernel_rfl) (fun _ _ _ h => h) (Or.inl ⟨by kernel_rfl, fun w hw => by (go_simp <;> with_reducible rfl)⟩) hC0 ?_
  go_simp
  refine Rgt.take (i := 5) (x := .int .i64 (i : Int)) rfl rfl (by kernel_rfl) (by kernel_rfl) (by kernel_rfl) (by kernel_rfl) (fun _ _ _ h => h) (Or.inl ⟨by kernel_rfl, fun w hw => by have hc := (HKA.out w hw).ci; (go_simp <;> with_reducible rfl)⟩) hC0 ?_
  go_simp
  refine Rgt.take (i := 6) (x := .pointer (some ⟨bl, offl + i, none⟩)) rfl rfl (by kernel_rfl) (by kernel_rfl) (by kernel_rfl) (by kernel_rfl) (fun _ _ _ h => h) (Or.inl ⟨by kernel_rfl, fun w hw => by (go_simp <;> with_reducible rfl)⟩) hC0 ?_
  go_simp
  refine Rgt.take (i := 7) (x := .slice pl l1 ql) rfl rfl (by kernel_rfl) (by kernel_rfl) (by kernel_rfl) (by kernel_rfl) (fun _ _ _ h => h) (Or.inl ⟨by kernel_rfl, fun w hw => by have hc := HLC5.out w (HC2.out w hw); (go_simp <;> with_reducible rfl)⟩) hC0 ?_
  go_simp
  refine Rgt.take (i := 8) (x := .string SB) rfl rfl (by kernel_rfl) (by kernel_rfl) (by kernel_rfl) (by kernel_rfl) (fun _ _ _ h => h) (Or.inl ⟨by kernel_rfl, fun w hw => St.exec_conv rfl (HKB.out w (HC2.out w hw))⟩) hC0 ?_
  go_simp
  refine Rgt.take (i := 9) (x := .pointer (some ⟨g, 34, none⟩)) rfl rfl (by kernel_rfl) (by kernel_rfl) (by kernel_rfl) (by kernel_rfl) (fun _ _ _ h => h) (Or.inl ⟨by kernel_rfl, fun w hw => by (go_simp <;> with_reducible rfl)⟩) hC0 ?_
  go_simp
  refine Rgt.take (i := 10) (x := .slice ol L cl) rfl rfl (by kernel_rfl) (by kernel_rfl) (by kernel_rfl) (by kernel_rfl) (fun _ _ _ h => h) (Or.inl ⟨by kernel_rfl, fun w hw => by have hc := (HKA.out w hw).cl; (go_simp <;> with_reducible rfl)⟩) hC0 ?_
  go_simp
  refine Rgt.take (i := 11) (x := .string SA) rfl rfl (by kernel_rfl) (by kernel_rfl) (by kernel_rfl) (by kernel_rfl) (fun _ _ _ h => h) (Or.inl ⟨by kernel_rfl, fun w hw => St.exec_conv rfl (HKL.out w (HC2.out w hw))⟩) hC0 ?_
  go_simp
  refine Rgt.take (i := 12) (x := .bool false) rfl rfl (by kernel_rfl) (by kernel_rfl) (by kernel_rfl) (by kernel_rfl) (fun _ _ _ h => h) (Or.inl ⟨by kernel_rfl, fun w hw => by (go_simp <;> with_reducible rfl)⟩) hC0 ?_
  go_simp
  refine Rgt.take (i := 13) (x := .bool false) rfl rfl (by kernel_rfl) (by kernel_rfl) (by kernel_rfl) (by kernel_rfl) (fun _ _ _ h => h) (Or.inl ⟨by kernel_rfl, fun w hw => by (go_simp <;> with_reducible rfl)⟩) hC0 ?_
  go_simp
  refine Rgt.done (by kernel_rfl) ?_ _
  have HB56 := Lib.hid (HC2.out _ hC0)
  have HB6 := Lib.hid (Kit.step HB5.out HB56.out)
  clear hC0 HC1 HC2 C HKA
  have h46 := Kit.step HB45.out HB56.out
  have k1 := run_string (HX.out.later h46) Tryd.underlying40 Tryd.underlying5 Tryd.underlying9 c1
  have k2 := run_string (HY.out.later h46) Tryd.underlying40 Tryd.underlying5 Tryd.underlying9 c2
  rw [HXE.out, HSX.out] at k1
  rw [HYE.out, HSY.out] at k2
  have R1 := rof_any x o1 c1 W5.drew (HX.out.later h46) ((HVR1.out.later HB14.out).later h46) HXL.out.1
  rw [HSH.out.1, HXE.out] at R1
  have HR1' := Lib.hid R1
  have H46 := Lib.hid h46
  clear R1 h46
  go_wp2_with fail
  refine HR1'.out.mono ?_
  rintro e W7 ⟨rfl, hb7⟩
  have R2 := rof_any y o2 c2 W7 ((HY.out.later H46.out).later hb7) (((HVR1.out.later HB14.out).later H46.out).later hb7) HXL.out.2
  rw [HSH.out.2, HYE.out] at R2
  have HR2' := Lib.hid R2
  have HB7 := Lib.hid (Kit.step HB6.out hb7)
  clear R2 hb7 HR1' k1 k2
  go_wp2_with fail
  refine HR2'.out.mono ?_
  rintro e W8 ⟨rfl, hb8⟩
  have HB8 := Lib.hid (Kit.step HB7.out hb8)
  clear hb8
  go_wp2_with fail
  go_ret
  exact ⟨rfl, HB8.out⟩
end Go.Proofs.YtjcmihiajpgnjaaDoor
