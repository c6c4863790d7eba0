/- GrowthChecks, walked. -/
import Derived.Test.YtfccpfmgkpcnoaaDoorSx14
import Derived.Test.YtfccpfmgkpcnoaaDoorOc14
namespace Go.Proofs.YtfccpfmgkpcnoaaDoor
open Go.RowKit
set_option linter.unusedVariables false
set_option linter.unusedSimpArgs false
theorem Da.gch_le (m n : Int) (old now : List UInt8) (ps : List (List UInt8)) : Da.gch m old n now ps ≤ 20 := by
  unfold Da.gch
  split
  · split
    · split <;> omega
    · omega
  · omega
set_option maxRecDepth 100000 in
set_option maxHeartbeats 4000000 in
theorem wc14_any (A : Nat → Addr) (hC : GrC A) (m n : Int) (old now : List UInt8) (op : Option Addr) (cp : Nat) (ps : List (List UInt8)) (ho : old.length = 32) (hw : now.length = 32) (w : World) (hP : DgIs w op ps cp) (hV : Cds w) (hD : Rds w) (hE : Er.Errs w A) :
    Calls Tryd.prog 6 #[.agg (askG m n old now (.slice op ps.length cp)).toArray] w fun e w' => e = .returned (.bool true) ∧ Below w.heap.size w w' := by
  obtain ⟨g, hg⟩ : ∃ g, w.heap.size = g := ⟨_, rfl⟩
  obtain ⟨AL, hAL⟩ : ∃ AL, askG m n old now (.slice op ps.length cp) = AL := ⟨_, rfl⟩
  obtain ⟨W1, hW1⟩ : ∃ W1, w.alloc (.cells AL.toArray 54) = W1 := ⟨_, rfl⟩
  have hb1 : Below w.heap.size w W1 := by rw [← hW1]; exact new12 _ _
  have hk1 : AskGAt W1 g m n old now (.slice op ps.length cp) := AskGAt.of (T := 54) ho hw (by rw [hAL, ← hW1, ← hg]; exact Arr.made _ _ _)
  obtain ⟨P, hPe⟩ : ∃ P, ps.length = P := ⟨_, rfl⟩
  have hlP := hP.le
  have hcP := hP.cap
  rw [hPe] at hlP
  unfold maxLen at hcP
  obtain ⟨AA, hAA⟩ : ∃ AA, AL.toArray = AA := ⟨_, rfl⟩
  rw [hAL, hAA]
  rw [hAA] at hW1
  have ALV := hC.alive W1 (hV.later hb1) (hD.later hb1)
  have HALV := Lib.hid ALV
  have HG := Lib.hid hg
  have HW1 := Lib.hid hW1
  have HB1 := Lib.hid hb1
  have HK1 := Lib.hid hk1
  have HPE := Lib.hid hPe
  have HOW := Lib.hid (And.intro ho hw)
  have HP1 := Lib.hid (hP.later hb1)
  have HV1 := Lib.hid (hV.later hb1)
  have HD1 := Lib.hid (hD.later hb1)
  have HE1 := Lib.hid (hE.later hb1)
  have HC := Lib.hid hC
  clear ALV hg hW1 hb1 hk1 hPe ho hw hP hV hD hE hC hAA hAL AL
  go_enter Tryd.func6, Tryd.ntmps6
  go_upto_region 1 with fail
  rw [HW1.out, HG.out]
  go_wp2_with fail
  refine HALV.out.mono ?_
  rintro e W2 ⟨rfl, hb2⟩
  have hk2 := HK1.out.later hb2
  rw [HPE.out] at hk2
  have HK2 := Lib.hid hk2
  have HB12 := Lib.hid hb2
  have HB2 := Lib.hid (Kit.step HB1.out hb2)
  clear hb2 hk2 HALV
  have hcp := HK2.out.cp
  by_cases h40 : 40 < P
  · have hd3 : decide ((P : Int) > 40) = true := decide_eq_true (by omega)
    have hd4 : decide (40 < (P : Int)) = true := decide_eq_true (by omega)
    have H40 := Lib.hid h40
    clear h40
    go_wp2_with fail
    go_ret
    exact ⟨rfl, HB2.out⟩
  have hd3 : decide ((P : Int) > 40) = false := decide_eq_false (by omega)
  have hd4 : decide (40 < (P : Int)) = false := decide_eq_false (by omega)
  have hP40 : P ≤ 40 := by omega
  clear h40
  obtain ⟨OA, hOA⟩ : ∃ R, (bytesV old).toArray = R := ⟨_, rfl⟩
  obtain ⟨NA, hNA⟩ : ∃ R, (bytesV now).toArray = R := ⟨_, rfl⟩
  obtain ⟨r, hr⟩ : ∃ r, Da.gch m old n now ps = r := ⟨_, rfl⟩
  have hr20 : r ≤ 20 := by rw [← hr]; exact Da.gch_le m n old now ps
  obtain ⟨q, hq⟩ : ∃ q, Da.gcn m n = q := ⟨_, rfl⟩
  have HH := Lib.hid (show (bytesV old).toArray = OA ∧ (bytesV now).toArray = NA ∧ Da.gch m old n now ps = r ∧ Da.gcn m n = q ∧ r ≤ 20 from ⟨hOA, hNA, hr, hq, hr20⟩)
  have CT := fun (W : World) => HC.out.count W m n
  rw [hq] at CT
  have DG := fun (W : World) (hW : Below W2.heap.size W2 W) => digs_any ps op P cp HPE.out (by omega) W ((HP1.out.later HB12.out).later hW)
  have CK := fun (W : World) (hW : Below W2.heap.size W2 W) (o : Option Addr) (c : Nat) (hd : DgIs W o ps c) => HC.out.check W m n old now ps o c HOW.out.1 HOW.out.2 (by rw [HPE.out]; omega) hd ((HV1.out.later HB12.out).later hW) ((HE1.out.later HB12.out).later hW).t13
  have RC := fun (W : World) (hW : Below W2.heap.size W2 W) => rcheck_any14 m n old now HOW.out.1 HOW.out.2 ps op cp (by rw [HPE.out]; omega) W ((HP1.out.later HB12.out).later hW) ((HD1.out.later HB12.out).later hW)
  obtain ⟨EK, hEK⟩ : ∃ EK, errP A r = EK := ⟨_, rfl⟩
  have NU := fun (W : World) (hW : Below W2.heap.size W2 W) => num_errP14 A r hr20 W ((HE1.out.later HB12.out).later hW)
  simp only [hOA, hNA, hr, HPE.out, hEK] at CK RC
  simp only [hEK] at NU
  have HCT := Lib.hid CT
  have HDG := Lib.hid DG
  have HCK := Lib.hid CK
  have HRC := Lib.hid RC
  have HNU := Lib.hid NU
  have HLO : Hid (∀ v, AskGAt v g m n old now (.slice op P cp) → (Instr.loadAt 40 (.pointer (some ⟨g, 2, none⟩))).run Tryd.prog v = .ok (.agg OA) v) := Lib.hid fun v hv => by
    have := dg_load_run d32_under dgI_doc HOW.out.1 hv.ro
    rw [hOA] at this
    exact this
  have HLN : Hid (∀ v, AskGAt v g m n old now (.slice op P cp) → (Instr.loadAt 40 (.pointer (some ⟨g, 34, none⟩))).run Tryd.prog v = .ok (.agg NA) v) := Lib.hid fun v hv => by
    have := dg_load_run d32_under dgI_doc HOW.out.2 hv.rn
    rw [hNA] at this
    exact this
  clear hOA hNA hr hq CT DG CK RC NU hEK hr20
  have hcm := HK2.out.cm
  have hcn := HK2.out.cn
  by_cases h1 : m < 1
  · have hd1 : decide (m ≥ 1) = false := decide_eq_false (by omega)
    have hd2 : decide (1 ≤ m) = false := decide_eq_false (by omega)
    obtain rfl : q = -1 := by have := HH.out.2.2.2.1; unfold Da.gcn at this; rw [if_neg (by omega)] at this; exact this.symm
    have H1 := Lib.hid h1
    clear h1
    obtain ⟨C, hC⟩ : ∃ C : World → Prop, (fun v => Below W2.heap.size W2 v) = C := ⟨_, rfl⟩
    have HC1 : Hid (∀ v, Below W2.heap.size W2 v → C v) := Lib.hid fun v hv => by rw [← hC]; exact hv
    have HC2 : Hid (∀ v, C v → Below W2.heap.size W2 v) := Lib.hid fun v hv => by rw [← hC] at hv; exact hv
    have hC0 : C W2.drew := HC1.out _ (Kit.dn' W2 1)
    clear hC
    have HKA : Hid (∀ v, C v → AskGAt v g m n old now (.slice op P cp)) := Lib.hid fun v hv => HK2.out.later (HC2.out v hv)
    have hqq : (((-1) : Int) == (-1)) = true := by simp
    have hrr : ((r : Int) == (r : Int)) = true := by simp
    go_upto_region 8 with fail
    clear hcm hcn hcp
    refine Rgt.region C (fun _ => false) (by kernel_rfl) ?_
    refine Rgt.take (i := 0) (x := .pointer (some ⟨g, 0, none⟩)) rfl rfl (by kernel_rfl) (by kernel_rfl) (by kernel_rfl) (by kernel_rfl) (fun _ _ _ h => h) (Or.inl ⟨by kernel_rfl, fun w hw => by (go_simp <;> with_reducible rfl)⟩) hC0 ?_
    go_simp
    refine Rgt.take (i := 1) (x := .int .i64 m) rfl rfl (by kernel_rfl) (by kernel_rfl) (by kernel_rfl) (by kernel_rfl) (fun _ _ _ h => h) (Or.inl ⟨by kernel_rfl, fun w hw => by have hc := (HKA.out w hw).cm; (go_simp <;> with_reducible rfl)⟩) hC0 ?_
    go_simp
    refine Rgt.take (i := 2) (x := .pointer (some ⟨g, 1, none⟩)) rfl rfl (by kernel_rfl) (by kernel_rfl) (by kernel_rfl) (by kernel_rfl) (fun _ _ _ h => h) (Or.inl ⟨by kernel_rfl, fun w hw => by (go_simp <;> with_reducible rfl)⟩) hC0 ?_
    go_simp
    refine Rgt.take (i := 3) (x := .int .i64 n) rfl rfl (by kernel_rfl) (by kernel_rfl) (by kernel_rfl) (by kernel_rfl) (fun _ _ _ h => h) (Or.inl ⟨by kernel_rfl, fun w hw => by have hc := (HKA.out w hw).cn; (go_simp <;> with_reducible rfl)⟩) hC0 ?_
    go_simp
    refine Rgt.take (i := 5) (x := .int .i64 (-1)) rfl rfl (by kernel_rfl) (by kernel_rfl) (by kernel_rfl) (by kernel_rfl) (fun _ _ _ h => h) (Or.inl ⟨by kernel_rfl, fun w hw => by (go_simp <;> with_reducible rfl)⟩) hC0 ?_
    go_simp
    refine Rgt.ready (i := 4) (by kernel_rfl) rfl (by kernel_rfl) (fun K hK => ?_)
    go_simp
    refine (HCT.out _).mono ?_
    rintro e Y1 ⟨rfl, hb⟩
    have hC1 := HC1.out _ (Kit.step (HC2.out _ hC0) hb)
    clear hb
    refine hK _ _ hC1 ?_
    clear hK K hC0
    rename C _ => hC0
    refine Rgt.take (i := 6) (x := .bool true) rfl rfl (by kernel_rfl) (by kernel_rfl) (by kernel_rfl) (by kernel_rfl) (fun _ _ _ h => h) (Or.inl ⟨by kernel_rfl, fun w hw => by (go_simp <;> with_reducible rfl)⟩) hC0 ?_
    go_simp
    refine Rgt.take (i := 7) (x := .bool true) rfl rfl (by kernel_rfl) (by kernel_rfl) (by kernel_rfl) (by kernel_rfl) (fun _ _ _ h => h) (Or.inl ⟨by kernel_rfl, fun w hw => by (go_simp <;> with_reducible rfl)⟩) hC0 ?_
    go_simp
    refine Rgt.take (i := 8) (x := .pointer (some ⟨g, 0, none⟩)) rfl rfl (by kernel_rfl) (by kernel_rfl) (by kernel_rfl) (by kernel_rfl) (fun _ _ _ h => h) (Or.inl ⟨by kernel_rfl, fun w hw => by (go_simp <;> with_reducible rfl)⟩) hC0 ?_
    go_simp
    refine Rgt.take (i := 9) (x := .int .i64 m) rfl rfl (by kernel_rfl) (by kernel_rfl) (by kernel_rfl) (by kernel_rfl) (fun _ _ _ h => h) (Or.inl ⟨by kernel_rfl, fun w hw => by have hc := (HKA.out w hw).cm; (go_simp <;> with_reducible rfl)⟩) hC0 ?_
    go_simp
    refine Rgt.take (i := 10) (x := .pointer (some ⟨g, 2, none⟩)) rfl rfl (by kernel_rfl) (by kernel_rfl) (by kernel_rfl) (by kernel_rfl) (fun _ _ _ h => h) (Or.inl ⟨by kernel_rfl, fun w hw => by (go_simp <;> with_reducible rfl)⟩) hC0 ?_
    go_simp
    refine Rgt.take (i := 11) (x := .agg OA) rfl rfl (by kernel_rfl) (by kernel_rfl) (by kernel_rfl) (by kernel_rfl) (fun _ _ _ h => h) (Or.inl ⟨by kernel_rfl, fun w hw => exec_mid14 rfl rfl (HLO.out w (HKA.out w hw))⟩) hC0 ?_
    go_simp
    refine Rgt.take (i := 12) (x := .pointer (some ⟨g, 1, none⟩)) rfl rfl (by kernel_rfl) (by kernel_rfl) (by kernel_rfl) (by kernel_rfl) (fun _ _ _ h => h) (Or.inl ⟨by kernel_rfl, fun w hw => by (go_simp <;> with_reducible rfl)⟩) hC0 ?_
    go_simp
    refine Rgt.take (i := 13) (x := .int .i64 n) rfl rfl (by kernel_rfl) (by kernel_rfl) (by kernel_rfl) (by kernel_rfl) (fun _ _ _ h => h) (Or.inl ⟨by kernel_rfl, fun w hw => by have hc := (HKA.out w hw).cn; (go_simp <;> with_reducible rfl)⟩) hC0 ?_
    go_simp
    refine Rgt.take (i := 14) (x := .pointer (some ⟨g, 34, none⟩)) rfl rfl (by kernel_rfl) (by kernel_rfl) (by kernel_rfl) (by kernel_rfl) (fun _ _ _ h => h) (Or.inl ⟨by kernel_rfl, fun w hw => by (go_simp <;> with_reducible rfl)⟩) hC0 ?_
    go_simp
    refine Rgt.take (i := 15) (x := .agg NA) rfl rfl (by kernel_rfl) (by kernel_rfl) (by kernel_rfl) (by kernel_rfl) (fun _ _ _ h => h) (Or.inl ⟨by kernel_rfl, fun w hw => exec_mid14 rfl rfl (HLN.out w (HKA.out w hw))⟩) hC0 ?_
    go_simp
    refine Rgt.take (i := 16) (x := .pointer (some ⟨g, 66, none⟩)) rfl rfl (by kernel_rfl) (by kernel_rfl) (by kernel_rfl) (by kernel_rfl) (fun _ _ _ h => h) (Or.inl ⟨by kernel_rfl, fun w hw => by (go_simp <;> with_reducible rfl)⟩) hC0 ?_
    go_simp
    refine Rgt.take (i := 17) (x := .slice op P cp) rfl rfl (by kernel_rfl) (by kernel_rfl) (by kernel_rfl) (by kernel_rfl) (fun _ _ _ h => h) (Or.inl ⟨by kernel_rfl, fun w hw => by have hc := (HKA.out w hw).cp; (go_simp <;> with_reducible rfl)⟩) hC0 ?_
    go_simp
    refine Rgt.take (i := 21) (x := .pointer (some ⟨g, 0, none⟩)) rfl rfl (by kernel_rfl) (by kernel_rfl) (by kernel_rfl) (by kernel_rfl) (fun _ _ _ h => h) (Or.inl ⟨by kernel_rfl, fun w hw => by (go_simp <;> with_reducible rfl)⟩) hC0 ?_
    go_simp
    refine Rgt.take (i := 22) (x := .int .i64 m) rfl rfl (by kernel_rfl) (by kernel_rfl) (by kernel_rfl) (by kernel_rfl) (fun _ _ _ h => h) (Or.inl ⟨by kernel_rfl, fun w hw => by have hc := (HKA.out w hw).cm; (go_simp <;> with_reducible rfl)⟩) hC0 ?_
    go_simp
    refine Rgt.take (i := 23) (x := .pointer (some ⟨g, 2, none⟩)) rfl rfl (by kernel_rfl) (by kernel_rfl) (by kernel_rfl) (by kernel_rfl) (fun _ _ _ h => h) (Or.inl ⟨by kernel_rfl, fun w hw => by (go_simp <;> with_reducible rfl)⟩) hC0 ?_
    go_simp
    refine Rgt.take (i := 24) (x := .agg OA) rfl rfl (by kernel_rfl) (by kernel_rfl) (by kernel_rfl) (by kernel_rfl) (fun _ _ _ h => h) (Or.inl ⟨by kernel_rfl, fun w hw => exec_mid14 rfl rfl (HLO.out w (HKA.out w hw))⟩) hC0 ?_
    go_simp
    refine Rgt.take (i := 25) (x := .pointer (some ⟨g, 1, none⟩)) rfl rfl (by kernel_rfl) (by kernel_rfl) (by kernel_rfl) (by kernel_rfl) (fun _ _ _ h => h) (Or.inl ⟨by kernel_rfl, fun w hw => by (go_simp <;> with_reducible rfl)⟩) hC0 ?_
    go_simp
    refine Rgt.take (i := 26) (x := .int .i64 n) rfl rfl (by kernel_rfl) (by kernel_rfl) (by kernel_rfl) (by kernel_rfl) (fun _ _ _ h => h) (Or.inl ⟨by kernel_rfl, fun w hw => by have hc := (HKA.out w hw).cn; (go_simp <;> with_reducible rfl)⟩) hC0 ?_
    go_simp
    refine Rgt.take (i := 27) (x := .pointer (some ⟨g, 34, none⟩)) rfl rfl (by kernel_rfl) (by kernel_rfl) (by kernel_rfl) (by kernel_rfl) (fun _ _ _ h => h) (Or.inl ⟨by kernel_rfl, fun w hw => by (go_simp <;> with_reducible rfl)⟩) hC0 ?_
    go_simp
    refine Rgt.take (i := 28) (x := .agg NA) rfl rfl (by kernel_rfl) (by kernel_rfl) (by kernel_rfl) (by kernel_rfl) (fun _ _ _ h => h) (Or.inl ⟨by kernel_rfl, fun w hw => exec_mid14 rfl rfl (HLN.out w (HKA.out w hw))⟩) hC0 ?_
    go_simp
    refine Rgt.take (i := 29) (x := .pointer (some ⟨g, 66, none⟩)) rfl rfl (by kernel_rfl) (by kernel_rfl) (by kernel_rfl) (by kernel_rfl) (fun _ _ _ h => h) (Or.inl ⟨by kernel_rfl, fun w hw => by (go_simp <;> with_reducible rfl)⟩) hC0 ?_
    go_simp
    refine Rgt.take (i := 30) (x := .slice op P cp) rfl rfl (by kernel_rfl) (by kernel_rfl) (by kernel_rfl) (by kernel_rfl) (fun _ _ _ h => h) (Or.inl ⟨by kernel_rfl, fun w hw => by have hc := (HKA.out w hw).cp; (go_simp <;> with_reducible rfl)⟩) hC0 ?_
    go_simp
    refine Rgt.ready (i := 18) (by kernel_rfl) rfl (by kernel_rfl) (fun K hK => ?_)
    go_simp
    refine (HDG.out _ (HC2.out _ hC0)).mono ?_
    rintro e Y1 ⟨o1, c1, rfl, hdg, hb⟩
    have hC1 := HC1.out _ (Kit.step (HC2.out _ hC0) hb)
    have HCK1 := Lib.hid (HCK.out Y1 (HC2.out _ hC1) o1 c1 hdg)
    clear hb hdg
    refine hK _ _ hC1 ?_
    clear hK K hC0
    rename C _ => hC0
    refine Rgt.ready (i := 19) (by kernel_rfl) rfl (by kernel_rfl) (fun K hK => ?_)
    go_simp
    refine HCK1.out.mono ?_
    rintro e Y2 ⟨rfl, hb⟩
    have hC1 := HC1.out _ (Kit.step (HC2.out _ hC0) hb)
    clear hb HCK1
    refine hK _ _ hC1 ?_
    clear hK K hC0
    rename C _ => hC0
    refine Rgt.ready (i := 20) (by kernel_rfl) rfl (by kernel_rfl) (fun K hK => ?_)
    go_simp
    refine (HNU.out _ (HC2.out _ hC0)).mono ?_
    rintro e Y3 ⟨rfl, hb⟩
    have hC1 := HC1.out _ (Kit.step (HC2.out _ hC0) hb)
    clear hb
    refine hK _ _ hC1 ?_
    clear hK K hC0
    rename C _ => hC0
    refine Rgt.ready (i := 31) (by kernel_rfl) rfl (by kernel_rfl) (fun K hK => ?_)
    go_simp
    refine (HRC.out _ (HC2.out _ hC0)).mono ?_
    rintro e Y4 ⟨rfl, hb⟩
    have hC1 := HC1.out _ (Kit.step (HC2.out _ hC0) hb)
    clear hb
    refine hK _ _ hC1 ?_
    clear hK K hC0
    rename C _ => hC0
    refine Rgt.take (i := 32) (x := .bool true) rfl rfl (by kernel_rfl) (by kernel_rfl) (by kernel_rfl) (by kernel_rfl) (fun _ _ _ h => h) (Or.inl ⟨by kernel_rfl, fun w hw => by (go_simp <;> with_reducible rfl)⟩) hC0 ?_
    go_simp
    refine Rgt.take (i := 33) (x := .bool true) rfl rfl (by kernel_rfl) (by kernel_rfl) (by kernel_rfl) (by kernel_rfl) (fun _ _ _ h => h) (Or.inl ⟨by kernel_rfl, fun w hw => by (go_simp <;> with_reducible rfl)⟩) hC0 ?_
    go_simp
    refine Rgt.ready (i := 34) (by kernel_rfl) rfl (by kernel_rfl) (fun K hK => ?_)
    go_simp
    refine hK _ _ hC0 ?_
    clear hK K
    refine Rgt.done (by kernel_rfl) ?_ _
    have HB3 := Lib.hid (Kit.step HB2.out (HC2.out _ hC0))
    clear hC0
    go_wp2_with fail
    go_ret
    exact ⟨rfl, HB3.out⟩
  have hd1 : decide (m ≥ 1) = true := decide_eq_true (by omega)
  have hd2 : decide (1 ≤ m) = true := decide_eq_true (by omega)
  by_cases h2 : n < m
  · have hd5 : decide (m ≤ n) = false := decide_eq_false (by omega)
    obtain rfl : q = -1 := by have := HH.out.2.2.2.1; unfold Da.gcn at this; rw [if_neg (by omega)] at this; exact this.symm
    have H1 := Lib.hid (And.intro h1 h2)
    clear h1 h2
    obtain ⟨C, hC⟩ : ∃ C : World → Prop, (fun v => Below W2.heap.size W2 v) = C := ⟨_, rfl⟩
    have HC1 : Hid (∀ v, Below W2.heap.size W2 v → C v) := Lib.hid fun v hv => by rw [← hC]; exact hv
    have HC2 : Hid (∀ v, C v → Below W2.heap.size W2 v) := Lib.hid fun v hv => by rw [← hC] at hv; exact hv
    have hC0 : C W2.drew := HC1.out _ (Kit.dn' W2 1)
    clear hC
    have HKA : Hid (∀ v, C v → AskGAt v g m n old now (.slice op P cp)) := Lib.hid fun v hv => HK2.out.later (HC2.out v hv)
    have hqq : (((-1) : Int) == (-1)) = true := by simp
    have hrr : ((r : Int) == (r : Int)) = true := by simp
    go_upto_region 8 with fail
    clear hcm hcn hcp
    refine Rgt.region C (fun _ => false) (by kernel_rfl) ?_
    refine Rgt.take (i := 0) (x := .pointer (some ⟨g, 0, none⟩)) rfl rfl (by kernel_rfl) (by kernel_rfl) (by kernel_rfl) (by kernel_rfl) (fun _ _ _ h => h) (Or.inl ⟨by kernel_rfl, fun w hw => by (go_simp <;> with_reducible rfl)⟩) hC0 ?_
    go_simp
    refine Rgt.take (i := 1) (x := .int .i64 m) rfl rfl (by kernel_rfl) (by kernel_rfl) (by kernel_rfl) (by kernel_rfl) (fun _ _ _ h => h) (Or.inl ⟨by kernel_rfl, fun w hw => by have hc := (HKA.out w hw).cm; (go_simp <;> with_reducible rfl)⟩) hC0 ?_
    go_simp
    refine Rgt.take (i := 2) (x := .pointer (some ⟨g, 1, none⟩)) rfl rfl (by kernel_rfl) (by kernel_rfl) (by kernel_rfl) (by kernel_rfl) (fun _ _ _ h => h) (Or.inl ⟨by kernel_rfl, fun w hw => by (go_simp <;> with_reducible rfl)⟩) hC0 ?_
    go_simp
    refine Rgt.take (i := 3) (x := .int .i64 n) rfl rfl (by kernel_rfl) (by kernel_rfl) (by kernel_rfl) (by kernel_rfl) (fun _ _ _ h => h) (Or.inl ⟨by kernel_rfl, fun w hw => by have hc := (HKA.out w hw).cn; (go_simp <;> with_reducible rfl)⟩) hC0 ?_
    go_simp
    refine Rgt.take (i := 5) (x := .int .i64 (-1)) rfl rfl (by kernel_rfl) (by kernel_rfl) (by kernel_rfl) (by kernel_rfl) (fun _ _ _ h => h) (Or.inl ⟨by kernel_rfl, fun w hw => by (go_simp <;> with_reducible rfl)⟩) hC0 ?_
    go_simp
    refine Rgt.ready (i := 4) (by kernel_rfl) rfl (by kernel_rfl) (fun K hK => ?_)
    go_simp
    refine (HCT.out _).mono ?_
    rintro e Y1 ⟨rfl, hb⟩
    have hC1 := HC1.out _ (Kit.step (HC2.out _ hC0) hb)
    clear hb
    refine hK _ _ hC1 ?_
    clear hK K hC0
    rename C _ => hC0
    refine Rgt.take (i := 6) (x := .bool true) rfl rfl (by kernel_rfl) (by kernel_rfl) (by kernel_rfl) (by kernel_rfl) (fun _ _ _ h => h) (Or.inl ⟨by kernel_rfl, fun w hw => by (go_simp <;> with_reducible rfl)⟩) hC0 ?_
    go_simp
    refine Rgt.take (i := 7) (x := .bool true) rfl rfl (by kernel_rfl) (by kernel_rfl) (by kernel_rfl) (by kernel_rfl) (fun _ _ _ h => h) (Or.inl ⟨by kernel_rfl, fun w hw => by (go_simp <;> with_reducible rfl)⟩) hC0 ?_
    go_simp
    refine Rgt.take (i := 8) (x := .pointer (some ⟨g, 0, none⟩)) rfl rfl (by kernel_rfl) (by kernel_rfl) (by kernel_rfl) (by kernel_rfl) (fun _ _ _ h => h) (Or.inl ⟨by kernel_rfl, fun w hw => by (go_simp <;> with_reducible rfl)⟩) hC0 ?_
    go_simp
    refine Rgt.take (i := 9) (x := .int .i64 m) rfl rfl (by kernel_rfl) (by kernel_rfl) (by kernel_rfl) (by kernel_rfl) (fun _ _ _ h => h) (Or.inl ⟨by kernel_rfl, fun w hw => by have hc := (HKA.out w hw).cm; (go_simp <;> with_reducible rfl)⟩) hC0 ?_
    go_simp
    refine Rgt.take (i := 10) (x := .pointer (some ⟨g, 2, none⟩)) rfl rfl (by kernel_rfl) (by kernel_rfl) (by kernel_rfl) (by kernel_rfl) (fun _ _ _ h => h) (Or.inl ⟨by kernel_rfl, fun w hw => by (go_simp <;> with_reducible rfl)⟩) hC0 ?_
    go_simp
    refine Rgt.take (i := 11) (x := .agg OA) rfl rfl (by kernel_rfl) (by kernel_rfl) (by kernel_rfl) (by kernel_rfl) (fun _ _ _ h => h) (Or.inl ⟨by kernel_rfl, fun w hw => exec_mid14 rfl rfl (HLO.out w (HKA.out w hw))⟩) hC0 ?_
    go_simp
    refine Rgt.take (i := 12) (x := .pointer (some ⟨g, 1, none⟩)) rfl rfl (by kernel_rfl) (by kernel_rfl) (by kernel_rfl) (by kernel_rfl) (fun _ _ _ h => h) (Or.inl ⟨by kernel_rfl, fun w hw => by (go_simp <;> with_reducible rfl)⟩) hC0 ?_
    go_simp
    refine Rgt.take (i := 13) (x := .int .i64 n) rfl rfl (by kernel_rfl) (by kernel_rfl) (by kernel_rfl) (by kernel_rfl) (fun _ _ _ h => h) (Or.inl ⟨by kernel_rfl, fun w hw => by have hc := (HKA.out w hw).cn; (go_simp <;> with_reducible rfl)⟩) hC0 ?_
    go_simp
    refine Rgt.take (i := 14) (x := .pointer (some ⟨g, 34, none⟩)) rfl rfl (by kernel_rfl) (by kernel_rfl) (by kernel_rfl) (by kernel_rfl) (fun _ _ _ h => h) (Or.inl ⟨by kernel_rfl, fun w hw => by (go_simp <;> with_reducible rfl)⟩) hC0 ?_
    go_simp
    refine Rgt.take (i := 15) (x := .agg NA) rfl rfl (by kernel_rfl) (by kernel_rfl) (by kernel_rfl) (by kernel_rfl) (fun _ _ _ h => h) (Or.inl ⟨by kernel_rfl, fun w hw => exec_mid14 rfl rfl (HLN.out w (HKA.out w hw))⟩) hC0 ?_
    go_simp
    refine Rgt.take (i := 16) (x := .pointer (some ⟨g, 66, none⟩)) rfl rfl (by kernel_rfl) (by kernel_rfl) (by kernel_rfl) (by kernel_rfl) (fun _ _ _ h => h) (Or.inl ⟨by kernel_rfl, fun w hw => by (go_simp <;> with_reducible rfl)⟩) hC0 ?_
    go_simp
    refine Rgt.take (i := 17) (x := .slice op P cp) rfl rfl (by kernel_rfl) (by kernel_rfl) (by kernel_rfl) (by kernel_rfl) (fun _ _ _ h => h) (Or.inl ⟨by kernel_rfl, fun w hw => by have hc := (HKA.out w hw).cp; (go_simp <;> with_reducible rfl)⟩) hC0 ?_
    go_simp
    refine Rgt.take (i := 21) (x := .pointer (some ⟨g, 0, none⟩)) rfl rfl (by kernel_rfl) (by kernel_rfl) (by kernel_rfl) (by kernel_rfl) (fun _ _ _ h => h) (Or.inl ⟨by kernel_rfl, fun w hw => by (go_simp <;> with_reducible rfl)⟩) hC0 ?_
    go_simp
    refine Rgt.take (i := 22) (x := .int .i64 m) rfl rfl (by kernel_rfl) (by kernel_rfl) (by kernel_rfl) (by kernel_rfl) (fun _ _ _ h => h) (Or.inl ⟨by kernel_rfl, fun w hw => by have hc := (HKA.out w hw).cm; (go_simp <;> with_reducible rfl)⟩) hC0 ?_
    go_simp
    refine Rgt.take (i := 23) (x := .pointer (some ⟨g, 2, none⟩)) rfl rfl (by kernel_rfl) (by kernel_rfl) (by kernel_rfl) (by kernel_rfl) (fun _ _ _ h => h) (Or.inl ⟨by kernel_rfl, fun w hw => by (go_simp <;> with_reducible rfl)⟩) hC0 ?_
    go_simp
    refine Rgt.take (i := 24) (x := .agg OA) rfl rfl (by kernel_rfl) (by kernel_rfl) (by kernel_rfl) (by kernel_rfl) (fun _ _ _ h => h) (Or.inl ⟨by kernel_rfl, fun w hw => exec_mid14 rfl rfl (HLO.out w (HKA.out w hw))⟩) hC0 ?_
    go_simp
    refine Rgt.take (i := 25) (x := .pointer (some ⟨g, 1, none⟩)) rfl rfl (by kernel_rfl) (by kernel_rfl) (by kernel_rfl) (by kernel_rfl) (fun _ _ _ h => h) (Or.inl ⟨by kernel_rfl, fun w hw => by (go_simp <;> with_reducible rfl)⟩) hC0 ?_
    go_simp
    refine Rgt.take (i := 26) (x := .int .i64 n) rfl rfl (by kernel_rfl) (by kernel_rfl) (by kernel_rfl) (by kernel_rfl) (fun _ _ _ h => h) (Or.inl ⟨by kernel_rfl, fun w hw => by have hc := (HKA.out w hw).cn; (go_simp <;> with_reducible rfl)⟩) hC0 ?_
    go_simp
    refine Rgt.take (i := 27) (x := .pointer (some ⟨g, 34, none⟩)) rfl rfl (by kernel_rfl) (by kernel_rfl) (by kernel_rfl) (by kernel_rfl) (fun _ _ _ h => h) (Or.inl ⟨by kernel_rfl, fun w hw => by (go_simp <;> with_reducible rfl)⟩) hC0 ?_
    go_simp
    refine Rgt.take (i := 28) (x := .agg NA) rfl rfl (by kernel_rfl) (by kernel_rfl) (by kernel_rfl) (by kernel_rfl) (fun _ _ _ h => h) (Or.inl ⟨by kernel_rfl, fun w hw => exec_mid14 rfl rfl (HLN.out w (HKA.out w hw))⟩) hC0 ?_
    go_simp
    refine Rgt.take (i := 29) (x := .pointer (some ⟨g, 66, none⟩)) rfl rfl (by kernel_rfl) (by kernel_rfl) (by kernel_rfl) (by kernel_rfl) (fun _ _ _ h => h) (Or.inl ⟨by kernel_rfl, fun w hw => by (go_simp <;> with_reducible rfl)⟩) hC0 ?_
    go_simp
    refine Rgt.take (i := 30) (x := .slice op P cp) rfl rfl (by kernel_rfl) (by kernel_rfl) (by kernel_rfl) (by kernel_rfl) (fun _ _ _ h => h) (Or.inl ⟨by kernel_rfl, fun w hw => by have hc := (HKA.out w hw).cp; (go_simp <;> with_reducible rfl)⟩) hC0 ?_
    go_simp
    refine Rgt.ready (i := 18) (by kernel_rfl) rfl (by kernel_rfl) (fun K hK => ?_)
    go_simp
    refine (HDG.out _ (HC2.out _ hC0)).mono ?_
    rintro e Y1 ⟨o1, c1, rfl, hdg, hb⟩
    have hC1 := HC1.out _ (Kit.step (HC2.out _ hC0) hb)
    have HCK1 := Lib.hid (HCK.out Y1 (HC2.out _ hC1) o1 c1 hdg)
    clear hb hdg
    refine hK _ _ hC1 ?_
    clear hK K hC0
    rename C _ => hC0
    refine Rgt.ready (i := 19) (by kernel_rfl) rfl (by kernel_rfl) (fun K hK => ?_)
    go_simp
    refine HCK1.out.mono ?_
    rintro e Y2 ⟨rfl, hb⟩
    have hC1 := HC1.out _ (Kit.step (HC2.out _ hC0) hb)
    clear hb HCK1
    refine hK _ _ hC1 ?_
    clear hK K hC0
    rename C _ => hC0
    refine Rgt.ready (i := 20) (by kernel_rfl) rfl (by kernel_rfl) (fun K hK => ?_)
    go_simp
    refine (HNU.out _ (HC2.out _ hC0)).mono ?_
    rintro e Y3 ⟨rfl, hb⟩
    have hC1 := HC1.out _ (Kit.step (HC2.out _ hC0) hb)
    clear hb
    refine hK _ _ hC1 ?_
    clear hK K hC0
    rename C _ => hC0
    refine Rgt.ready (i := 31) (by kernel_rfl) rfl (by kernel_rfl) (fun K hK => ?_)
    go_simp
    refine (HRC.out _ (HC2.out _ hC0)).mono ?_
    rintro e Y4 ⟨rfl, hb⟩
    have hC1 := HC1.out _ (Kit.step (HC2.out _ hC0) hb)
    clear hb
    refine hK _ _ hC1 ?_
    clear hK K hC0
    rename C _ => hC0
    refine Rgt.take (i := 32) (x := .bool true) rfl rfl (by kernel_rfl) (by kernel_rfl) (by kernel_rfl) (by kernel_rfl) (fun _ _ _ h => h) (Or.inl ⟨by kernel_rfl, fun w hw => by (go_simp <;> with_reducible rfl)⟩) hC0 ?_
    go_simp
    refine Rgt.take (i := 33) (x := .bool true) rfl rfl (by kernel_rfl) (by kernel_rfl) (by kernel_rfl) (by kernel_rfl) (fun _ _ _ h => h) (Or.inl ⟨by kernel_rfl, fun w hw => by (go_simp <;> with_reducible rfl)⟩) hC0 ?_
    go_simp
    refine Rgt.ready (i := 34) (by kernel_rfl) rfl (by kernel_rfl) (fun K hK => ?_)
    go_simp
    refine hK _ _ hC0 ?_
    clear hK K
    refine Rgt.done (by kernel_rfl) ?_ _
    have HB3 := Lib.hid (Kit.step HB2.out (HC2.out _ hC0))
    clear hC0
    go_wp2_with fail
    go_ret
    exact ⟨rfl, HB3.out⟩
  have hd5 : decide (m ≤ n) = true := decide_eq_true (by omega)
  by_cases h3 : 512 < n
  · have hd6 : decide (n ≤ 512) = false := decide_eq_false (by omega)
    obtain rfl : q = -1 := by have := HH.out.2.2.2.1; unfold Da.gcn at this; rw [if_neg (by omega)] at this; exact this.symm
    have H1 := Lib.hid (And.intro h1 (And.intro h2 h3))
    clear h1 h2 h3
    obtain ⟨C, hC⟩ : ∃ C : World → Prop, (fun v => Below W2.heap.size W2 v) = C := ⟨_, rfl⟩
    have HC1 : Hid (∀ v, Below W2.heap.size W2 v → C v) := Lib.hid fun v hv => by rw [← hC]; exact hv
    have HC2 : Hid (∀ v, C v → Below W2.heap.size W2 v) := Lib.hid fun v hv => by rw [← hC] at hv; exact hv
    have hC0 : C W2.drew := HC1.out _ (Kit.dn' W2 1)
    clear hC
    have HKA : Hid (∀ v, C v → AskGAt v g m n old now (.slice op P cp)) := Lib.hid fun v hv => HK2.out.later (HC2.out v hv)
    have hqq : (((-1) : Int) == (-1)) = true := by simp
    have hrr : ((r : Int) == (r : Int)) = true := by simp
    go_upto_region 8 with fail
    clear hcm hcn hcp
    refine Rgt.region C (fun _ => false) (by kernel_rfl) ?_
    refine Rgt.take (i := 0) (x := .pointer (some ⟨g, 0, none⟩)) rfl rfl (by kernel_rfl) (by kernel_rfl) (by kernel_rfl) (by kernel_rfl) (fun _ _ _ h => h) (Or.inl ⟨by kernel_rfl, fun w hw => by (go_simp <;> with_reducible rfl)⟩) hC0 ?_
    go_simp
    refine Rgt.take (i := 1) (x := .int .i64 m) rfl rfl (by kernel_rfl) (by kernel_rfl) (by kernel_rfl) (by kernel_rfl) (fun _ _ _ h => h) (Or.inl ⟨by kernel_rfl, fun w hw => by have hc := (HKA.out w hw).cm; (go_simp <;> with_reducible rfl)⟩) hC0 ?_
    go_simp
    refine Rgt.take (i := 2) (x := .pointer (some ⟨g, 1, none⟩)) rfl rfl (by kernel_rfl) (by kernel_rfl) (by kernel_rfl) (by kernel_rfl) (fun _ _ _ h => h) (Or.inl ⟨by kernel_rfl, fun w hw => by (go_simp <;> with_reducible rfl)⟩) hC0 ?_
    go_simp
    refine Rgt.take (i := 3) (x := .int .i64 n) rfl rfl (by kernel_rfl) (by kernel_rfl) (by kernel_rfl) (by kernel_rfl) (fun _ _ _ h => h) (Or.inl ⟨by kernel_rfl, fun w hw => by have hc := (HKA.out w hw).cn; (go_simp <;> with_reducible rfl)⟩) hC0 ?_
    go_simp
    refine Rgt.take (i := 5) (x := .int .i64 (-1)) rfl rfl (by kernel_rfl) (by kernel_rfl) (by kernel_rfl) (by kernel_rfl) (fun _ _ _ h => h) (Or.inl ⟨by kernel_rfl, fun w hw => by (go_simp <;> with_reducible rfl)⟩) hC0 ?_
    go_simp
    refine Rgt.ready (i := 4) (by kernel_rfl) rfl (by kernel_rfl) (fun K hK => ?_)
    go_simp
    refine (HCT.out _).mono ?_
    rintro e Y1 ⟨rfl, hb⟩
    have hC1 := HC1.out _ (Kit.step (HC2.out _ hC0) hb)
    clear hb
    refine hK _ _ hC1 ?_
    clear hK K hC0
    rename C _ => hC0
    refine Rgt.take (i := 6) (x := .bool true) rfl rfl (by kernel_rfl) (by kernel_rfl) (by kernel_rfl) (by kernel_rfl) (fun _ _ _ h => h) (Or.inl ⟨by kernel_rfl, fun w hw => by (go_simp <;> with_reducible rfl)⟩) hC0 ?_
    go_simp
    refine Rgt.take (i := 7) (x := .bool true) rfl rfl (by kernel_rfl) (by kernel_rfl) (by kernel_rfl) (by kernel_rfl) (fun _ _ _ h => h) (Or.inl ⟨by kernel_rfl, fun w hw => by (go_simp <;> with_reducible rfl)⟩) hC0 ?_
    go_simp
    refine Rgt.take (i := 8) (x := .pointer (some ⟨g, 0, none⟩)) rfl rfl (by kernel_rfl) (by kernel_rfl) (by kernel_rfl) (by kernel_rfl) (fun _ _ _ h => h) (Or.inl ⟨by kernel_rfl, fun w hw => by (go_simp <;> with_reducible rfl)⟩) hC0 ?_
    go_simp
    refine Rgt.take (i := 9) (x := .int .i64 m) rfl rfl (by kernel_rfl) (by kernel_rfl) (by kernel_rfl) (by kernel_rfl) (fun _ _ _ h => h) (Or.inl ⟨by kernel_rfl, fun w hw => by have hc := (HKA.out w hw).cm; (go_simp <;> with_reducible rfl)⟩) hC0 ?_
    go_simp
    refine Rgt.take (i := 10) (x := .pointer (some ⟨g, 2, none⟩)) rfl rfl (by kernel_rfl) (by kernel_rfl) (by kernel_rfl) (by kernel_rfl) (fun _ _ _ h => h) (Or.inl ⟨by kernel_rfl, fun w hw => by (go_simp <;> with_reducible rfl)⟩) hC0 ?_
    go_simp
    refine Rgt.take (i := 11) (x := .agg OA) rfl rfl (by kernel_rfl) (by kernel_rfl) (by kernel_rfl) (by kernel_rfl) (fun _ _ _ h => h) (Or.inl ⟨by kernel_rfl, fun w hw => exec_mid14 rfl rfl (HLO.out w (HKA.out w hw))⟩) hC0 ?_
    go_simp
    refine Rgt.take (i := 12) (x := .pointer (some ⟨g, 1, none⟩)) rfl rfl (by kernel_rfl) (by kernel_rfl) (by kernel_rfl) (by kernel_rfl) (fun _ _ _ h => h) (Or.inl ⟨by kernel_rfl, fun w hw => by (go_simp <;> with_reducible rfl)⟩) hC0 ?_
    go_simp
    refine Rgt.take (i := 13) (x := .int .i64 n) rfl rfl (by kernel_rfl) (by kernel_rfl) (by kernel_rfl) (by kernel_rfl) (fun _ _ _ h => h) (Or.inl ⟨by kernel_rfl, fun w hw => by have hc := (HKA.out w hw).cn; (go_simp <;> with_reducible rfl)⟩) hC0 ?_
    go_simp
    refine Rgt.take (i := 14) (x := .pointer (some ⟨g, 34, none⟩)) rfl rfl (by kernel_rfl) (by kernel_rfl) (by kernel_rfl) (by kernel_rfl) (fun _ _ _ h => h) (Or.inl ⟨by kernel_rfl, fun w hw => by (go_simp <;> with_reducible rfl)⟩) hC0 ?_
    go_simp
    refine Rgt.take (i := 15) (x := .agg NA) rfl rfl (by kernel_rfl) (by kernel_rfl) (by kernel_rfl) (by kernel_rfl) (fun _ _ _ h => h) (Or.inl ⟨by kernel_rfl, fun w hw => exec_mid14 rfl rfl (HLN.out w (HKA.out w hw))⟩) hC0 ?_
    go_simp
    refine Rgt.take (i := 16) (x := .pointer (some ⟨g, 66, none⟩)) rfl rfl (by kernel_rfl) (by kernel_rfl) (by kernel_rfl) (by kernel_rfl) (fun _ _ _ h => h) (Or.inl ⟨by kernel_rfl, fun w hw => by (go_simp <;> with_reducible rfl)⟩) hC0 ?_
    go_simp
    refine Rgt.take (i := 17) (x := .slice op P cp) rfl rfl (by kernel_rfl) (by kernel_rfl) (by kernel_rfl) (by kernel_rfl) (fun _ _ _ h => h) (Or.inl ⟨by kernel_rfl, fun w hw => by have hc := (HKA.out w hw).cp; (go_simp <;> with_reducible rfl)⟩) hC0 ?_
    go_simp
    refine Rgt.take (i := 21) (x := .pointer (some ⟨g, 0, none⟩)) rfl rfl (by kernel_rfl) (by kernel_rfl) (by kernel_rfl) (by kernel_rfl) (fun _ _ _ h => h) (Or.inl ⟨by kernel_rfl, fun w hw => by (go_simp <;> with_reducible rfl)⟩) hC0 ?_
    go_simp
    refine Rgt.take (i := 22) (x := .int .i64 m) rfl rfl (by kernel_rfl) (by kernel_rfl) (by kernel_rfl) (by kernel_rfl) (fun _ _ _ h => h) (Or.inl ⟨by kernel_rfl, fun w hw => by have hc := (HKA.out w hw).cm; (go_simp <;> with_reducible rfl)⟩) hC0 ?_
    go_simp
    refine Rgt.take (i := 23) (x := .pointer (some ⟨g, 2, none⟩)) rfl rfl (by kernel_rfl) (by kernel_rfl) (by kernel_rfl) (by kernel_rfl) (fun _ _ _ h => h) (Or.inl ⟨by kernel_rfl, fun w hw => by (go_simp <;> with_reducible rfl)⟩) hC0 ?_
    go_simp
    refine Rgt.take (i := 24) (x := .agg OA) rfl rfl (by kernel_rfl) (by kernel_rfl) (by kernel_rfl) (by kernel_rfl) (fun _ _ _ h => h) (Or.inl ⟨by kernel_rfl, fun w hw => exec_mid14 rfl rfl (HLO.out w (HKA.out w hw))⟩) hC0 ?_
    go_simp
    refine Rgt.take (i := 25) (x := .pointer (some ⟨g, 1, none⟩)) rfl rfl (by kernel_rfl) (by kernel_rfl) (by kernel_rfl) (by kernel_rfl) (fun _ _ _ h => h) (Or.inl ⟨by kernel_rfl, fun w hw => by (go_simp <;> with_reducible rfl)⟩) hC0 ?_
    go_simp
    refine Rgt.take (i := 26) (x := .int .i64 n) rfl rfl (by kernel_rfl) (by kernel_rfl) (by kernel_rfl) (by kernel_rfl) (fun _ _ _ h => h) (Or.inl ⟨by kernel_rfl, fun w hw => by have hc := (HKA.out w hw).cn; (go_simp <;> with_reducible rfl)⟩) hC0 ?_
    go_simp
    refine Rgt.take (i := 27) (x := .pointer (some ⟨g, 34, none⟩)) rfl rfl (by kernel_rfl) (by kernel_rfl) (by kernel_rfl) (by kernel_rfl) (fun _ _ _ h => h) (Or.inl ⟨by kernel_rfl, fun w hw => by (go_simp <;> with_reducible rfl)⟩) hC0 ?_
    go_simp
    refine Rgt.take (i := 28) (x := .agg NA) rfl rfl (by kernel_rfl) (by kernel_rfl) (by kernel_rfl) (by kernel_rfl) (fun _ _ _ h => h) (Or.inl ⟨by kernel_rfl, fun w hw => exec_mid14 rfl rfl (HLN.out w (HKA.out w hw))⟩) hC0 ?_
    go_simp
    refine Rgt.take (i := 29) (x := .pointer (some ⟨g, 66, none⟩)) rfl rfl (by kernel_rfl) (by kernel_rfl) (by kernel_rfl) (by kernel_rfl) (fun _ _ _ h => h) (Or.inl ⟨by kernel_rfl, fun w hw => by (go_simp <;> with_reducible rfl)⟩) hC0 ?_
    go_simp
    refine Rgt.take (i := 30) (x := .slice op P cp) rfl rfl (by kernel_rfl) (by kernel_rfl) (by kernel_rfl) (by kernel_rfl) (fun _ _ _ h => h) (Or.inl ⟨by kernel_rfl, fun w hw => by have hc := (HKA.out w hw).cp; (go_simp <;> with_reducible rfl)⟩) hC0 ?_
    go_simp
    refine Rgt.ready (i := 18) (by kernel_rfl) rfl (by kernel_rfl) (fun K hK => ?_)
    go_simp
    refine (HDG.out _ (HC2.out _ hC0)).mono ?_
    rintro e Y1 ⟨o1, c1, rfl, hdg, hb⟩
    have hC1 := HC1.out _ (Kit.step (HC2.out _ hC0) hb)
    have HCK1 := Lib.hid (HCK.out Y1 (HC2.out _ hC1) o1 c1 hdg)
    clear hb hdg
    refine hK _ _ hC1 ?_
    clear hK K hC0
    rename C _ => hC0
    refine Rgt.ready (i := 19) (by kernel_rfl) rfl (by kernel_rfl) (fun K hK => ?_)
    go_simp
    refine HCK1.out.mono ?_
    rintro e Y2 ⟨rfl, hb⟩
    have hC1 := HC1.out _ (Kit.step (HC2.out _ hC0) hb)
    clear hb HCK1
    refine hK _ _ hC1 ?_
    clear hK K hC0
    rename C _ => hC0
    refine Rgt.ready (i := 20) (by kernel_rfl) rfl (by kernel_rfl) (fun K hK => ?_)
    go_simp
    refine (HNU.out _ (HC2.out _ hC0)).mono ?_
    rintro e Y3 ⟨rfl, hb⟩
    have hC1 := HC1.out _ (Kit.step (HC2.out _ hC0) hb)
    clear hb
    refine hK _ _ hC1 ?_
    clear hK K hC0
    rename C _ => hC0
    refine Rgt.ready (i := 31) (by kernel_rfl) rfl (by kernel_rfl) (fun K hK => ?_)
    go_simp
    refine (HRC.out _ (HC2.out _ hC0)).mono ?_
    rintro e Y4 ⟨rfl, hb⟩
    have hC1 := HC1.out _ (Kit.step (HC2.out _ hC0) hb)
    clear hb
    refine hK _ _ hC1 ?_
    clear hK K hC0
    rename C _ => hC0
    refine Rgt.take (i := 32) (x := .bool true) rfl rfl (by kernel_rfl) (by kernel_rfl) (by kernel_rfl) (by kernel_rfl) (fun _ _ _ h => h) (Or.inl ⟨by kernel_rfl, fun w hw => by (go_simp <;> with_reducible rfl)⟩) hC0 ?_
    go_simp
    refine Rgt.take (i := 33) (x := .bool true) rfl rfl (by kernel_rfl) (by kernel_rfl) (by kernel_rfl) (by kernel_rfl) (fun _ _ _ h => h) (Or.inl ⟨by kernel_rfl, fun w hw => by (go_simp <;> with_reducible rfl)⟩) hC0 ?_
    go_simp
    refine Rgt.ready (i := 34) (by kernel_rfl) rfl (by kernel_rfl) (fun K hK => ?_)
    go_simp
    refine hK _ _ hC0 ?_
    clear hK K
    refine Rgt.done (by kernel_rfl) ?_ _
    have HB3 := Lib.hid (Kit.step HB2.out (HC2.out _ hC0))
    clear hC0
    go_wp2_with fail
    go_ret
    exact ⟨rfl, HB3.out⟩
  have hd6 : decide (n ≤ 512) = true := decide_eq_true (by omega)
  have CO := rcount_any14 n.toNat m.toNat true W2 (by omega) (by omega) (by omega)
  rw [show ((m.toNat : Nat) : Int) = m by omega, show ((n.toNat : Nat) : Int) = n by omega] at CO
  have hqe : ((Da.cnt m.toNat n.toNat true : Nat) : Int) = q := by have := HH.out.2.2.2.1; unfold Da.gcn at this; rw [if_pos (by omega)] at this; exact this
  rw [hqe] at CO
  have HCO := Lib.hid CO
  have H1 := Lib.hid (And.intro h1 (And.intro h2 h3))
  clear h1 h2 h3 CO hqe
  go_wp2_with fail
  refine HCO.out.mono ?_
  rintro e W3 ⟨rfl, rfl⟩
  rename World => W2
  clear HCO
  obtain ⟨C, hC⟩ : ∃ C : World → Prop, (fun v => Below W2.heap.size W2 v) = C := ⟨_, rfl⟩
  have HC1 : Hid (∀ v, Below W2.heap.size W2 v → C v) := Lib.hid fun v hv => by rw [← hC]; exact hv
  have HC2 : Hid (∀ v, C v → Below W2.heap.size W2 v) := Lib.hid fun v hv => by rw [← hC] at hv; exact hv
  have hC0 : C W2.drew := HC1.out _ (Kit.dn' W2 1)
  clear hC
  have HKA : Hid (∀ v, C v → AskGAt v g m n old now (.slice op P cp)) := Lib.hid fun v hv => HK2.out.later (HC2.out v hv)
  have hqq : ((q : Int) == q) = true := by simp
  have hrr : ((r : Int) == (r : Int)) = true := by simp
  go_upto_region 8 with fail
  clear hcm hcn hcp
  refine Rgt.region C (fun _ => false) (by kernel_rfl) ?_
  refine Rgt.take (i := 0) (x := .pointer (some ⟨g, 0, none⟩)) rfl rfl (by kernel_rfl) (by kernel_rfl) (by kernel_rfl) (by kernel_rfl) (fun _ _ _ h => h) (Or.inl ⟨by kernel_rfl, fun w hw => by (go_simp <;> with_reducible rfl)⟩) hC0 ?_
  go_simp
  refine Rgt.take (i := 1) (x := .int .i64 m) rfl rfl (by kernel_rfl) (by kernel_rfl) (by kernel_rfl) (by kernel_rfl) (fun _ _ _ h => h) (Or.inl ⟨by kernel_rfl, fun w hw => by have hc := (HKA.out w hw).cm; (go_simp <;> with_reducible rfl)⟩) hC0 ?_
  go_simp
  refine Rgt.take (i := 2) (x := .pointer (some ⟨g, 1, none⟩)) rfl rfl (by kernel_rfl) (by kernel_rfl) (by kernel_rfl) (by kernel_rfl) (fun _ _ _ h => h) (Or.inl ⟨by kernel_rfl, fun w hw => by (go_simp <;> with_reducible rfl)⟩) hC0 ?_
  go_simp
  refine Rgt.take (i := 3) (x := .int .i64 n) rfl rfl (by kernel_rfl) (by kernel_rfl) (by kernel_rfl) (by kernel_rfl) (fun _ _ _ h => h) (Or.inl ⟨by kernel_rfl, fun w hw => by have hc := (HKA.out w hw).cn; (go_simp <;> with_reducible rfl)⟩) hC0 ?_
  go_simp
  refine Rgt.take (i := 5) (x := .int .i64 q) rfl rfl (by kernel_rfl) (by kernel_rfl) (by kernel_rfl) (by kernel_rfl) (fun _ _ _ h => h) (Or.inl ⟨by kernel_rfl, fun w hw => by (go_simp <;> with_reducible rfl)⟩) hC0 ?_
  go_simp
  refine Rgt.ready (i := 4) (by kernel_rfl) rfl (by kernel_rfl) (fun K hK => ?_)
  go_simp
  refine (HCT.out _).mono ?_
  rintro e Y1 ⟨rfl, hb⟩
  have hC1 := HC1.out _ (Kit.step (HC2.out _ hC0) hb)
  clear hb
  refine hK _ _ hC1 ?_
  clear hK K hC0
  rename C _ => hC0
  refine Rgt.take (i := 6) (x := .bool true) rfl rfl (by kernel_rfl) (by kernel_rfl) (by kernel_rfl) (by kernel_rfl) (fun _ _ _ h => h) (Or.inl ⟨by kernel_rfl, fun w hw => by (go_simp <;> with_reducible rfl)⟩) hC0 ?_
  go_simp
  refine Rgt.take (i := 7) (x := .bool true) rfl rfl (by kernel_rfl) (by kernel_rfl) (by kernel_rfl) (by kernel_rfl) (fun _ _ _ h => h) (Or.inl ⟨by kernel_rfl, fun w hw => by (go_simp <;> with_reducible rfl)⟩) hC0 ?_
  go_simp
  refine Rgt.take (i := 8) (x := .pointer (some ⟨g, 0, none⟩)) rfl rfl (by kernel_rfl) (by kernel_rfl) (by kernel_rfl) (by kernel_rfl) (fun _ _ _ h => h) (Or.inl ⟨by kernel_rfl, fun w hw => by (go_simp <;> with_reducible rfl)⟩) hC0 ?_
  go_simp
  refine Rgt.take (i := 9) (x := .int .i64 m) rfl rfl (by kernel_rfl) (by kernel_rfl) (by kernel_rfl) (by kernel_rfl) (fun _ _ _ h => h) (Or.inl ⟨by kernel_rfl, fun w hw => by have hc := (HKA.out w hw).cm; (go_simp <;> with_reducible rfl)⟩) hC0 ?_
  go_simp
  refine Rgt.take (i := 10) (x := .pointer (some ⟨g, 2, none⟩)) rfl rfl (by kernel_rfl) (by kernel_rfl) (by kernel_rfl) (by kernel_rfl) (fun _ _ _ h => h) (Or.inl ⟨by kernel_rfl, fun w hw => by (go_simp <;> with_reducible rfl)⟩) hC0 ?_
  go_simp
  refine Rgt.take (i := 11) (x := .agg OA) rfl rfl (by kernel_rfl) (by kernel_rfl) (by kernel_rfl) (by kernel_rfl) (fun _ _ _ h => h) (Or.inl ⟨by kernel_rfl, fun w hw => exec_mid14 rfl rfl (HLO.out w (HKA.out w hw))⟩) hC0 ?_
  go_simp
  refine Rgt.take (i := 12) (x := .pointer (some ⟨g, 1, none⟩)) rfl rfl (by kernel_rfl) (by kernel_rfl) (by kernel_rfl) (by kernel_rfl) (fun _ _ _ h => h) (Or.inl ⟨by kernel_rfl, fun w hw => by (go_simp <;> with_reducible rfl)⟩) hC0 ?_
  go_simp
  refine Rgt.take (i := 13) (x := .int .i64 n) rfl rfl (by kernel_rfl) (by kernel_rfl) (by kernel_rfl) (by kernel_rfl) (fun _ _ _ h => h) (Or.inl ⟨by kernel_rfl, fun w hw => by have hc := (HKA.out w hw).cn; (go_simp <;> with_reducible rfl)⟩) hC0 ?_
  go_simp
  refine Rgt.take (i := 14) (x := .pointer (some ⟨g, 34, none⟩)) rfl rfl (by kernel_rfl) (by kernel_rfl) (by kernel_rfl) (by kernel_rfl) (fun _ _ _ h => h) (Or.inl ⟨by kernel_rfl, fun w hw => by (go_simp <;> with_reducible rfl)⟩) hC0 ?_
  go_simp
  refine Rgt.take (i := 15) (x := .agg NA) rfl rfl (by kernel_rfl) (by kernel_rfl) (by kernel_rfl) (by kernel_rfl) (fun _ _ _ h => h) (Or.inl ⟨by kernel_rfl, fun w hw => exec_mid14 rfl rfl (HLN.out w (HKA.out w hw))⟩) hC0 ?_
  go_simp
  refine Rgt.take (i := 16) (x := .pointer (some ⟨g, 66, none⟩)) rfl rfl (by kernel_rfl) (by kernel_rfl) (by kernel_rfl) (by kernel_rfl) (fun _ _ _ h => h) (Or.inl ⟨by kernel_rfl, fun w hw => by (go_simp <;> with_reducible rfl)⟩) hC0 ?_
  go_simp
  refine Rgt.take (i := 17) (x := .slice op P cp) rfl rfl (by kernel_rfl) (by kernel_rfl) (by kernel_rfl) (by kernel_rfl) (fun _ _ _ h => h) (Or.inl ⟨by kernel_rfl, fun w hw => by have hc := (HKA.out w hw).cp; (go_simp <;> with_reducible rfl)⟩) hC0 ?_
  go_simp
  refine Rgt.take (i := 21) (x := .pointer (some ⟨g, 0, none⟩)) rfl rfl (by kernel_rfl) (by kernel_rfl) (by kernel_rfl) (by kernel_rfl) (fun _ _ _ h => h) (Or.inl ⟨by kernel_rfl, fun w hw => by (go_simp <;> with_reducible rfl)⟩) hC0 ?_
  go_simp
  refine Rgt.take (i := 22) (x := .int .i64 m) rfl rfl (by kernel_rfl) (by kernel_rfl) (by kernel_rfl) (by kernel_rfl) (fun _ _ _ h => h) (Or.inl ⟨by kernel_rfl, fun w hw => by have hc := (HKA.out w hw).cm; (go_simp <;> with_reducible rfl)⟩) hC0 ?_
  go_simp
  refine Rgt.take (i := 23) (x := .pointer (some ⟨g, 2, none⟩)) rfl rfl (by kernel_rfl) (by kernel_rfl) (by kernel_rfl) (by kernel_rfl) (fun _ _ _ h => h) (Or.inl ⟨by kernel_rfl, fun w hw => by (go_simp <;> with_reducible rfl)⟩) hC0 ?_
  go_simp
  refine Rgt.take (i := 24) (x := .agg OA) rfl rfl (by kernel_rfl) (by kernel_rfl) (by kernel_rfl) (by kernel_rfl) (fun _ _ _ h => h) (Or.inl ⟨by kernel_rfl, fun w hw => exec_mid14 rfl rfl (HLO.out w (HKA.out w hw))⟩) hC0 ?_
  go_simp
  refine Rgt.take (i := 25) (x := .pointer (some ⟨g, 1, none⟩)) rfl rfl (by kernel_rfl) (by kernel_rfl) (by kernel_rfl) (by kernel_rfl) (fun _ _ _ h => h) (Or.inl ⟨by kernel_rfl, fun w hw => by (go_simp <;> with_reducible rfl)⟩) hC0 ?_
  go_simp
  refine Rgt.take (i := 26) (x := .int .i64 n) rfl rfl (by kernel_rfl) (by kernel_rfl) (by kernel_rfl) (by kernel_rfl) (fun _ _ _ h => h) (Or.inl ⟨by kernel_rfl, fun w hw => by have hc := (HKA.out w hw).cn; (go_simp <;> with_reducible rfl)⟩) hC0 ?_
  go_simp
  refine Rgt.take (i := 27) (x := .pointer (some ⟨g, 34, none⟩)) rfl rfl (by kernel_rfl) (by kernel_rfl) (by kernel_rfl) (by kernel_rfl) (fun _ _ _ h => h) (Or.inl ⟨by kernel_rfl, fun w hw => by (go_simp <;> with_reducible rfl)⟩) hC0 ?_
  go_simp
  refine Rgt.take (i := 28) (x := .agg NA) rfl rfl (by kernel_rfl) (by kernel_rfl) (by kernel_rfl) (by kernel_rfl) (fun _ _ _ h => h) (Or.inl ⟨by kernel_rfl, fun w hw => exec_mid14 rfl rfl (HLN.out w (HKA.out w hw))⟩) hC0 ?_
  go_simp
  refine Rgt.take (i := 29) (x := .pointer (some ⟨g, 66, none⟩)) rfl rfl (by kernel_rfl) (by kernel_rfl) (by kernel_rfl) (by kernel_rfl) (fun _ _ _ h => h) (Or.inl ⟨by kernel_rfl, fun w hw => by (go_simp <;> with_reducible rfl)⟩) hC0 ?_
  go_simp
  refine Rgt.take (i := 30) (x := .slice op P cp) rfl rfl (by kernel_rfl) (by kernel_rfl) (by kernel_rfl) (by kernel_rfl) (fun _ _ _ h => h) (Or.inl ⟨by kernel_rfl, fun w hw => by have hc := (HKA.out w hw).cp; (go_simp <;> with_reducible rfl)⟩) hC0 ?_
  go_simp
  refine Rgt.ready (i := 18) (by kernel_rfl) rfl (by kernel_rfl) (fun K hK => ?_)
  go_simp
  refine (HDG.out _ (HC2.out _ hC0)).mono ?_
  rintro e Y1 ⟨o1, c1, rfl, hdg, hb⟩
  have hC1 := HC1.out _ (Kit.step (HC2.out _ hC0) hb)
  have HCK1 := Lib.hid (HCK.out Y1 (HC2.out _ hC1) o1 c1 hdg)
  clear hb hdg
  refine hK _ _ hC1 ?_
  clear hK K hC0
  rename C _ => hC0
  refine Rgt.ready (i := 19) (by kernel_rfl) rfl (by kernel_rfl) (fun K hK => ?_)
  go_simp
  refine HCK1.out.mono ?_
  rintro e Y2 ⟨rfl, hb⟩
  have hC1 := HC1.out _ (Kit.step (HC2.out _ hC0) hb)
  clear hb HCK1
  refine hK _ _ hC1 ?_
  clear hK K hC0
  rename C _ => hC0
  refine Rgt.ready (i := 20) (by kernel_rfl) rfl (by kernel_rfl) (fun K hK => ?_)
  go_simp
  refine (HNU.out _ (HC2.out _ hC0)).mono ?_
  rintro e Y3 ⟨rfl, hb⟩
  have hC1 := HC1.out _ (Kit.step (HC2.out _ hC0) hb)
  clear hb
  refine hK _ _ hC1 ?_
  clear hK K hC0
  rename C _ => hC0
  refine Rgt.ready (i := 31) (by kernel_rfl) rfl (by kernel_rfl) (fun K hK => ?_)
  go_simp
  refine (HRC.out _ (HC2.out _ hC0)).mono ?_
  rintro e Y4 ⟨rfl, hb⟩
  have hC1 := HC1.out _ (Kit.step (HC2.out _ hC0) hb)
  clear hb
  refine hK _ _ hC1 ?_
  clear hK K hC0
  rename C _ => hC0
  refine Rgt.take (i := 32) (x := .bool true) rfl rfl (by kernel_rfl) (by kernel_rfl) (by kernel_rfl) (by kernel_rfl) (fun _ _ _ h => h) (Or.inl ⟨by kernel_rfl, fun w hw => by (go_simp <;> with_reducible rfl)⟩) hC0 ?_
  go_simp
  refine Rgt.take (i := 33) (x := .bool true) rfl rfl (by kernel_rfl) (by kernel_rfl) (by kernel_rfl) (by kernel_rfl) (fun _ _ _ h => h) (Or.inl ⟨by kernel_rfl, fun w hw => by (go_simp <;> with_reducible rfl)⟩) hC0 ?_
  go_simp
  refine Rgt.ready (i := 34) (by kernel_rfl) rfl (by kernel_rfl) (fun K hK => ?_)
  go_simp
  refine hK _ _ hC0 ?_
  clear hK K
  refine Rgt.done (by kernel_rfl) ?_ _
  have HB3 := Lib.hid (Kit.step HB2.out (HC2.out _ hC0))
  clear hC0
  go_wp2_with fail
  go_ret
  exact ⟨rfl, HB3.out⟩
end Go.Proofs.YtfccpfmgkpcnoaaDoor
