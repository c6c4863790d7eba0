/- ParamsParses, walked. ParamsChecks, walked. -/
import Derived.Test.YtomkkkbdipcjgaaDoorPz15
import Derived.Test.YtomkkkbdipcjgaaDoorRx15
import Derived.Test.YtomkkkbdipcjgaaDoorSl
namespace Go.Proofs.YtomkkkbdipcjgaaDoor
open Go.RowKit
set_option linter.unusedVariables false
set_option linter.unusedSimpArgs false
theorem err15_cases {k : Nat} (h : k ≠ 0) : Da.err15 k = 8 ∨ Da.err15 k = 18 ∨ Da.err15 k = 1 := by
  match k, h with
  | 1, _ => exact .inl rfl
  | 2, _ => exact .inr (.inl rfl)
  | (n+3), _ => exact .inr (.inr rfl)
theorem wrv_num (U : Er.UnwrapOk) (A : Nat → Addr) (p : Pm15) (v : Value) (w : World) (hE : Er.Errs w A) (h : WrV A p w v) : Calls Tryd.prog 11 #[v] w fun e w' => e = .returned (.int .i64 ((Da.err15 (Da.bad15 p) : Nat) : Int)) ∧ Below w.heap.size w w' := by
  rcases h with ⟨h0, rfl⟩ | ⟨h0, b, rfl, hw⟩
  · rw [h0]
    exact (Er.num_nil w).mono fun e w' h => ⟨h.1, h.2 ▸ Below.refl _ _⟩
  · have hc := hw.cell
    unfold sn15 at hc
    rcases err15_cases h0 with e | e | e <;> rw [e] at hc ⊢
    · exact Er.num_wrong U A 7 (by decide) b w hE hc
    · exact Er.num_wrong U A 17 (by decide) b w hE hc
    · exact Er.num_wrong U A 0 (by decide) b w hE hc
theorem prv_num (U : Er.UnwrapOk) (A : Nat → Addr) (b : List UInt8) (v : Value) (w : World) (hE : Er.Errs w A) (h : PrV A b w v) : Calls Tryd.prog 11 #[v] w fun e w' => e = .returned (.int .i64 ((Da.prn15 b : Nat) : Int)) ∧ Below w.heap.size w w' := by
  unfold Da.prn15
  rcases h with ⟨h9, h⟩ | ⟨h9, rfl⟩
  · rw [if_pos h9]
    exact wrv_num U A _ v w hE h
  · rw [if_neg h9]
    exact Er.num_of A 7 (by decide) w hE
theorem PrV.later {A : Nat → Addr} {b : List UInt8} {W W' : World} {v : Value} (h : PrV A b W v) (hb : Below W.heap.size W W') : PrV A b W' v := by
  rcases h with ⟨h9, h⟩ | h
  · exact .inl ⟨h9, h.later hb⟩
  · exact .inr h
theorem pm_neqD (p : Pm15) (W : World) : (binOp .neq 25 (.agg (pmA p)) (.agg (pmA p))).run Tryd.prog W = .ok (.bool false) W := by
  unfold pmA
  go_simp
set_option maxRecDepth 100000 in
set_option maxHeartbeats 4000000 in
theorem pp15_any (A : Nat → Addr) (hC : PaC A) (b : List UInt8) (o : Option Addr) (c : Nat) (p : Pm15) (hok : p.ok) (w : World) (hR : RowIs w o (bytesV b) c) (hE : Er.Errs w A) (hT : Er.EType w) (hWd : Wd15 w) :
    Calls Tryd.prog 4 #[.slice o b.length c, .agg (pmA p)] w fun e w' => e = .returned (.bool true) ∧ Below w.heap.size w w' := by
  obtain ⟨g, hg⟩ : ∃ g, w.heap.size = g := ⟨_, rfl⟩
  obtain ⟨W1, hW1⟩ : ∃ W1, w.alloc (.cells (pmA p) 23) = W1 := ⟨_, rfl⟩
  have hA1 : Arr W1 g 23 (pmL p) := by rw [← hW1, ← hg]; exact World.alloc_heap_new w _
  have hb1 : Below w.heap.size w W1 := by rw [← hW1]; exact new12 _ _
  have HWD := Lib.hid hWd
  clear hWd
  have HAL := Lib.hid (al15_any A hC W1 (hE.e15.later hb1) (hT.later hb1))
  have HA1 := Lib.hid hA1
  have HB1 := Lib.hid hb1
  have HW1 := Lib.hid hW1
  have HG := Lib.hid hg
  have HR := Lib.hid hR
  have HE := Lib.hid hE
  have HC := Lib.hid hC
  have HOK := Lib.hid hok
  obtain ⟨Q, hQ⟩ : ∃ Q, pmA p = Q := ⟨_, rfl⟩
  have HQ := Lib.hid hQ
  rw [hQ] at HW1 ⊢
  clear hA1 hb1 hW1 hg hR hE hC hok hT hQ
  go_enter Tryd.func4, Tryd.ntmps4
  go_upto_region 1 with fail
  rw [HW1.out, HG.out]
  go_wp2_with fail
  refine HAL.out.mono ?_
  rintro e W2 ⟨rfl, hb2⟩
  have HB2 := Lib.hid (Kit.step HB1.out hb2)
  have HA2 := Lib.hid (HA1.out.later hb2 HA1.out.lt)
  have HR2 := Lib.hid (HR.out.later HB2.out)
  clear hb2 HA1 HAL
  obtain ⟨L, hL⟩ : ∃ L, b.length = L := ⟨_, rfl⟩
  have HL := Lib.hid hL
  rw [hL]
  clear hL
  by_cases l60 : 60 < L
  · have d1 : decide ((L : Int) > 60) = true := decide_eq_true (by omega)
    have d2 : decide (60 < L) = true := decide_eq_true l60
    clear l60
    go_wp2_with fail
    go_ret
    exact ⟨rfl, HB2.out⟩
  have H60 : Hid (L ≤ 60) := Lib.hid (by omega)
  have d1 : decide ((L : Int) > 60) = false := decide_eq_false (by omega)
  have d2 : decide (60 < L) = false := decide_eq_false l60
  clear l60
  have hby := bytes_any b o c W2 HR2.out (by rw [HL.out]; have := H60.out; omega)
  rw [HL.out] at hby
  have BY := Lib.hid hby
  clear hby
  go_upto_region 5 with fail
  go_wp2_with fail
  refine BY.out.mono ?_
  rintro e W3 ⟨B, rfl, hb3, hB3, hM3⟩
  rw [HL.out]
  have hb3' := Kit.step HB2.out hb3
  have hpa := HC.out.parse W3 b _ _ (hM3.row (by rw [HL.out]; have := H60.out; unfold maxLen; omega)) (by rw [HL.out]; exact H60.out) (HE.out.later hb3').e15 (tabIs_later HWD.out hb3')
  rw [HL.out] at hpa
  have HPA := Lib.hid hpa
  have HB3 := Lib.hid hb3'
  have HM3 := Lib.hid hM3
  have HA3 := Lib.hid (HA2.out.later hb3 HA2.out.lt)
  clear hb3 hB3 hM3 hb3' hpa HA2 HR2 BY
  go_upto_region 6 with fail
  apply wp_region_lit
  (refine wpList_plain rfl (fun K hK => ?_); go_simp; refine hK _ _ ?_; clear hK K)
  (refine wpList_plain rfl (fun K hK => ?_); go_simp)
  refine HPA.out.mono ?_
  rintro e W4 ⟨v, rfl, hv4, hb4⟩
  refine hK _ _ ?_
  clear hK K HPA
  obtain ⟨g4, hg4⟩ : ∃ g4, W4.heap.size = g4 := ⟨_, rfl⟩
  obtain ⟨W5, hW5⟩ : ∃ W5, W4.alloc (.cells #[.int .i64 0, .int .i64 0, .int .i64 0, .int .i64 0, .int .i64 0, .int .i64 0] 23) = W5 := ⟨_, rfl⟩
  have hz4 : W5.heap[g4]? = some (.cells #[.int .i64 0, .int .i64 0, .int .i64 0, .int .i64 0, .int .i64 0, .int .i64 0] 23 (0, 0)) := by rw [← hW5, ← hg4]; exact World.alloc_heap_new W4 _
  obtain ⟨W6, hW6⟩ : ∃ W6, W5.setRow g4 (pmA (Da.out15 b)) = W6 := ⟨_, rfl⟩
  have hA6 : Arr W6 g4 23 (pmL (Da.out15 b)) := by rw [← hW6]; exact setRow_heap _ _ _ _ _ _ hz4
  have hb6 : Below W4.heap.size W4 W6 := by rw [← hW6, ← hW5]; exact (new12 _ _).trans (below_row (Nat.le_of_eq hg4))
  have hb46 := Kit.step hb4 hb6
  have hb6' := Kit.step HB3.out hb46
  have hrp := rparse15_any b o c W6 (HR.out.later hb6') (by rw [HL.out]; have := H60.out; omega)
  rw [HL.out] at hrp
  have HRP := Lib.hid hrp
  have HV := Lib.hid (hv4.later hb6)
  have HM6 := Lib.hid (HM3.out.later hb46)
  have HA6 := Lib.hid (HA3.out.later hb46 HA3.out.lt)
  have HB6 := Lib.hid hb6'
  have HX6 := Lib.hid hA6
  have HZ4 := Lib.hid hz4
  have HG4 := Lib.hid hg4
  have HW5 := Lib.hid hW5
  have HW6 := Lib.hid hW6
  clear hb4 hb6 hb46 hb6' hrp hv4 hz4 hg4 hW5 hW6 hA6 HM3 HA3
  (refine wpList_plain rfl (fun K hK => ?_); go_simp; refine hK _ _ ?_; clear hK K)
  (refine wpList_plain rfl (fun K hK => ?_); go_simp; refine hK _ _ ?_; clear hK K)
  (refine wpList_plain rfl (fun K hK => ?_); go_simp; refine hK _ _ ?_; clear hK K)
  (refine wpList_plain rfl (fun K hK => ?_); go_simp; refine hK _ _ ?_; clear hK K)
  rw [HW5.out, HG4.out]
  -- STOP1
  refine wpList_store_row rfl 23 (.tmp 6) (.tmp 24) rfl g4 (pmA (Da.out15 b)) rfl rfl 23 _ HZ4.out pm15c_info rfl (pm15_oneCell _) ?_
  rw [HW6.out]
  (refine wpList_plain rfl (fun K hK => ?_); go_simp; refine hK _ _ ?_; clear hK K)
  refine wpList_nil ?_
  go_upto_region 7 with fail
  apply wp_region_lit
  (refine wpList_plain rfl (fun K hK => ?_); go_simp; refine hK _ _ ?_; clear hK K)
  (refine wpList_plain rfl (fun K hK => ?_); go_simp)
  refine HRP.out.mono ?_
  rintro e W7 ⟨rfl, hb7⟩
  refine hK _ _ ?_
  clear hK K HRP
  obtain ⟨g7, hg7⟩ : ∃ g7, W7.heap.size = g7 := ⟨_, rfl⟩
  obtain ⟨W8, hW8⟩ : ∃ W8, W7.alloc (.cells #[.int .i64 0, .int .i64 0, .int .i64 0, .int .i64 0, .int .i64 0, .int .i64 0] 25) = W8 := ⟨_, rfl⟩
  have hz7 : W8.heap[g7]? = some (.cells #[.int .i64 0, .int .i64 0, .int .i64 0, .int .i64 0, .int .i64 0, .int .i64 0] 25 (0, 0)) := by rw [← hW8, ← hg7]; exact World.alloc_heap_new W7 _
  obtain ⟨W9, hW9⟩ : ∃ W9, W8.setRow g7 (pmA (Da.out15 b)) = W9 := ⟨_, rfl⟩
  have hA9 : Arr W9 g7 25 (pmL (Da.out15 b)) := by rw [← hW9]; exact setRow_heap _ _ _ _ _ _ hz7
  have hb9 : Below W7.heap.size W7 W9 := by rw [← hW9, ← hW8]; exact (new12 _ _).trans (below_row (Nat.le_of_eq hg7))
  have hb79 := Kit.step hb7 hb9
  have HV9 := Lib.hid (HV.out.later hb79)
  have HM9 := Lib.hid (HM6.out.later hb79)
  have HA9 := Lib.hid (HA6.out.later hb79 HA6.out.lt)
  have HX9 := Lib.hid (HX6.out.later hb79 HX6.out.lt)
  have hb9' := Kit.step HB6.out hb79
  have HNUM := Lib.hid (prv_num HC.out.unwrap A b v W9 (HE.out.later hb9') HV9.out)
  have HB9 := Lib.hid hb9'
  have HY9 := Lib.hid hA9
  have HZ7 := Lib.hid hz7
  have HG7 := Lib.hid hg7
  have HW8 := Lib.hid hW8
  have HW9 := Lib.hid hW9
  clear hb7 hb9 hb79 hb9' hz7 hg7 hW8 hW9 hA9 HM6 HA6 HV HX6
  (refine wpList_plain rfl (fun K hK => ?_); go_simp; refine hK _ _ ?_; clear hK K)
  (refine wpList_plain rfl (fun K hK => ?_); go_simp; refine hK _ _ ?_; clear hK K)
  (refine wpList_plain rfl (fun K hK => ?_); go_simp; refine hK _ _ ?_; clear hK K)
  (refine wpList_plain rfl (fun K hK => ?_); go_simp; refine hK _ _ ?_; clear hK K)
  rw [HW8.out, HG7.out]
  refine wpList_store_row rfl 25 (.tmp 8) (.tmp 29) rfl g7 (pmA (Da.out15 b)) rfl rfl 25 _ HZ7.out pm15_info rfl (pm15_oneCell _) ?_
  rw [HW9.out]
  (refine wpList_plain rfl (fun K hK => ?_); go_simp; refine hK _ _ ?_; clear hK K)
  refine wpList_nil ?_
  obtain ⟨N, hN⟩ : ∃ N, Da.prn15 b = N := ⟨_, rfl⟩
  rw [hN] at HNUM ⊢
  clear hN
  -- STOP2
  obtain ⟨X, hX⟩ : ∃ X, Da.out15 b = X := ⟨_, rfl⟩
  rw [hX] at HX9 HY9 ⊢
  clear hX
  go_upto_region 8 with fail
  apply wp_region_lit
  (refine wpList_plain rfl (fun K hK => ?_); go_simp; refine hK _ _ ?_; clear hK K)
  (refine wpList_plain rfl (fun K hK => ?_); go_simp)
  refine HNUM.out.mono ?_
  rintro e W10 ⟨rfl, hb10⟩
  refine hK _ _ ?_
  clear hK K HNUM
  have HX10 := Lib.hid (HX9.out.later hb10 HX9.out.lt)
  have HY10 := Lib.hid (HY9.out.later hb10 HY9.out.lt)
  have HA10 := Lib.hid (HA9.out.later hb10 HA9.out.lt)
  have HB10 := Lib.hid (Kit.step HB9.out hb10)
  have hke := kept_any b B o c W10 (HM9.out.later hb10) (HR.out.later HB10.out) (by rw [HL.out]; have := H60.out; omega)
  rw [HL.out] at hke
  have HKE := Lib.hid hke
  clear hb10 hke HX9 HY9 HA9 HM9 HV9
  (refine wpList_plain rfl (fun K hK => ?_); go_simp; refine hK _ _ ?_; clear hK K)
  (refine wpList_plain rfl (fun K hK => ?_); go_simp; refine hK _ _ ?_; clear hK K)
  (refine wpList_plain rfl (fun K hK => ?_); go_simp; refine hK _ _ ?_; clear hK K)
  -- STOP3
  refine BigFrame.wpList_want (by rfl) (fun K hK => wp_load_row 23 (.tmp 6) rfl g4 rfl 23 (pmA X) (0, 0) _ HX10.out Tryd.underlying23 rfl pm15c_info (hK _ _ ?_))
  clear hK K
  refine BigFrame.wpList_want (by rfl) (fun K hK => wp_load_row 25 (.tmp 8) rfl g7 rfl 25 (pmA X) (0, 0) _ HY10.out Tryd.underlying25 rfl pm15_info (hK _ _ ?_))
  clear hK K
  have hq := pm_neqD X
  (refine BigFrame.wpList_want (by rfl) (fun K hK => ?_); go_simp; refine hK _ _ ?_; clear hK K)
  clear hq
  (refine wpList_plain rfl (fun K hK => ?_); go_simp; refine hK _ _ ?_; clear hK K)
  (refine wpList_plain rfl (fun K hK => ?_); go_simp; refine hK _ _ ?_; clear hK K)
  (refine BigFrame.wpList_want (by rfl) (fun K hK => ?_); go_simp; refine hK _ _ ?_; clear hK K)
  (refine BigFrame.wpList_want (by rfl) (fun K hK => ?_); go_simp; refine hK _ _ ?_; clear hK K)
  (refine BigFrame.wpList_want (by rfl) (fun K hK => ?_); go_simp)
  -- STOP4
  refine HKE.out.mono ?_
  rintro e W11 ⟨rfl, hd11⟩
  refine hK _ _ ?_
  clear hK K HKE
  have hb11 := hd11.below
  have HA11 := Lib.hid (HA10.out.later hb11 HA10.out.lt)
  have HB11 := Lib.hid (Kit.step HB10.out hb11)
  clear hd11 hb11 HA10 HX10 HY10
  (refine BigFrame.wpList_want (by rfl) (fun K hK => ?_); go_simp; refine hK _ _ ?_; clear hK K)
  (refine wpList_plain rfl (fun K hK => ?_); go_simp; refine hK _ _ ?_; clear hK K)
  refine wpList_nil ?_
  -- STOP5
  have HRI := Lib.hid (rright15_any p HOK.out W11)
  go_upto_region 10 with fail
  apply wp_region_lit
  refine wpList_load_row rfl 23 (.tmp 3) rfl g rfl 23 (pmA p) (0, 0) _ HA11.out Tryd.underlying23 rfl pm15c_info ?_
  (refine wpList_plain rfl (fun K hK => ?_); go_simp)
  refine HRI.out.mono ?_
  rintro e W12 ⟨rfl, hb12⟩
  refine hK _ _ ?_
  clear hK K HRI
  have HA12 := Lib.hid (HA11.out.later hb12 HA11.out.lt)
  have hb12' := Kit.step HB11.out hb12
  have HBY := Lib.hid (HC.out.bytes W12 p HOK.out (HE.out.later hb12').e15 (tabIs_later HWD.out hb12'))
  have HB12 := Lib.hid hb12'
  clear hb12 hb12' HA11
  by_cases h0 : Da.bad15 p = 0
  case neg =>
    have d1 : decide (Da.bad15 p = 0) = false := decide_eq_false h0
    rw [d1]
    clear h0 d1
    go_wp2_with fail
    go_ret
    exact ⟨rfl, HB12.out⟩
  have d1 : decide (Da.bad15 p = 0) = true := decide_eq_true h0
  rw [d1]
  clear d1
  have H0 := Lib.hid h0
  clear h0
  -- STOP6
  go_upto_region 12 with fail
  apply wp_region_lit
  refine wpList_load_row rfl 23 (.tmp 3) rfl g rfl 23 (pmA p) (0, 0) _ HA12.out Tryd.underlying23 rfl pm15c_info ?_
  (refine wpList_plain rfl (fun K hK => ?_); go_simp)
  refine HBY.out.mono ?_
  rintro e W13 ⟨o2, c2, v2, rfl, hr13, hv13, hb13⟩
  refine hK _ _ ?_
  clear hK K HBY
  have e2 : v2 = .nilIface := by
    rcases hv13 with ⟨_, h⟩ | ⟨h, _⟩
    · exact h
    · exact absurd H0.out h
  subst e2
  have hbt : Da.bts15 p = Da.byt15 p := by unfold Da.bts15; rw [if_pos H0.out]
  rw [hbt] at hr13 ⊢
  have hb13' := Kit.step HB12.out hb13
  have hps : Da.prs15 (Da.byt15 p) = p := Da.prs_byt15 (Da.right15 H0.out)
  have hpn : Da.prn15 (Da.byt15 p) = 0 := by unfold Da.prn15; rw [if_pos (show (Da.byt15 p).length = 9 from rfl), hps, H0.out]; rfl
  have hou : Da.out15 (Da.byt15 p) = p := by unfold Da.out15; rw [if_pos hpn, hps]
  have hpa := HC.out.parse W13 (Da.byt15 p) o2 c2 hr13 (by show 9 ≤ 60; decide) (HE.out.later hb13').e15 (tabIs_later HWD.out hb13')
  rw [hou] at hpa
  rw [show (Da.byt15 p).length = 9 from rfl] at hpa ⊢
  have HPA := Lib.hid hpa
  have HPS := Lib.hid hps
  have HA13 := Lib.hid (HA12.out.later hb13 HA12.out.lt)
  have HB13 := Lib.hid hb13'
  clear hv13 hb13 hbt hpn hou hpa hps hb13' hr13 HA12
  -- STOP7
  (refine wpList_plain rfl (fun K hK => ?_); go_simp; refine hK _ _ ?_; clear hK K)
  (refine wpList_plain rfl (fun K hK => ?_); go_simp; refine hK _ _ ?_; clear hK K)
  (refine wpList_plain rfl (fun K hK => ?_); go_simp; refine hK _ _ ?_; clear hK K)
  (refine wpList_plain rfl (fun K hK => ?_); go_simp; refine hK _ _ ?_; clear hK K)
  (refine wpList_plain rfl (fun K hK => ?_); go_simp; refine hK _ _ ?_; clear hK K)
  refine wpList_nil ?_
  go_upto_region 13 with fail
  apply wp_region_lit
  (refine wpList_plain rfl (fun K hK => ?_); go_simp; refine hK _ _ ?_; clear hK K)
  (refine wpList_plain rfl (fun K hK => ?_); go_simp)
  refine HPA.out.mono ?_
  rintro e W14 ⟨v3, rfl, hv14, hb14⟩
  refine hK _ _ ?_
  clear hK K HPA
  have e3 : v3 = .nilIface := by
    rcases hv14 with ⟨_, h⟩ | ⟨h, _⟩
    · rw [HPS.out] at h
      rcases h with ⟨_, h⟩ | ⟨h, _⟩
      · exact h
      · exact absurd H0.out h
    · exact absurd rfl h
  subst e3
  obtain ⟨g14, hg14⟩ : ∃ g14, W14.heap.size = g14 := ⟨_, rfl⟩
  obtain ⟨W15, hW15⟩ : ∃ W15, W14.alloc (.cells #[.int .i64 0, .int .i64 0, .int .i64 0, .int .i64 0, .int .i64 0, .int .i64 0] 23) = W15 := ⟨_, rfl⟩
  have hz14 : W15.heap[g14]? = some (.cells #[.int .i64 0, .int .i64 0, .int .i64 0, .int .i64 0, .int .i64 0, .int .i64 0] 23 (0, 0)) := by rw [← hW15, ← hg14]; exact World.alloc_heap_new W14 _
  obtain ⟨W16, hW16⟩ : ∃ W16, W15.setRow g14 (pmA p) = W16 := ⟨_, rfl⟩
  have hA16 : Arr W16 g14 23 (pmL p) := by rw [← hW16]; exact setRow_heap _ _ _ _ _ _ hz14
  have hb16 : Below W14.heap.size W14 W16 := by rw [← hW16, ← hW15]; exact (new12 _ _).trans (below_row (Nat.le_of_eq hg14))
  have hb1416 := Kit.step hb14 hb16
  have HA16 := Lib.hid (HA13.out.later hb1416 HA13.out.lt)
  have HB16 := Lib.hid (Kit.step HB13.out hb1416)
  have HX16 := Lib.hid hA16
  have HZ14 := Lib.hid hz14
  have HG14 := Lib.hid hg14
  have HW15 := Lib.hid hW15
  have HW16 := Lib.hid hW16
  clear hb14 hb16 hb1416 hv14 hz14 hg14 hW15 hW16 hA16 HA13
  (refine wpList_plain rfl (fun K hK => ?_); go_simp; refine hK _ _ ?_; clear hK K)
  (refine wpList_plain rfl (fun K hK => ?_); go_simp; refine hK _ _ ?_; clear hK K)
  (refine wpList_plain rfl (fun K hK => ?_); go_simp; refine hK _ _ ?_; clear hK K)
  (refine wpList_plain rfl (fun K hK => ?_); go_simp; refine hK _ _ ?_; clear hK K)
  rw [HW15.out, HG14.out]
  refine wpList_store_row rfl 23 (.tmp 12) (.tmp 57) rfl g14 (pmA p) rfl rfl 23 _ HZ14.out pm15c_info rfl (pm15_oneCell _) ?_
  rw [HW16.out]
  (refine wpList_plain rfl (fun K hK => ?_); go_simp; refine hK _ _ ?_; clear hK K)
  refine wpList_nil ?_
  -- STOP8
  go_upto_region 14 with fail
  apply wp_region_lit
  (refine wpList_plain rfl (fun K hK => ?_); go_simp; refine hK _ _ ?_; clear hK K)
  (refine wpList_plain rfl (fun K hK => ?_); go_simp; refine hK _ _ ?_; clear hK K)
  (refine wpList_plain rfl (fun K hK => ?_); go_simp; refine hK _ _ ?_; clear hK K)
  (refine BigFrame.wpList_want (by rfl) (fun K hK => ?_); go_simp; refine hK _ _ ?_; clear hK K)
  (refine BigFrame.wpList_want (by rfl) (fun K hK => ?_); go_simp; refine hK _ _ ?_; clear hK K)
  (refine wpList_plain rfl (fun K hK => ?_); go_simp; refine hK _ _ ?_; clear hK K)
  (refine wpList_plain rfl (fun K hK => ?_); go_simp; refine hK _ _ ?_; clear hK K)
  refine BigFrame.wpList_want (by rfl) (fun K hK => wp_load_row 23 (.tmp 12) rfl g14 rfl 23 (pmA p) (0, 0) _ HX16.out Tryd.underlying23 rfl pm15c_info (hK _ _ ?_))
  clear hK K
  refine BigFrame.wpList_want (by rfl) (fun K hK => wp_load_row 23 (.tmp 3) rfl g rfl 23 (pmA p) (0, 0) _ HA16.out Tryd.underlying23 rfl pm15c_info (hK _ _ ?_))
  clear hK K
  have hq : ∀ W, (binOp .eql 23 (.agg (pmA p)) (.agg (pmA p))).run Tryd.prog W = .ok (.bool true) W := fun W => by
    have := pm_eqlC p p W
    rw [pmQ_self] at this
    exact this
  (refine BigFrame.wpList_want (by rfl) (fun K hK => ?_); go_simp; refine hK _ _ ?_; clear hK K)
  clear hq
  (refine wpList_plain rfl (fun K hK => ?_); go_simp; refine hK _ _ ?_; clear hK K)
  (refine wpList_plain rfl (fun K hK => ?_); go_simp; refine hK _ _ ?_; clear hK K)
  refine wpList_nil ?_
  -- STOP9
  go_wp2_with fail
  go_ret
  exact ⟨rfl, HB16.out⟩
end Go.Proofs.YtomkkkbdipcjgaaDoor
namespace Go.Proofs.YtomkkkbdipcjgaaDoor
open Go.RowKit
set_option linter.unusedVariables false
set_option linter.unusedSimpArgs false
theorem eql_nil15 (v : World) : (binOp .eql 29 .nilIface .nilIface).run Tryd.prog v = .ok (.bool true) v := by kernel_rfl
theorem wrv_field {A : Nat → Addr} (hC : PaC A) (p : Pm15) (v : Value) (w : World) (hT : Er.EType w) (h : WrV A p w v) :
    Calls Tryd.prog 10 #[v] w fun e w' => e = .returned (.tuple #[txt15 (Da.fld15 (Da.bad15 p)), .int .i64 (Da.val15 p (Da.bad15 p)), .bool (!decide (Da.bad15 p = 0))]) ∧ Below w.heap.size w w' := by
  rcases h with ⟨h0, rfl⟩ | ⟨h0, b, rfl, hw⟩
  · rw [h0]
    exact hC.fnil w hT
  · have h := hC.fwr w b _ _ _ hw hT
    rw [show decide (Da.bad15 p = 0) = false from decide_eq_false h0]
    exact h
/-- what each operation of the region has as its result -/
def PqG (C : Array Value) (B : List UInt8) (TT : Nat) (SE PE PA RE : Int) (g : Nat) (i : Nat) (x : Value) (v : World) : Prop :=
  match i with
  | 0 | 3 | 7 => (x) = .nilIface
  | 11 | 13 => (x) = .int .i64 ((TT : Int) + SE)
  | 12 | 24 | 30 | 44 => (x) = .agg C
  | 17 | 18 => (x) = .int .i64 (TT : Int)
  | 22 | 25 => RowV (B) (x) v
  | 23 | 26 => (x) = .string ⟨(B).toArray⟩
  | 31 | 40 => (x) = .int .i64 (PE + PA * (1 + RE))
  | 32 => (x) = .pointer (some ⟨g, 3, none⟩)
  | 33 => (x) = .int .i64 PE
  | 34 => (x) = .pointer (some ⟨g, 4, none⟩)
  | 35 => (x) = .int .i64 PA
  | 36 => (x) = .pointer (some ⟨g, 5, none⟩)
  | 37 => (x) = .int .i64 RE
  | 38 => (x) = .int .i64 (1 + RE)
  | 39 => (x) = .int .i64 (PA * (1 + RE))
  | 45 | 47 => (x) = .int .i64 SE
  | 46 => (x) = .pointer (some ⟨g, 1, none⟩)
  | _ => (x) = .bool true
theorem PqG.later {C : Array Value} {B : List UInt8} {TT : Nat} {SE PE PA RE : Int} {g : Nat} (i : Nat) (x : Value) (v v' : World) (h : PqG C B TT SE PE PA RE g i x v) (hb : Below v.heap.size v v') : PqG C B TT SE PE PA RE g i x v' := by
  unfold PqG at *
  split at h <;> first | exact h | exact h.later hb
set_option maxRecDepth 100000 in
set_option maxHeartbeats 4000000 in
theorem pq15_any (A : Nat → Addr) (hC : PaC A) (p : Pm15) (hok : p.ok) (w : World) (hE : Er.Errs w A) (hT : Er.EType w) (hWd : Wd15 w) :
    Calls Tryd.prog 3 #[.agg (pmA p)] w fun e w' => e = .returned (.bool true) ∧ Below w.heap.size w w' := by
  obtain ⟨g, hg⟩ : ∃ g, w.heap.size = g := ⟨_, rfl⟩
  obtain ⟨W1, hW1⟩ : ∃ W1, w.alloc (.cells (pmA p) 23) = W1 := ⟨_, rfl⟩
  have hA1 : Arr W1 g 23 (pmL p) := by rw [← hW1, ← hg]; exact World.alloc_heap_new w _
  have hb1 : Below w.heap.size w W1 := by rw [← hW1]; exact new12 _ _
  have HWD := Lib.hid hWd
  clear hWd
  have HAL := Lib.hid (al15_any A hC W1 (hE.e15.later hb1) (hT.later hb1))
  have HA1 := Lib.hid hA1
  have HB1 := Lib.hid hb1
  have HW1 := Lib.hid hW1
  have HG := Lib.hid hg
  have HE := Lib.hid hE
  have HT := Lib.hid hT
  have HC := Lib.hid hC
  have HOK := Lib.hid hok
  obtain ⟨Q, hQ⟩ : ∃ Q, pmA p = Q := ⟨_, rfl⟩
  have HQ := Lib.hid hQ
  rw [hQ] at HW1 ⊢
  clear hA1 hb1 hW1 hg hE hC hok hT hQ
  go_enter Tryd.func3, Tryd.ntmps3
  go_upto_region 1 with fail
  rw [HW1.out, HG.out]
  go_wp2_with fail
  refine HAL.out.mono ?_
  rintro e W2 ⟨rfl, hb2⟩
  have HB2 := Lib.hid (Kit.step HB1.out hb2)
  have HA2 := Lib.hid (HA1.out.later hb2 HA1.out.lt)
  clear hb2 HA1 HAL HB1
  go_upto_region 3 with fail
  apply wp_region_lit
  refine wpList_load_row rfl 23 (.tmp 1) rfl g rfl 23 (pmA p) (0, 0) _ HA2.out Tryd.underlying23 rfl pm15c_info ?_
  obtain ⟨g4, hg4⟩ : ∃ g4, W2.heap.size = g4 := ⟨_, rfl⟩
  obtain ⟨W3, hW3⟩ : ∃ W3, W2.alloc (.cells #[.int .i64 0, .int .i64 0, .int .i64 0, .int .i64 0, .int .i64 0, .int .i64 0] 25) = W3 := ⟨_, rfl⟩
  have hz : W3.heap[g4]? = some (.cells #[.int .i64 0, .int .i64 0, .int .i64 0, .int .i64 0, .int .i64 0, .int .i64 0] 25 (0, 0)) := by rw [← hW3, ← hg4]; exact World.alloc_heap_new W2 _
  obtain ⟨W4, hW4⟩ : ∃ W4, W3.setRow g4 (pmA p) = W4 := ⟨_, rfl⟩
  have hA4 : Arr W4 g4 25 (pmL p) := by rw [← hW4]; exact setRow_heap _ _ _ _ _ _ hz
  have hb4 : Below W2.heap.size W2 W4 := by rw [← hW4, ← hW3]; exact (new12 _ _).trans (below_row (Nat.le_of_eq hg4))
  have HY4 := Lib.hid hA4
  have HA4 := Lib.hid (HA2.out.later hb4 HA2.out.lt)
  have HB4 := Lib.hid (Kit.step HB2.out hb4)
  have HZ := Lib.hid hz
  have HG4 := Lib.hid hg4
  have HW3 := Lib.hid hW3
  have HW4 := Lib.hid hW4
  have HRC := Lib.hid (rchk15_any p HOK.out W4)
  clear hb4 hA4 hz hg4 hW3 hW4 HA2
  (refine wpList_plain rfl (fun K hK => ?_); go_simp; refine hK _ _ ?_; clear hK K)
  rw [HW3.out, HG4.out]
  refine wpList_store_row rfl 25 (.tmp 3) (.tmp 21) rfl g4 (pmA p) rfl rfl 25 _ HZ.out pm15_info rfl (pm15_oneCell _) ?_
  rw [HW4.out]
  refine wpList_nil ?_
  -- STOP1
  go_upto_region 4 with fail
  apply wp_region_lit
  refine wpList_load_row rfl 25 (.tmp 3) rfl g4 rfl 25 (pmA p) (0, 0) _ HY4.out Tryd.underlying25 rfl pm15_info ?_
  (refine wpList_plain rfl (fun K hK => ?_); go_simp)
  refine HRC.out.mono ?_
  rintro e W5 ⟨rfl, hb5⟩
  refine hK _ _ ?_
  clear hK K HRC
  have HA5 := Lib.hid (HA4.out.later hb5 HA4.out.lt)
  have HY5 := Lib.hid (HY4.out.later hb5 HY4.out.lt)
  have HB5 := Lib.hid (Kit.step HB4.out hb5)
  clear hb5 HB4 HA4 HY4
  have HCK := Lib.hid (HC.out.check W5 p HOK.out (HE.out.later HB5.out).e15)
  (refine wpList_plain rfl (fun K hK => ?_); go_simp; refine hK _ _ ?_; clear hK K)
  (refine wpList_plain rfl (fun K hK => ?_); go_simp; refine hK _ _ ?_; clear hK K)
  (refine wpList_plain rfl (fun K hK => ?_); go_simp; refine hK _ _ ?_; clear hK K)
  (refine wpList_plain rfl (fun K hK => ?_); go_simp; refine hK _ _ ?_; clear hK K)
  (refine wpList_plain rfl (fun K hK => ?_); go_simp; refine hK _ _ ?_; clear hK K)
  (refine wpList_plain rfl (fun K hK => ?_); go_simp; refine hK _ _ ?_; clear hK K)
  (refine wpList_plain rfl (fun K hK => ?_); go_simp; refine hK _ _ ?_; clear hK K)
  refine wpList_nil ?_
  -- STOP2
  go_upto_region 5 with fail
  apply wp_region_lit
  refine wpList_load_row rfl 23 (.tmp 1) rfl g rfl 23 (pmA p) (0, 0) _ HA5.out Tryd.underlying23 rfl pm15c_info ?_
  (refine wpList_plain rfl (fun K hK => ?_); go_simp)
  refine HCK.out.mono ?_
  rintro e W6 ⟨v, rfl, hv, hb6⟩
  refine hK _ _ ?_
  clear hK K HCK
  have HA6 := Lib.hid (HA5.out.later hb6 HA5.out.lt)
  have HY6 := Lib.hid (HY5.out.later hb6 HY5.out.lt)
  have HB6 := Lib.hid (Kit.step HB5.out hb6)
  clear hb6 HB5 HA5 HY5
  have HV6 := Lib.hid hv
  have HFI := Lib.hid (wrv_field HC.out p v W6 (HT.out.later HB6.out) hv)
  clear hv
  (refine wpList_plain rfl (fun K hK => ?_); go_simp; refine hK _ _ ?_; clear hK K)
  refine wpList_nil ?_
  go_upto_region 6 with fail
  apply wp_region_lit
  (refine wpList_plain rfl (fun K hK => ?_); go_simp; refine hK _ _ ?_; clear hK K)
  (refine wpList_plain rfl (fun K hK => ?_); go_simp)
  refine HFI.out.mono ?_
  rintro e W7 ⟨rfl, hb7⟩
  refine hK _ _ ?_
  clear hK K HFI
  have HA7 := Lib.hid (HA6.out.later hb7 HA6.out.lt)
  have HY7 := Lib.hid (HY6.out.later hb7 HY6.out.lt)
  have HV7 := Lib.hid (HV6.out.later hb7)
  have HB7 := Lib.hid (Kit.step HB6.out hb7)
  clear hb7 HB6 HA6 HY6 HV6
  have HNU := Lib.hid (wrv_num HC.out.unwrap A p v W7 (HE.out.later HB7.out) HV7.out)
  have HST : Hid (∀ u, E15 u A → Calls Tryd.prog 12 #[.agg (pmA p)] u fun e w' => ∃ v, e = .returned (.tuple #[.int .i64 (if Da.bad15 p = 0 then (Da.tot15 p.sz : Int) + p.se else 0), v]) ∧ WrV A p w' v ∧ Below u.heap.size u w') := Lib.hid fun u h => HC.out.stored u p HOK.out h
  have HPL : Hid (∀ u, E15 u A → Calls Tryd.prog 13 #[.agg (pmA p)] u fun e w' => ∃ v, e = .returned (.tuple #[.int .i64 (if Da.bad15 p = 0 then (Da.tot15 p.sz : Int) else 0), v]) ∧ WrV A p w' v ∧ Below u.heap.size u w') := Lib.hid fun u h => HC.out.plain u p HOK.out h
  have HBY : Hid (∀ u, E15 u A → Wd15 u → Calls Tryd.prog 14 #[.agg (pmA p)] u fun e w' => ∃ o c v, e = .returned (.tuple #[.slice o (Da.bts15 p).length c, v]) ∧ RowIs w' o (bytesV (Da.bts15 p)) c ∧ WrV A p w' v ∧ Below u.heap.size u w') := Lib.hid fun u h hw => HC.out.bytes u p HOK.out h hw
  have HWI : Hid (∀ u, E15 u A → Calls Tryd.prog 15 #[.agg (pmA p)] u fun e w' => e = .returned (.int .i64 (Da.win15 p)) ∧ Below u.heap.size u w') := Lib.hid fun u h => HC.out.window u p HOK.out h
  have HBU : Hid (∀ u, E15 u A → Calls Tryd.prog 16 #[.agg (pmA p)] u fun e w' => e = .returned (.int .i64 (if Da.bad15 p = 0 then p.se else 0)) ∧ Below u.heap.size u w') := Lib.hid fun u h => HC.out.budget u p HOK.out h
  have HNM : Hid (∀ u x, Er.Errs u A → WrV A p u x → Calls Tryd.prog 11 #[x] u fun e w' => e = .returned (.int .i64 ((Da.err15 (Da.bad15 p) : Nat) : Int)) ∧ Below u.heap.size u w') := Lib.hid fun u x h1 h2 => wrv_num HC.out.unwrap A p x u h1 h2
  have hez := Da.err15_zero (Da.bad15_le p)
  (refine wpList_plain rfl (fun K hK => ?_); go_simp; refine hK _ _ ?_; clear hK K)
  (refine wpList_plain rfl (fun K hK => ?_); go_simp; refine hK _ _ ?_; clear hK K)
  (refine wpList_plain rfl (fun K hK => ?_); go_simp; refine hK _ _ ?_; clear hK K)
  (refine wpList_plain rfl (fun K hK => ?_); go_simp; refine hK _ _ ?_; clear hK K)
  (refine wpList_plain rfl (fun K hK => ?_); go_simp; refine hK _ _ ?_; clear hK K)
  (refine wpList_plain rfl (fun K hK => ?_); go_simp; refine hK _ _ ?_; clear hK K)
  (refine wpList_plain rfl (fun K hK => ?_); go_simp; refine hK _ _ ?_; clear hK K)
  refine wpList_nil ?_
  -- STOP3
  unfold txt15
  obtain ⟨D, hD⟩ : ∃ D, (!decide (Da.bad15 p = 0)) = D := ⟨_, rfl⟩
  obtain ⟨E, hEE⟩ : ∃ E, Da.err15 (Da.bad15 p) = E := ⟨_, rfl⟩
  obtain ⟨S, hS⟩ : ∃ S, (⟨(Da.fld15 (Da.bad15 p)).toArray⟩ : ByteArray) = S := ⟨_, rfl⟩
  obtain ⟨VV, hVV⟩ : ∃ VV, Da.val15 p (Da.bad15 p) = VV := ⟨_, rfl⟩
  rw [hEE] at HNU HNM hez
  rw [hD, hEE, hS, hVV]
  have HDE : Hid (((E : Int) != 0) = D) := Lib.hid (by
    rw [← hD]
    by_cases h : E = 0
    · rw [hez.1 h, h]; rfl
    · have h1 : ((E : Int) != 0) = true := by rw [bne_iff_ne]; omega
      rw [h1, decide_eq_false (fun h2 => h (hez.2 h2))]; rfl)
  have HEZ := Lib.hid hez
  clear hD hEE hS hVV hez
  go_upto_region 7 with fail
  apply wp_region_lit
  (refine wpList_plain rfl (fun K hK => ?_); go_simp; refine hK _ _ ?_; clear hK K)
  (refine wpList_plain rfl (fun K hK => ?_); go_simp)
  refine HNU.out.mono ?_
  rintro e W8 ⟨rfl, hb8⟩
  refine hK _ _ ?_
  clear hK K HNU
  have HA8 := Lib.hid (HA7.out.later hb8 HA7.out.lt)
  have HY8 := Lib.hid (HY7.out.later hb8 HY7.out.lt)
  have HV8 := Lib.hid (HV7.out.later hb8)
  have HB8 := Lib.hid (Kit.step HB7.out hb8)
  clear hb8 HB7 HA7 HY7 HV7
  (refine wpList_plain rfl (fun K hK => ?_); go_simp; refine hK _ _ ?_; clear hK K)
  (refine wpList_plain rfl (fun K hK => ?_); go_simp; refine hK _ _ ?_; clear hK K)
  (refine wpList_plain rfl (fun K hK => ?_); go_simp; refine hK _ _ ?_; clear hK K)
  (refine BigFrame.wpList_want (by rfl) (fun K hK => ?_); go_simp; refine hK _ _ ?_; clear hK K)
  (refine BigFrame.wpList_want (by rfl) (fun K hK => ?_); go_simp; refine hK _ _ ?_; clear hK K)
  have hde := HDE.out
  (refine BigFrame.wpList_want (by rfl) (fun K hK => ?_); go_simp; refine hK _ _ ?_; clear hK K)
  -- STOP4
  (refine BigFrame.wpList_want (by rfl) (fun K hK => ?_); go_simp; refine hK _ _ ?_; clear hK K)
  (refine wpList_plain rfl (fun K hK => ?_); go_simp; refine hK _ _ ?_; clear hK K)
  (refine wpList_plain rfl (fun K hK => ?_); go_simp; refine hK _ _ ?_; clear hK K)
  (refine BigFrame.wpList_want (by rfl) (fun K hK => ?_); go_simp; refine hK _ _ ?_; clear hK K)
  (refine BigFrame.wpList_want (by rfl) (fun K hK => ?_); go_simp; refine hK _ _ ?_; clear hK K)
  (refine BigFrame.wpList_want (by rfl) (fun K hK => ?_); go_simp; refine hK _ _ ?_; clear hK K)
  (refine wpList_plain rfl (fun K hK => ?_); go_simp; refine hK _ _ ?_; clear hK K)
  (refine wpList_plain rfl (fun K hK => ?_); go_simp; refine hK _ _ ?_; clear hK K)
  (refine BigFrame.wpList_want (by rfl) (fun K hK => ?_); go_simp; refine hK _ _ ?_; clear hK K)
  (refine BigFrame.wpList_want (by rfl) (fun K hK => ?_); go_simp; refine hK _ _ ?_; clear hK K)
  (refine BigFrame.wpList_want (by rfl) (fun K hK => ?_); go_simp; refine hK _ _ ?_; clear hK K)
  (refine wpList_plain rfl (fun K hK => ?_); go_simp; refine hK _ _ ?_; clear hK K)
  refine wpList_nil ?_
  clear hde
  -- STOP5
  have HST8 := Lib.hid (HST.out W8 (HE.out.later HB8.out).e15)
  go_upto_region 9 with fail
  apply wp_region_lit
  refine wpList_load_row rfl 23 (.tmp 1) rfl g rfl 23 (pmA p) (0, 0) _ HA8.out Tryd.underlying23 rfl pm15c_info ?_
  (refine wpList_plain rfl (fun K hK => ?_); go_simp)
  refine HST8.out.mono ?_
  rintro e W9 ⟨v1, rfl, hv1, hb9⟩
  refine hK _ _ ?_
  clear hK K HST8
  have HA9 := Lib.hid (HA8.out.later hb9 HA8.out.lt)
  have HY9 := Lib.hid (HY8.out.later hb9 HY8.out.lt)
  have HB9 := Lib.hid (Kit.step HB8.out hb9)
  clear hb9 HB8 HA8 HY8
  have HV1 := Lib.hid hv1
  clear hv1
  have HPL9 := Lib.hid (HPL.out W9 (HE.out.later HB9.out).e15)
  (refine wpList_plain rfl (fun K hK => ?_); go_simp; refine hK _ _ ?_; clear hK K)
  (refine wpList_plain rfl (fun K hK => ?_); go_simp; refine hK _ _ ?_; clear hK K)
  (refine wpList_plain rfl (fun K hK => ?_); go_simp; refine hK _ _ ?_; clear hK K)
  (refine wpList_plain rfl (fun K hK => ?_); go_simp; refine hK _ _ ?_; clear hK K)
  (refine wpList_plain rfl (fun K hK => ?_); go_simp; refine hK _ _ ?_; clear hK K)
  refine wpList_nil ?_
  go_upto_region 10 with fail
  apply wp_region_lit
  refine wpList_load_row rfl 23 (.tmp 1) rfl g rfl 23 (pmA p) (0, 0) _ HA9.out Tryd.underlying23 rfl pm15c_info ?_
  (refine wpList_plain rfl (fun K hK => ?_); go_simp)
  refine HPL9.out.mono ?_
  rintro e W10 ⟨v2, rfl, hv2, hb10⟩
  refine hK _ _ ?_
  clear hK K HPL9
  have HV1b := Lib.hid (HV1.out.later hb10)
  have HA10 := Lib.hid (HA9.out.later hb10 HA9.out.lt)
  have HY10 := Lib.hid (HY9.out.later hb10 HY9.out.lt)
  have HB10 := Lib.hid (Kit.step HB9.out hb10)
  clear hb10 HB9 HA9 HY9
  have HV2 := Lib.hid hv2
  clear hv2 HV1
  have HBY10 := Lib.hid (HBY.out W10 (HE.out.later HB10.out).e15 (tabIs_later HWD.out HB10.out))
  (refine wpList_plain rfl (fun K hK => ?_); go_simp; refine hK _ _ ?_; clear hK K)
  (refine wpList_plain rfl (fun K hK => ?_); go_simp; refine hK _ _ ?_; clear hK K)
  (refine wpList_plain rfl (fun K hK => ?_); go_simp; refine hK _ _ ?_; clear hK K)
  (refine wpList_plain rfl (fun K hK => ?_); go_simp; refine hK _ _ ?_; clear hK K)
  (refine wpList_plain rfl (fun K hK => ?_); go_simp; refine hK _ _ ?_; clear hK K)
  refine wpList_nil ?_
  go_upto_region 11 with fail
  apply wp_region_lit
  refine wpList_load_row rfl 23 (.tmp 1) rfl g rfl 23 (pmA p) (0, 0) _ HA10.out Tryd.underlying23 rfl pm15c_info ?_
  (refine wpList_plain rfl (fun K hK => ?_); go_simp)
  refine HBY10.out.mono ?_
  rintro e W11 ⟨o3, c3, v3, rfl, hr3, hv3, hb11⟩
  refine hK _ _ ?_
  clear hK K HBY10
  have HV1c := Lib.hid (HV1b.out.later hb11)
  have HV2c := Lib.hid (HV2.out.later hb11)
  have HA11 := Lib.hid (HA10.out.later hb11 HA10.out.lt)
  have HY11 := Lib.hid (HY10.out.later hb11 HY10.out.lt)
  have HB11 := Lib.hid (Kit.step HB10.out hb11)
  clear hb11 HB10 HA10 HY10
  have HV3c := Lib.hid hv3
  have HR3 := Lib.hid hr3
  clear hv3 hr3 HV1b HV2
  (refine wpList_plain rfl (fun K hK => ?_); go_simp; refine hK _ _ ?_; clear hK K)
  (refine wpList_plain rfl (fun K hK => ?_); go_simp; refine hK _ _ ?_; clear hK K)
  (refine wpList_plain rfl (fun K hK => ?_); go_simp; refine hK _ _ ?_; clear hK K)
  (refine wpList_plain rfl (fun K hK => ?_); go_simp; refine hK _ _ ?_; clear hK K)
  (refine wpList_plain rfl (fun K hK => ?_); go_simp; refine hK _ _ ?_; clear hK K)
  refine wpList_nil ?_
  -- STOP6
  by_cases h0 : Da.bad15 p = 0
  case neg =>
    have hE0 : E ≠ 0 := fun h => h0 (HEZ.out.1 h)
    have e1 : (((E : Int) != 0) = true) := by rw [bne_iff_ne]; omega
    have e2 : (E == 0) = false := by rw [beq_eq_false_iff_ne]; exact hE0
    have e3 : Da.bts15 p = [] := by unfold Da.bts15; rw [if_neg h0]
    have e4 : Da.win15 p = 0 := by unfold Da.win15; rw [if_neg h0]
    rw [e3, if_neg h0, if_neg h0]
    have HWI2 : Hid (∀ u, E15 u A → Calls Tryd.prog 15 #[.agg (pmA p)] u fun e w' => e = .returned (.int .i64 0) ∧ Below u.heap.size u w') := Lib.hid fun u h => by have := HWI.out u h; rw [e4] at this; exact this
    have HBU2 : Hid (∀ u, E15 u A → Calls Tryd.prog 16 #[.agg (pmA p)] u fun e w' => e = .returned (.int .i64 0) ∧ Below u.heap.size u w') := Lib.hid fun u h => by have := HBU.out u h; rw [if_neg h0] at this; exact this
    have HN11 := Lib.hid (HNM.out W11 v1 (HE.out.later HB11.out) HV1c.out)
    clear e3 e4 hE0 h0
    rw [List.length_nil]
    go_upto_region 13 with fail
    apply wp_region_lit
    (refine wpList_plain rfl (fun K hK => ?_); go_simp; refine hK _ _ ?_; clear hK K)
    (refine wpList_plain rfl (fun K hK => ?_); go_simp; refine hK _ _ ?_; clear hK K)
    (refine wpList_plain rfl (fun K hK => ?_); go_simp; refine hK _ _ ?_; clear hK K)
    (refine BigFrame.wpList_want (by rfl) (fun K hK => ?_); go_simp; refine hK _ _ ?_; clear hK K)
    (refine BigFrame.wpList_want (by rfl) (fun K hK => ?_); go_simp; refine hK _ _ ?_; clear hK K)
    (refine wpList_plain rfl (fun K hK => ?_); go_simp; refine hK _ _ ?_; clear hK K)
    (refine wpList_plain rfl (fun K hK => ?_); go_simp; refine hK _ _ ?_; clear hK K)
    (refine BigFrame.wpList_want (by rfl) (fun K hK => ?_); go_simp; refine hK _ _ ?_; clear hK K)
    (refine BigFrame.wpList_want (by rfl) (fun K hK => ?_); go_simp; refine hK _ _ ?_; clear hK K)
    (refine BigFrame.wpList_want (by rfl) (fun K hK => ?_); go_simp; refine hK _ _ ?_; clear hK K)
    (refine wpList_plain rfl (fun K hK => ?_); go_simp; refine hK _ _ ?_; clear hK K)
    (refine wpList_plain rfl (fun K hK => ?_); go_simp; refine hK _ _ ?_; clear hK K)
    (refine BigFrame.wpList_want (by rfl) (fun K hK => ?_); go_simp; refine hK _ _ ?_; clear hK K)
    (refine BigFrame.wpList_want (by rfl) (fun K hK => ?_); go_simp)
    refine HN11.out.mono ?_
    rintro e W12 ⟨rfl, hb12⟩
    refine hK _ _ ?_
    clear hK K HN11
    have HV2d := Lib.hid (HV2c.out.later hb12)
    have HV3d := Lib.hid (HV3c.out.later hb12)
    have HA12 := Lib.hid (HA11.out.later hb12 HA11.out.lt)
    have HB12 := Lib.hid (Kit.step HB11.out hb12)
    clear hb12 HB11 HA11
    have HN12 := Lib.hid (HNM.out W12 v2 (HE.out.later HB12.out) HV2d.out)
    (refine BigFrame.wpList_want (by rfl) (fun K hK => ?_); go_simp; refine hK _ _ ?_; clear hK K)
    (refine BigFrame.wpList_want (by rfl) (fun K hK => ?_); go_simp; refine hK _ _ ?_; clear hK K)
    (refine wpList_plain rfl (fun K hK => ?_); go_simp; refine hK _ _ ?_; clear hK K)
    (refine wpList_plain rfl (fun K hK => ?_); go_simp; refine hK _ _ ?_; clear hK K)
    (refine BigFrame.wpList_want (by rfl) (fun K hK => ?_); go_simp; refine hK _ _ ?_; clear hK K)
    (refine BigFrame.wpList_want (by rfl) (fun K hK => ?_); go_simp)
    refine HN12.out.mono ?_
    rintro e W13 ⟨rfl, hb13⟩
    refine hK _ _ ?_
    clear hK K HN12
    have HV3e := Lib.hid (HV3d.out.later hb13)
    have HA13 := Lib.hid (HA12.out.later hb13 HA12.out.lt)
    have HB13 := Lib.hid (Kit.step HB12.out hb13)
    clear hb13 HB12 HA12
    have HN13 := Lib.hid (HNM.out W13 v3 (HE.out.later HB13.out) HV3e.out)
    (refine BigFrame.wpList_want (by rfl) (fun K hK => ?_); go_simp; refine hK _ _ ?_; clear hK K)
    (refine BigFrame.wpList_want (by rfl) (fun K hK => ?_); go_simp; refine hK _ _ ?_; clear hK K)
    (refine wpList_plain rfl (fun K hK => ?_); go_simp; refine hK _ _ ?_; clear hK K)
    (refine wpList_plain rfl (fun K hK => ?_); go_simp; refine hK _ _ ?_; clear hK K)
    (refine BigFrame.wpList_want (by rfl) (fun K hK => ?_); go_simp; refine hK _ _ ?_; clear hK K)
    (refine BigFrame.wpList_want (by rfl) (fun K hK => ?_); go_simp)
    refine HN13.out.mono ?_
    rintro e W14 ⟨rfl, hb14⟩
    refine hK _ _ ?_
    clear hK K HN13
    have HA14 := Lib.hid (HA13.out.later hb14 HA13.out.lt)
    have HB14 := Lib.hid (Kit.step HB13.out hb14)
    clear hb14 HB13 HA13
    have HW14 := Lib.hid (HWI2.out W14 (HE.out.later HB14.out).e15)
    (refine BigFrame.wpList_want (by rfl) (fun K hK => ?_); go_simp; refine hK _ _ ?_; clear hK K)
    (refine BigFrame.wpList_want (by rfl) (fun K hK => ?_); go_simp; refine hK _ _ ?_; clear hK K)
    (refine wpList_plain rfl (fun K hK => ?_); go_simp; refine hK _ _ ?_; clear hK K)
    (refine wpList_plain rfl (fun K hK => ?_); go_simp; refine hK _ _ ?_; clear hK K)
    refine BigFrame.wpList_want (by rfl) (fun K hK => wp_load_row 23 (.tmp 1) rfl g rfl 23 (pmA p) (0, 0) _ HA14.out Tryd.underlying23 rfl pm15c_info (hK _ _ ?_))
    clear hK K
    (refine BigFrame.wpList_want (by rfl) (fun K hK => ?_); go_simp)
    refine HW14.out.mono ?_
    rintro e W15 ⟨rfl, hb15⟩
    refine hK _ _ ?_
    clear hK K HW14
    have HA15 := Lib.hid (HA14.out.later hb15 HA14.out.lt)
    have HB15 := Lib.hid (Kit.step HB14.out hb15)
    clear hb15 HB14 HA14
    have HU15 := Lib.hid (HBU2.out W15 (HE.out.later HB15.out).e15)
    (refine BigFrame.wpList_want (by rfl) (fun K hK => ?_); go_simp; refine hK _ _ ?_; clear hK K)
    (refine wpList_plain rfl (fun K hK => ?_); go_simp; refine hK _ _ ?_; clear hK K)
    (refine wpList_plain rfl (fun K hK => ?_); go_simp; refine hK _ _ ?_; clear hK K)
    refine BigFrame.wpList_want (by rfl) (fun K hK => wp_load_row 23 (.tmp 1) rfl g rfl 23 (pmA p) (0, 0) _ HA15.out Tryd.underlying23 rfl pm15c_info (hK _ _ ?_))
    clear hK K
    (refine BigFrame.wpList_want (by rfl) (fun K hK => ?_); go_simp)
    refine HU15.out.mono ?_
    rintro e W16 ⟨rfl, hb16⟩
    refine hK _ _ ?_
    clear hK K HU15
    have HA16 := Lib.hid (HA15.out.later hb16 HA15.out.lt)
    have HB16 := Lib.hid (Kit.step HB15.out hb16)
    clear hb16 HB15 HA15
    (refine BigFrame.wpList_want (by rfl) (fun K hK => ?_); go_simp; refine hK _ _ ?_; clear hK K)
    (refine wpList_plain rfl (fun K hK => ?_); go_simp; refine hK _ _ ?_; clear hK K)
    (refine wpList_plain rfl (fun K hK => ?_); go_simp; refine hK _ _ ?_; clear hK K)
    refine wpList_nil ?_
    -- STOP7
    go_wp2_with fail
    go_ret
    exact ⟨rfl, HB16.out⟩
  -- STOP8
  have R := Da.right15 h0
  have hE0 : E = 0 := HEZ.out.2 h0
  subst hE0
  have en : ∀ u x, WrV A p u x → x = .nilIface := fun u x h => by
    rcases h with ⟨_, h⟩ | ⟨h, _⟩
    · exact h
    · exact absurd h0 h
  obtain rfl := en _ _ HV1c.out
  obtain rfl := en _ _ HV2c.out
  obtain rfl := en _ _ HV3c.out
  clear en
  have ebt : Da.bts15 p = Da.byt15 p := by unfold Da.bts15; rw [if_pos h0]
  have ewi : Da.win15 p = p.pe + p.pa * (1 + p.re) := by unfold Da.win15; rw [if_pos h0]
  rw [ebt, if_pos h0, if_pos h0]
  rw [ebt] at HR3
  rw [ewi] at HWI
  have HBU2 : Hid (∀ u, E15 u A → Calls Tryd.prog 16 #[.agg (pmA p)] u fun e w' => e = .returned (.int .i64 p.se) ∧ Below u.heap.size u w') := Lib.hid fun u h => by have := HBU.out u h; rw [if_pos h0] at this; exact this
  have HH0 := Lib.hid h0
  clear ebt ewi HV1c HV2c HV3c HBU h0
  obtain ⟨L9, hL9⟩ : ∃ L9, (Da.byt15 p).length = L9 := ⟨_, rfl⟩
  have HL9 := Lib.hid hL9
  rw [hL9]
  clear hL9
  have TO := rtotal_any p.sz.toNat W11 (by have := R.s1; omega)
  rw [show ((p.sz.toNat : Nat) : Int) = p.sz by have := R.s0; omega, show totN (nbk p.sz.toNat) = Da.tot15 p.sz from rfl] at TO
  have HTO := Lib.hid TO
  have HRT := Lib.hid R
  clear TO R
  obtain ⟨TT, hTT⟩ : ∃ TT, Da.tot15 p.sz = TT := ⟨_, rfl⟩
  have HTT := Lib.hid hTT
  rw [hTT] at HTO ⊢
  have HSE : Hid (W11.cell? ⟨g, 0, none⟩ = some (.int .i64 p.sz)) := Lib.hid (by rw [HA11.out.cell]; rfl)
  have hc0 := HSE.out
  clear hTT
  -- STOP9
  go_wp2_with fail
  refine HTO.out.mono ?_
  rintro e W12 ⟨rfl, hb12⟩
  have HR3b := Lib.hid (HR3.out.later hb12)
  have HA12 := Lib.hid (HA11.out.later hb12 HA11.out.lt)
  have HY12 := Lib.hid (HY11.out.later hb12 HY11.out.lt)
  have HB12 := Lib.hid (Kit.step HB11.out hb12)
  clear hb12 HB11 HA11 HY11
  clear HTO HSE hc0 HR3
  go_upto_region 15 with fail
  -- STOP10
  have hRT := HRT.out
  obtain ⟨h1, h2, h3, h4, h5, h6, h7, h8, h9, h10, h11, h12, h13⟩ := hRT
  have hmul : 0 ≤ p.pa * (1 + p.re) ∧ p.pa * (1 + p.re) ≤ 60000 := ⟨Int.mul_nonneg (by omega) (by omega), by
    have := Int.mul_le_mul (show p.pa ≤ 10000 by omega) (show 1 + p.re ≤ 6 by omega) (by omega) (by omega)
    omega⟩
  have w1 : IntKind.i64.wrap (1 + p.re) = 1 + p.re := by rw [IntKind.wrap_i64]; omega
  have w2 : IntKind.i64.wrap (p.pa * (1 + p.re)) = p.pa * (1 + p.re) := by rw [IntKind.wrap_i64]; omega
  have w3 : IntKind.i64.wrap (p.pe + p.pa * (1 + p.re)) = p.pe + p.pa * (1 + p.re) := by rw [IntKind.wrap_i64]; omega
  have hB12 := HB12.out
  have hA12 := HA12.out
  have hY12 := HY12.out
  have hC1 : ∀ v, Below W12.heap.size W12 v → v.cell? ⟨g, 1, none⟩ = some (.int .i64 p.se) := fun v hb => by rw [(hA12.later hb hA12.lt).cell]; rfl
  have hC3 : ∀ v, Below W12.heap.size W12 v → v.cell? ⟨g, 3, none⟩ = some (.int .i64 p.pe) := fun v hb => by rw [(hA12.later hb hA12.lt).cell]; rfl
  have hC4 : ∀ v, Below W12.heap.size W12 v → v.cell? ⟨g, 4, none⟩ = some (.int .i64 p.pa) := fun v hb => by rw [(hA12.later hb hA12.lt).cell]; rfl
  have hC5 : ∀ v, Below W12.heap.size W12 v → v.cell? ⟨g, 5, none⟩ = some (.int .i64 p.re) := fun v hb => by rw [(hA12.later hb hA12.lt).cell]; rfl
  have hRowX : ∀ v, Below W12.heap.size W12 v → v.heap[g]? = some (.cells (pmA p) 23 (0, 0)) := fun v hb => hA12.later hb hA12.lt
  have hRowY : ∀ v, Below W12.heap.size W12 v → v.heap[g4]? = some (.cells (pmA p) 25 (0, 0)) := fun v hb => hY12.later hb hY12.lt
  have hiX : (Tryd.prog.info? 23).map (·.size) = some (pmA p).size := pm15c_info
  have hiY : (Tryd.prog.info? 25).map (·.size) = some (pmA p).size := pm15_info
  have hSTO : ∀ v, Below W12.heap.size W12 v → Calls Tryd.prog 18 #[.agg (pmA p)] v fun e w' => ∃ r, e = .returned r ∧ r = .int .i64 ((TT : Int) + p.se) ∧ Below v.heap.size v w' := fun v hb => by
    have := rstored15_any p HRT.out v
    rw [HTT.out] at this
    exact this.mono fun e w' h => ⟨_, h.1, rfl, h.2⟩
  have hBYT : ∀ v, Below W12.heap.size W12 v → Calls Tryd.prog 19 #[.agg (pmA p)] v fun e w' => ∃ r, e = .returned r ∧ RowV (Da.byt15 p) r w' ∧ Below v.heap.size v w' := fun v hb =>
    (rbytes15_any p HRT.out v).mono fun e w' h => by
      obtain ⟨o, c, rfl, hr, hb⟩ := h
      exact ⟨_, rfl, ⟨o, c, rfl, hr⟩, hb⟩
  have hWIN : ∀ v, Below W12.heap.size W12 v → Calls Tryd.prog 15 #[.agg (pmA p)] v fun e w' => ∃ r, e = .returned r ∧ r = .int .i64 (p.pe + p.pa * (1 + p.re)) ∧ Below v.heap.size v w' := fun v hb =>
    (HWI.out v (HE.out.later (Kit.step hB12 hb)).e15).mono fun e w' h => ⟨_, h.1, rfl, h.2⟩
  have hBUD : ∀ v, Below W12.heap.size W12 v → Calls Tryd.prog 16 #[.agg (pmA p)] v fun e w' => ∃ r, e = .returned r ∧ r = .int .i64 p.se ∧ Below v.heap.size v w' := fun v hb =>
    (HBU2.out v (HE.out.later (Kit.step hB12 hb)).e15).mono fun e w' h => ⟨_, h.1, rfl, h.2⟩
  have hr3 := HR3b.out
  have hl9 := HL9.out
  obtain ⟨SE, hSE⟩ : ∃ SE, p.se = SE := ⟨_, rfl⟩
  obtain ⟨PE, hPE⟩ : ∃ PE, p.pe = PE := ⟨_, rfl⟩
  obtain ⟨PA, hPA⟩ : ∃ PA, p.pa = PA := ⟨_, rfl⟩
  obtain ⟨RE, hRE⟩ : ∃ RE, p.re = RE := ⟨_, rfl⟩
  obtain ⟨B, hBB⟩ : ∃ B, Da.byt15 p = B := ⟨_, rfl⟩
  obtain ⟨C, hCC⟩ : ∃ C, pmA p = C := ⟨_, rfl⟩
  rw [hRE] at w1
  rw [hRE, hPA] at w2
  rw [hRE, hPA, hPE] at w3
  rw [hSE] at hC1 hSTO hBUD ⊢
  rw [hPE] at hC3
  rw [hPA] at hC4
  rw [hRE] at hC5
  rw [hRE, hPA, hPE] at hWIN
  rw [hBB] at hBYT hr3 hl9
  rw [hCC] at hRowX hRowY hiX hiY hSTO hBYT hWIN hBUD
  have hen := eql_nil15
  have hB : RowV B (.slice o3 L9 c3) W12 := ⟨_, _, by rw [hl9], hr3⟩
  clear h1 h2 h3 h4 h5 h6 h7 h8 h9 h10 h11 h12 h13 hmul hA12 hY12 hSE hPE hPA hRE hBB hCC hr3 hl9
  -- STOP11
  refine Rg.region_grow (by kernel_rfl) (PqG C B TT SE PE PA RE g) (by kernel_rfl) PqG.later ?gd ?step ?fin
  case gd =>
    intro i op k t ho hg x v hG
    have hi := (Array.getElem?_eq_some_iff.1 ho).1
    match i, hi with
    | 0, _ =>
      obtain rfl := Option.some.inj ho
      cases hg
    | 1, _ =>
      obtain rfl := Option.some.inj ho
      cases hg
    | 2, _ =>
      obtain rfl := Option.some.inj ho
      cases hg
    | 3, _ =>
      obtain rfl := Option.some.inj ho
      obtain ⟨rfl, rfl⟩ : 2 = k ∧ true = t := by simpa using hg
      exact hG
    | 4, _ =>
      obtain rfl := Option.some.inj ho
      obtain ⟨rfl, rfl⟩ : 2 = k ∧ true = t := by simpa using hg
      exact hG
    | 5, _ =>
      obtain rfl := Option.some.inj ho
      cases hg
    | 6, _ =>
      obtain rfl := Option.some.inj ho
      cases hg
    | 7, _ =>
      obtain rfl := Option.some.inj ho
      obtain ⟨rfl, rfl⟩ : 6 = k ∧ true = t := by simpa using hg
      exact hG
    | 8, _ =>
      obtain rfl := Option.some.inj ho
      obtain ⟨rfl, rfl⟩ : 6 = k ∧ true = t := by simpa using hg
      exact hG
    | 9, _ =>
      obtain rfl := Option.some.inj ho
      cases hg
    | 10, _ =>
      obtain rfl := Option.some.inj ho
      cases hg
    | 11, _ =>
      obtain rfl := Option.some.inj ho
      obtain ⟨rfl, rfl⟩ : 10 = k ∧ true = t := by simpa using hg
      exact hG
    | 12, _ =>
      obtain rfl := Option.some.inj ho
      obtain ⟨rfl, rfl⟩ : 10 = k ∧ true = t := by simpa using hg
      exact hG
    | 13, _ =>
      obtain rfl := Option.some.inj ho
      obtain ⟨rfl, rfl⟩ : 10 = k ∧ true = t := by simpa using hg
      exact hG
    | 14, _ =>
      obtain rfl := Option.some.inj ho
      obtain ⟨rfl, rfl⟩ : 10 = k ∧ true = t := by simpa using hg
      exact hG
    | 15, _ =>
      obtain rfl := Option.some.inj ho
      cases hg
    | 16, _ =>
      obtain rfl := Option.some.inj ho
      cases hg
    | 17, _ =>
      obtain rfl := Option.some.inj ho
      obtain ⟨rfl, rfl⟩ : 16 = k ∧ true = t := by simpa using hg
      exact hG
    | 18, _ =>
      obtain rfl := Option.some.inj ho
      obtain ⟨rfl, rfl⟩ : 16 = k ∧ true = t := by simpa using hg
      exact hG
    | 19, _ =>
      obtain rfl := Option.some.inj ho
      obtain ⟨rfl, rfl⟩ : 16 = k ∧ true = t := by simpa using hg
      exact hG
    | 20, _ =>
      obtain rfl := Option.some.inj ho
      cases hg
    | 21, _ =>
      obtain rfl := Option.some.inj ho
      cases hg
    | 22, _ =>
      obtain rfl := Option.some.inj ho
      obtain ⟨rfl, rfl⟩ : 21 = k ∧ true = t := by simpa using hg
      exact hG
    | 23, _ =>
      obtain rfl := Option.some.inj ho
      obtain ⟨rfl, rfl⟩ : 21 = k ∧ true = t := by simpa using hg
      exact hG
    | 24, _ =>
      obtain rfl := Option.some.inj ho
      obtain ⟨rfl, rfl⟩ : 21 = k ∧ true = t := by simpa using hg
      exact hG
    | 25, _ =>
      obtain rfl := Option.some.inj ho
      obtain ⟨rfl, rfl⟩ : 21 = k ∧ true = t := by simpa using hg
      exact hG
    | 26, _ =>
      obtain rfl := Option.some.inj ho
      obtain ⟨rfl, rfl⟩ : 21 = k ∧ true = t := by simpa using hg
      exact hG
    | 27, _ =>
      obtain rfl := Option.some.inj ho
      obtain ⟨rfl, rfl⟩ : 21 = k ∧ true = t := by simpa using hg
      exact hG
    | 28, _ =>
      obtain rfl := Option.some.inj ho
      cases hg
    | 29, _ =>
      obtain rfl := Option.some.inj ho
      cases hg
    | 30, _ =>
      obtain rfl := Option.some.inj ho
      obtain ⟨rfl, rfl⟩ : 29 = k ∧ true = t := by simpa using hg
      exact hG
    | 31, _ =>
      obtain rfl := Option.some.inj ho
      obtain ⟨rfl, rfl⟩ : 29 = k ∧ true = t := by simpa using hg
      exact hG
    | 32, _ =>
      obtain rfl := Option.some.inj ho
      obtain ⟨rfl, rfl⟩ : 29 = k ∧ true = t := by simpa using hg
      exact hG
    | 33, _ =>
      obtain rfl := Option.some.inj ho
      obtain ⟨rfl, rfl⟩ : 29 = k ∧ true = t := by simpa using hg
      exact hG
    | 34, _ =>
      obtain rfl := Option.some.inj ho
      obtain ⟨rfl, rfl⟩ : 29 = k ∧ true = t := by simpa using hg
      exact hG
    | 35, _ =>
      obtain rfl := Option.some.inj ho
      obtain ⟨rfl, rfl⟩ : 29 = k ∧ true = t := by simpa using hg
      exact hG
    | 36, _ =>
      obtain rfl := Option.some.inj ho
      obtain ⟨rfl, rfl⟩ : 29 = k ∧ true = t := by simpa using hg
      exact hG
    | 37, _ =>
      obtain rfl := Option.some.inj ho
      obtain ⟨rfl, rfl⟩ : 29 = k ∧ true = t := by simpa using hg
      exact hG
    | 38, _ =>
      obtain rfl := Option.some.inj ho
      obtain ⟨rfl, rfl⟩ : 29 = k ∧ true = t := by simpa using hg
      exact hG
    | 39, _ =>
      obtain rfl := Option.some.inj ho
      obtain ⟨rfl, rfl⟩ : 29 = k ∧ true = t := by simpa using hg
      exact hG
    | 40, _ =>
      obtain rfl := Option.some.inj ho
      obtain ⟨rfl, rfl⟩ : 29 = k ∧ true = t := by simpa using hg
      exact hG
    | 41, _ =>
      obtain rfl := Option.some.inj ho
      obtain ⟨rfl, rfl⟩ : 29 = k ∧ true = t := by simpa using hg
      exact hG
    | 42, _ =>
      obtain rfl := Option.some.inj ho
      cases hg
    | 43, _ =>
      obtain rfl := Option.some.inj ho
      cases hg
    | 44, _ =>
      obtain rfl := Option.some.inj ho
      obtain ⟨rfl, rfl⟩ : 43 = k ∧ true = t := by simpa using hg
      exact hG
    | 45, _ =>
      obtain rfl := Option.some.inj ho
      obtain ⟨rfl, rfl⟩ : 43 = k ∧ true = t := by simpa using hg
      exact hG
    | 46, _ =>
      obtain rfl := Option.some.inj ho
      obtain ⟨rfl, rfl⟩ : 43 = k ∧ true = t := by simpa using hg
      exact hG
    | 47, _ =>
      obtain rfl := Option.some.inj ho
      obtain ⟨rfl, rfl⟩ : 43 = k ∧ true = t := by simpa using hg
      exact hG
    | 48, _ =>
      obtain rfl := Option.some.inj ho
      obtain ⟨rfl, rfl⟩ : 43 = k ∧ true = t := by simpa using hg
      exact hG
    | 49, _ =>
      obtain rfl := Option.some.inj ho
      cases hg
    | 50, _ =>
      obtain rfl := Option.some.inj ho
      cases hg
    | n + 51, h => exact absurd h (by simp)
  case step =>
    intro i op b v ho hb hrest hdep
    have r12 : b.eval (.tmp 12) = .nilIface := hrest 12 (Rg.free_spec (by kernel_rfl))
    have r14 : b.eval (.tmp 14) = .nilIface := hrest 14 (Rg.free_spec (by kernel_rfl))
    have r16 : b.eval (.tmp 16) = .nilIface := hrest 16 (Rg.free_spec (by kernel_rfl))
    have r11 : b.eval (.tmp 11) = .int .i64 ((TT : Int) + SE) := hrest 11 (Rg.free_spec (by kernel_rfl))
    have r3 : b.eval (.tmp 3) = .pointer (some ⟨g4, 0, none⟩) := hrest 3 (Rg.free_spec (by kernel_rfl))
    have r13 : b.eval (.tmp 13) = .int .i64 (TT : Int) := hrest 13 (Rg.free_spec (by kernel_rfl))
    have r17 : b.eval (.tmp 17) = .int .i64 (TT : Int) := hrest 17 (Rg.free_spec (by kernel_rfl))
    have r15 : b.eval (.tmp 15) = .slice o3 L9 c3 := hrest 15 (Rg.free_spec (by kernel_rfl))
    have r1 : b.eval (.tmp 1) = .pointer (some ⟨g, 0, none⟩) := hrest 1 (Rg.free_spec (by kernel_rfl))
    have hi := (Array.getElem?_eq_some_iff.1 ho).1
    match i, hi with
    | 0, _ =>
      obtain rfl := Option.some.inj ho
      have d1 : b.eval (.tmp 12) = .nilIface := r12
      exact Rg.does_move rfl d1
    | 1, _ =>
      obtain rfl := Option.some.inj ho
      have d1 : (b.eval (.tmp 118)) = .nilIface := hdep ⟨0, .data⟩ (by simp) rfl _ _ rfl rfl
      have f1 : b.tmps[118]?.getD undef = _ := (show _ = b.eval (.tmp 118) by simp [Act.eval]).trans d1
      refine Rg.does_pure (.bool true) ?_ rfl
      simp only [execOp]
      go_simp
    | 2, _ =>
      obtain rfl := Option.some.inj ho
      have d1 : (b.eval (.tmp 119)) = .bool true := hdep ⟨1, .data⟩ (by simp) rfl _ _ rfl rfl
      exact Rg.does_move rfl d1
    | 3, _ =>
      obtain rfl := Option.some.inj ho
      have d1 : b.eval (.tmp 14) = .nilIface := r14
      exact Rg.does_move rfl d1
    | 4, _ =>
      obtain rfl := Option.some.inj ho
      have d1 : (b.eval (.tmp 121)) = .nilIface := hdep ⟨3, .data⟩ (by simp) rfl _ _ rfl rfl
      have f1 : b.tmps[121]?.getD undef = _ := (show _ = b.eval (.tmp 121) by simp [Act.eval]).trans d1
      refine Rg.does_pure (.bool true) ?_ rfl
      simp only [execOp]
      go_simp
    | 5, _ =>
      obtain rfl := Option.some.inj ho
      have d1 : (b.eval (.tmp 120)) = .bool true := hdep ⟨2, .data⟩ (by simp) rfl _ _ rfl rfl
      have d2 : (b.eval (.tmp 122)) = .bool true := hdep ⟨4, .data⟩ (by simp) rfl _ _ rfl rfl
      exact Rg.does_pick rfl d1 d2
    | 6, _ =>
      obtain rfl := Option.some.inj ho
      have d1 : (b.eval (.tmp 123)) = .bool true := hdep ⟨5, .data⟩ (by simp) rfl _ _ rfl rfl
      exact Rg.does_move rfl d1
    | 7, _ =>
      obtain rfl := Option.some.inj ho
      have d1 : b.eval (.tmp 16) = .nilIface := r16
      exact Rg.does_move rfl d1
    | 8, _ =>
      obtain rfl := Option.some.inj ho
      have d1 : (b.eval (.tmp 125)) = .nilIface := hdep ⟨7, .data⟩ (by simp) rfl _ _ rfl rfl
      have f1 : b.tmps[125]?.getD undef = _ := (show _ = b.eval (.tmp 125) by simp [Act.eval]).trans d1
      refine Rg.does_pure (.bool true) ?_ rfl
      simp only [execOp]
      go_simp
    | 9, _ =>
      obtain rfl := Option.some.inj ho
      have d1 : (b.eval (.tmp 124)) = .bool true := hdep ⟨6, .data⟩ (by simp) rfl _ _ rfl rfl
      have d2 : (b.eval (.tmp 126)) = .bool true := hdep ⟨8, .data⟩ (by simp) rfl _ _ rfl rfl
      exact Rg.does_pick rfl d1 d2
    | 10, _ =>
      obtain rfl := Option.some.inj ho
      have d1 : (b.eval (.tmp 127)) = .bool true := hdep ⟨9, .data⟩ (by simp) rfl _ _ rfl rfl
      exact Rg.does_move rfl d1
    | 11, _ =>
      obtain rfl := Option.some.inj ho
      have d1 : b.eval (.tmp 11) = .int .i64 ((TT : Int) + SE) := r11
      exact Rg.does_move rfl d1
    | 12, _ =>
      obtain rfl := Option.some.inj ho
      have d1 : b.eval (.tmp 3) = .pointer (some ⟨g4, 0, none⟩) := r3
      exact does_load_row4 rfl d1 (hRowY v hb) Tryd.underlying25 rfl hiY rfl
    | 13, _ =>
      obtain rfl := Option.some.inj ho
      have d1 : (b.eval (.tmp 130)) = .agg C := hdep ⟨12, .data⟩ (by simp) rfl _ _ rfl rfl
      refine Rg.does_fn rfl (enters_of Tryd.func18 (by kernel_rfl) rfl) (args := #[b.eval (.tmp 130)]) (by simp) ?_
      rw [d1]
      exact hSTO v hb
    | 14, _ =>
      obtain rfl := Option.some.inj ho
      have d1 : (b.eval (.tmp 129)) = .int .i64 ((TT : Int) + SE) := hdep ⟨11, .data⟩ (by simp) rfl _ _ rfl rfl
      have d2 : (b.eval (.tmp 131)) = .int .i64 ((TT : Int) + SE) := hdep ⟨13, .data⟩ (by simp) rfl _ _ rfl rfl
      have f1 : b.tmps[129]?.getD undef = _ := (show _ = b.eval (.tmp 129) by simp [Act.eval]).trans d1
      have f2 : b.tmps[131]?.getD undef = _ := (show _ = b.eval (.tmp 131) by simp [Act.eval]).trans d2
      refine Rg.does_pure (.bool true) ?_ rfl
      simp only [execOp]
      go_simp
    | 15, _ =>
      obtain rfl := Option.some.inj ho
      have d1 : (b.eval (.tmp 128)) = .bool true := hdep ⟨10, .data⟩ (by simp) rfl _ _ rfl rfl
      have d2 : (b.eval (.tmp 132)) = .bool true := hdep ⟨14, .data⟩ (by simp) rfl _ _ rfl rfl
      exact Rg.does_pick rfl d1 d2
    | 16, _ =>
      obtain rfl := Option.some.inj ho
      have d1 : (b.eval (.tmp 133)) = .bool true := hdep ⟨15, .data⟩ (by simp) rfl _ _ rfl rfl
      exact Rg.does_move rfl d1
    | 17, _ =>
      obtain rfl := Option.some.inj ho
      have d1 : b.eval (.tmp 13) = .int .i64 (TT : Int) := r13
      exact Rg.does_move rfl d1
    | 18, _ =>
      obtain rfl := Option.some.inj ho
      have d1 : b.eval (.tmp 17) = .int .i64 (TT : Int) := r17
      exact Rg.does_move rfl d1
    | 19, _ =>
      obtain rfl := Option.some.inj ho
      have d1 : (b.eval (.tmp 135)) = .int .i64 (TT : Int) := hdep ⟨17, .data⟩ (by simp) rfl _ _ rfl rfl
      have d2 : (b.eval (.tmp 136)) = .int .i64 (TT : Int) := hdep ⟨18, .data⟩ (by simp) rfl _ _ rfl rfl
      have f1 : b.tmps[135]?.getD undef = _ := (show _ = b.eval (.tmp 135) by simp [Act.eval]).trans d1
      have f2 : b.tmps[136]?.getD undef = _ := (show _ = b.eval (.tmp 136) by simp [Act.eval]).trans d2
      refine Rg.does_pure (.bool true) ?_ rfl
      simp only [execOp]
      go_simp
    | 20, _ =>
      obtain rfl := Option.some.inj ho
      have d1 : (b.eval (.tmp 134)) = .bool true := hdep ⟨16, .data⟩ (by simp) rfl _ _ rfl rfl
      have d2 : (b.eval (.tmp 137)) = .bool true := hdep ⟨19, .data⟩ (by simp) rfl _ _ rfl rfl
      exact Rg.does_pick rfl d1 d2
    | 21, _ =>
      obtain rfl := Option.some.inj ho
      have d1 : (b.eval (.tmp 138)) = .bool true := hdep ⟨20, .data⟩ (by simp) rfl _ _ rfl rfl
      exact Rg.does_move rfl d1
    | 22, _ =>
      obtain rfl := Option.some.inj ho
      have d1 : RowV (B) (b.eval (.tmp 15)) v := by rw [r15]; exact hB.later hb
      exact Rg.does_move rfl d1
    | 23, _ =>
      obtain rfl := Option.some.inj ho
      have d1 : RowV (B) (b.eval (.tmp 140)) v := hdep ⟨22, .data⟩ (by simp) rfl _ _ rfl rfl
      exact Rg.does_conv rfl (conv_rv d1) (rfl)
    | 24, _ =>
      obtain rfl := Option.some.inj ho
      have d1 : b.eval (.tmp 3) = .pointer (some ⟨g4, 0, none⟩) := r3
      exact does_load_row4 rfl d1 (hRowY v hb) Tryd.underlying25 rfl hiY rfl
    | 25, _ =>
      obtain rfl := Option.some.inj ho
      have d1 : (b.eval (.tmp 142)) = .agg C := hdep ⟨24, .data⟩ (by simp) rfl _ _ rfl rfl
      refine Rg.does_fn rfl (enters_of Tryd.func19 (by kernel_rfl) rfl) (args := #[b.eval (.tmp 142)]) (by simp) ?_
      rw [d1]
      exact hBYT v hb
    | 26, _ =>
      obtain rfl := Option.some.inj ho
      have d1 : RowV (B) (b.eval (.tmp 143)) v := hdep ⟨25, .data⟩ (by simp) rfl _ _ rfl rfl
      exact Rg.does_conv rfl (conv_rv d1) (rfl)
    | 27, _ =>
      obtain rfl := Option.some.inj ho
      have d1 : (b.eval (.tmp 141)) = .string ⟨(B).toArray⟩ := hdep ⟨23, .data⟩ (by simp) rfl _ _ rfl rfl
      have d2 : (b.eval (.tmp 144)) = .string ⟨(B).toArray⟩ := hdep ⟨26, .data⟩ (by simp) rfl _ _ rfl rfl
      have f1 : b.tmps[141]?.getD undef = _ := (show _ = b.eval (.tmp 141) by simp [Act.eval]).trans d1
      have f2 : b.tmps[144]?.getD undef = _ := (show _ = b.eval (.tmp 144) by simp [Act.eval]).trans d2
      refine Rg.does_pure (.bool true) ?_ rfl
      have hu := Tryd.underlying9
      simp only [execOp]
      go_simp
    | 28, _ =>
      obtain rfl := Option.some.inj ho
      have d1 : (b.eval (.tmp 139)) = .bool true := hdep ⟨21, .data⟩ (by simp) rfl _ _ rfl rfl
      have d2 : (b.eval (.tmp 145)) = .bool true := hdep ⟨27, .data⟩ (by simp) rfl _ _ rfl rfl
      exact Rg.does_pick rfl d1 d2
    | 29, _ =>
      obtain rfl := Option.some.inj ho
      have d1 : (b.eval (.tmp 146)) = .bool true := hdep ⟨28, .data⟩ (by simp) rfl _ _ rfl rfl
      exact Rg.does_move rfl d1
    | 30, _ =>
      obtain rfl := Option.some.inj ho
      have d1 : b.eval (.tmp 1) = .pointer (some ⟨g, 0, none⟩) := r1
      exact does_load_row4 rfl d1 (hRowX v hb) Tryd.underlying23 rfl hiX rfl
    | 31, _ =>
      obtain rfl := Option.some.inj ho
      have d1 : (b.eval (.tmp 148)) = .agg C := hdep ⟨30, .data⟩ (by simp) rfl _ _ rfl rfl
      refine Rg.does_fn rfl (enters_of Tryd.func15 (by kernel_rfl) rfl) (args := #[b.eval (.tmp 148)]) (by simp) ?_
      rw [d1]
      exact hWIN v hb
    | 32, _ =>
      obtain rfl := Option.some.inj ho
      have f1 : b.tmps[1]?.getD undef = _ := (show _ = b.eval (.tmp 1) by simp [Act.eval]).trans r1
      refine Rg.does_pure (.pointer (some ⟨g, 3, none⟩)) ?_ rfl
      simp only [execOp]
      go_simp
    | 33, _ =>
      obtain rfl := Option.some.inj ho
      have d1 : b.eval (.tmp 150) = .pointer (some ⟨g, 3, none⟩) := hdep ⟨32, .data⟩ (by simp) rfl _ _ rfl rfl
      have f1 : b.tmps[150]?.getD undef = _ := (show _ = b.eval (.tmp 150) by simp [Act.eval]).trans d1
      have hc := hC3 v hb
      refine Rg.does_pure (.int .i64 PE) ?_ rfl
      simp only [execOp]
      go_simp
    | 34, _ =>
      obtain rfl := Option.some.inj ho
      have f1 : b.tmps[1]?.getD undef = _ := (show _ = b.eval (.tmp 1) by simp [Act.eval]).trans r1
      refine Rg.does_pure (.pointer (some ⟨g, 4, none⟩)) ?_ rfl
      simp only [execOp]
      go_simp
    | 35, _ =>
      obtain rfl := Option.some.inj ho
      have d1 : b.eval (.tmp 152) = .pointer (some ⟨g, 4, none⟩) := hdep ⟨34, .data⟩ (by simp) rfl _ _ rfl rfl
      have f1 : b.tmps[152]?.getD undef = _ := (show _ = b.eval (.tmp 152) by simp [Act.eval]).trans d1
      have hc := hC4 v hb
      refine Rg.does_pure (.int .i64 PA) ?_ rfl
      simp only [execOp]
      go_simp
    | 36, _ =>
      obtain rfl := Option.some.inj ho
      have f1 : b.tmps[1]?.getD undef = _ := (show _ = b.eval (.tmp 1) by simp [Act.eval]).trans r1
      refine Rg.does_pure (.pointer (some ⟨g, 5, none⟩)) ?_ rfl
      simp only [execOp]
      go_simp
    | 37, _ =>
      obtain rfl := Option.some.inj ho
      have d1 : b.eval (.tmp 154) = .pointer (some ⟨g, 5, none⟩) := hdep ⟨36, .data⟩ (by simp) rfl _ _ rfl rfl
      have f1 : b.tmps[154]?.getD undef = _ := (show _ = b.eval (.tmp 154) by simp [Act.eval]).trans d1
      have hc := hC5 v hb
      refine Rg.does_pure (.int .i64 RE) ?_ rfl
      simp only [execOp]
      go_simp
    | 38, _ =>
      obtain rfl := Option.some.inj ho
      have d2 : (b.eval (.tmp 155)) = .int .i64 RE := hdep ⟨37, .data⟩ (by simp) rfl _ _ rfl rfl
      have f2 : b.tmps[155]?.getD undef = _ := (show _ = b.eval (.tmp 155) by simp [Act.eval]).trans d2
      refine Rg.does_pure (.int .i64 (1 + RE)) ?_ rfl
      simp only [execOp]
      go_simp
    | 39, _ =>
      obtain rfl := Option.some.inj ho
      have d1 : (b.eval (.tmp 153)) = .int .i64 PA := hdep ⟨35, .data⟩ (by simp) rfl _ _ rfl rfl
      have d2 : (b.eval (.tmp 156)) = .int .i64 (1 + RE) := hdep ⟨38, .data⟩ (by simp) rfl _ _ rfl rfl
      have f1 : b.tmps[153]?.getD undef = _ := (show _ = b.eval (.tmp 153) by simp [Act.eval]).trans d1
      have f2 : b.tmps[156]?.getD undef = _ := (show _ = b.eval (.tmp 156) by simp [Act.eval]).trans d2
      refine Rg.does_pure (.int .i64 (PA * (1 + RE))) ?_ rfl
      simp only [execOp]
      go_simp
    | 40, _ =>
      obtain rfl := Option.some.inj ho
      have d1 : (b.eval (.tmp 151)) = .int .i64 PE := hdep ⟨33, .data⟩ (by simp) rfl _ _ rfl rfl
      have d2 : (b.eval (.tmp 157)) = .int .i64 (PA * (1 + RE)) := hdep ⟨39, .data⟩ (by simp) rfl _ _ rfl rfl
      have f1 : b.tmps[151]?.getD undef = _ := (show _ = b.eval (.tmp 151) by simp [Act.eval]).trans d1
      have f2 : b.tmps[157]?.getD undef = _ := (show _ = b.eval (.tmp 157) by simp [Act.eval]).trans d2
      refine Rg.does_pure (.int .i64 (PE + PA * (1 + RE))) ?_ rfl
      simp only [execOp]
      go_simp
    | 41, _ =>
      obtain rfl := Option.some.inj ho
      have d1 : (b.eval (.tmp 149)) = .int .i64 (PE + PA * (1 + RE)) := hdep ⟨31, .data⟩ (by simp) rfl _ _ rfl rfl
      have d2 : (b.eval (.tmp 158)) = .int .i64 (PE + PA * (1 + RE)) := hdep ⟨40, .data⟩ (by simp) rfl _ _ rfl rfl
      have f1 : b.tmps[149]?.getD undef = _ := (show _ = b.eval (.tmp 149) by simp [Act.eval]).trans d1
      have f2 : b.tmps[158]?.getD undef = _ := (show _ = b.eval (.tmp 158) by simp [Act.eval]).trans d2
      refine Rg.does_pure (.bool true) ?_ rfl
      simp only [execOp]
      go_simp
    | 42, _ =>
      obtain rfl := Option.some.inj ho
      have d1 : (b.eval (.tmp 147)) = .bool true := hdep ⟨29, .data⟩ (by simp) rfl _ _ rfl rfl
      have d2 : (b.eval (.tmp 159)) = .bool true := hdep ⟨41, .data⟩ (by simp) rfl _ _ rfl rfl
      exact Rg.does_pick rfl d1 d2
    | 43, _ =>
      obtain rfl := Option.some.inj ho
      have d1 : (b.eval (.tmp 160)) = .bool true := hdep ⟨42, .data⟩ (by simp) rfl _ _ rfl rfl
      exact Rg.does_move rfl d1
    | 44, _ =>
      obtain rfl := Option.some.inj ho
      have d1 : b.eval (.tmp 1) = .pointer (some ⟨g, 0, none⟩) := r1
      exact does_load_row4 rfl d1 (hRowX v hb) Tryd.underlying23 rfl hiX rfl
    | 45, _ =>
      obtain rfl := Option.some.inj ho
      have d1 : (b.eval (.tmp 162)) = .agg C := hdep ⟨44, .data⟩ (by simp) rfl _ _ rfl rfl
      refine Rg.does_fn rfl (enters_of Tryd.func16 (by kernel_rfl) rfl) (args := #[b.eval (.tmp 162)]) (by simp) ?_
      rw [d1]
      exact hBUD v hb
    | 46, _ =>
      obtain rfl := Option.some.inj ho
      have f1 : b.tmps[1]?.getD undef = _ := (show _ = b.eval (.tmp 1) by simp [Act.eval]).trans r1
      refine Rg.does_pure (.pointer (some ⟨g, 1, none⟩)) ?_ rfl
      simp only [execOp]
      go_simp
    | 47, _ =>
      obtain rfl := Option.some.inj ho
      have d1 : b.eval (.tmp 164) = .pointer (some ⟨g, 1, none⟩) := hdep ⟨46, .data⟩ (by simp) rfl _ _ rfl rfl
      have f1 : b.tmps[164]?.getD undef = _ := (show _ = b.eval (.tmp 164) by simp [Act.eval]).trans d1
      have hc := hC1 v hb
      refine Rg.does_pure (.int .i64 SE) ?_ rfl
      simp only [execOp]
      go_simp
    | 48, _ =>
      obtain rfl := Option.some.inj ho
      have d1 : (b.eval (.tmp 163)) = .int .i64 SE := hdep ⟨45, .data⟩ (by simp) rfl _ _ rfl rfl
      have d2 : (b.eval (.tmp 165)) = .int .i64 SE := hdep ⟨47, .data⟩ (by simp) rfl _ _ rfl rfl
      have f1 : b.tmps[163]?.getD undef = _ := (show _ = b.eval (.tmp 163) by simp [Act.eval]).trans d1
      have f2 : b.tmps[165]?.getD undef = _ := (show _ = b.eval (.tmp 165) by simp [Act.eval]).trans d2
      refine Rg.does_pure (.bool true) ?_ rfl
      simp only [execOp]
      go_simp
    | 49, _ =>
      obtain rfl := Option.some.inj ho
      have d1 : (b.eval (.tmp 161)) = .bool true := hdep ⟨43, .data⟩ (by simp) rfl _ _ rfl rfl
      have d2 : (b.eval (.tmp 166)) = .bool true := hdep ⟨48, .data⟩ (by simp) rfl _ _ rfl rfl
      exact Rg.does_pick rfl d1 d2
    | 50, _ =>
      obtain rfl := Option.some.inj ho
      have d1 : (b.eval (.tmp 167)) = .bool true := hdep ⟨49, .data⟩ (by simp) rfl _ _ rfl rfl
      exact Rg.does_assign rfl d1
    | n + 51, h => exact absurd h (by simp)
  case fin =>
    intro b v2 hb2 hs hd hrest hall
    have h6 : b.tmps.getD 2 undef = .bool true := hall 50 _ 2 rfl rfl
    have HB := Lib.hid (Kit.step hB12 hb2)
    go_wp2
    refine bodyPost_ret (results_tmp rfl _ _ _) hd ?_
    exact ⟨by rw [h6], HB.out⟩
end Go.Proofs.YtomkkkbdipcjgaaDoor
