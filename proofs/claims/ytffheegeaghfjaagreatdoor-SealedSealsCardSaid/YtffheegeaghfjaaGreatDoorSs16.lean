/- Ss16 -/
import Derived.Test.YtffheegeaghfjaaGreatDoorYHPS
import Derived.Test.YtffheegeaghfjaaGreatDoorYPST
import Derived.Test.YtffheegeaghfjaaGreatDoorYHS
import Derived.Test.YtffheegeaghfjaaGreatDoorYPS
import Derived.Test.YtffheegeaghfjaaGreatDoorYS
import Derived.Test.YtffheegeaghfjaaGreatDoorRq16
set_option linter.unusedVariables false
set_option linter.unusedSimpArgs false
set_option maxRecDepth 100000
set_option maxHeartbeats 8000000
namespace Go.Proofs.YtffheegeaghfjaaGreatDoor
open Go.RowKit
theorem md16s_info : (Tryz.prog.info? 26).map (·.size) = some 9 := by kernel_rfl
theorem pm16s_info : (Tryz.prog.info? 24).map (·.size) = some 6 := by kernel_rfl
theorem dgs16_eql (xs ys : List UInt8) (hx : xs.length = 32) (hy : ys.length = 32) (w : World) : (binOp .eql 32 (.agg (bytesV xs).toArray) (.agg (bytesV ys).toArray)).run Tryz.prog w = .ok (.bool (xs == ys)) w :=
 run_eql_bytes w 32 5 32 dg_under Tryz.underlying5 (fun w => by
  obtain ⟨i0, hi, _, hz1, _⟩ := info_parts info_u8
  simp [sizeOf, typeInfo, hi, hz1]) xs ys hx hy
theorem dgs16_guard : Tryz.prog.eqGuardType Tryz.prog.depth 32 = false := by kernel_rfl
theorem d32b16 (w : World) : (Instr.build 31 #[]).run Tryz.prog w = .ok (.agg (bytesV Da.zd16).toArray) w := by kernel_rfl
theorem exec_mid16 {P : Program} {o : Oper} {a : Act} {w : World} {ty : TypeId} {x : Operand} {b off : Nat} {V : Value} (ho : o.op = .load ty x) (hx : a.eval x = .pointer (some ⟨b, off, none⟩)) (h : (Instr.loadAt ty (.pointer (some ⟨b, off, none⟩))).run P w = .ok V w) :
    (execOp a.eval o).run P w = .ok (.value V) w := by
 unfold execOp
 simp only [ho, hx, h, Result.andThen_ok, Sem.run_bind, Sem.run_pure]
theorem Da.sen16_sb (K : List UInt8) (N : Int) (F : List UInt8) (p : Pm15) : Da.sen16 p (Da.sbad16 K N F p) = Da.sbad16 K N F p := by
 unfold Da.sen16 Da.sbad16
 by_cases h0 : Da.bad15 p = 0
 ·rw [if_pos h0]
 ·rw [if_neg h0, if_neg h0]
theorem Da.sbad16_le (K : List UInt8) (N : Int) (F : List UInt8) (p : Pm15) : Da.sbad16 K N F p <= 20 := by
 unfold Da.sbad16 Da.abad Da.err15
 repeat' split
 all_goals omega
theorem sld_root16 (x : Value) (r f : List UInt8) {W : World} {b : Nat} {T : TypeId} (h : Arr W b T (sldL x r f)) : W.rangeAt b 1 (bytesV r) := h.range 1 _ fun j v hv => by
 unfold sldL
 have hj := (List.getElem?_eq_some_iff.1 hv).1
 rw [List.getElem?_append_right (by simp), List.getElem?_append_left (by simpa using hj)]
 simpa using hv
theorem sld_file16 (x : Value) (r f : List UInt8) (hr : r.length = 32) {W : World} {b : Nat} {T : TypeId} (h : Arr W b T (sldL x r f)) : W.rangeAt b 33 (bytesV f) := h.range 33 _ fun j v hv => by
 unfold sldL
 rw [List.getElem?_append_right (by simp; omega), List.getElem?_append_right (by simp; omega)]
 simp only [List.length_cons, List.length_nil, bytesV_length, hr]
 rw [show 33 + j - (0 + 1) - 32 = j by omega]
 exact hv
theorem ss16_of (Z : Array Value) (hZ : Z = (sldL (.slice none 0 0) Da.zd16 Da.zd16).toArray) (hzs : ∀ w, Sem.run Tryz.prog (zeroValue 34) w = .ok (.agg Z) w)
    (Z3 : Array Value) (hZ3 : (bytesV Da.zd16).toArray = Z3) (hbu : ∀ w, (Instr.build 31 #[]).run Tryz.prog w = .ok (.agg Z3) w) (A : Nat -> Addr) (hC : SlM A) (U : Er.UnwrapOk)
    (MK F : List UInt8) (ok oF : Option Addr) (ck cF : Nat) (N : Int) (p : Pm15) (w : World) (hK : RowIs w ok (bytesV MK) ck) (hF : RowIs w oF (bytesV F) cF) (hN : in64 N) (hok : p.ok) (hV : Cds w) (hR : Rds w) (hE : Er.Errs w A) :
    Calls Tryz.prog 3 #[.agg (mdA (.slice ok MK.length ck) N (.slice oF F.length cF) p)] w fun e w' => e = .returned (.bool true) /\ Below w.heap.size w w' := by
 obtain ⟨g, hg⟩ : ∃ g, w.heap.size = g := ⟨_, rfl⟩
 have hmt : (mdL (.slice ok MK.length ck) N (.slice oF F.length cF) p).toArray = mdA (.slice ok MK.length ck) N (.slice oF F.length cF) p := rfl
 obtain ⟨MA, hMA⟩ : ∃ MA, mdA (.slice ok MK.length ck) N (.slice oF F.length cF) p = MA := ⟨_, rfl⟩
 have hms : (Tryz.prog.info? 26).map (·.size) = some MA.size := by rw [md16s_info, <- hMA]; rfl
 obtain ⟨W1, hW1⟩ : ∃ W1, w.alloc (.cells MA 26) = W1 := ⟨_, rfl⟩
 have hM1 : W1.heap[g]? = some (.cells MA 26 (0, 0)) := by rw [<- hW1, <- hg]; exact World.alloc_heap_new w _
 have hArr : Arr W1 g 26 (mdL (.slice ok MK.length ck) N (.slice oF F.length cF) p) := by unfold Arr; rw [hmt, hMA]; exact hM1
 have hb1 : Below w.heap.size w W1 := by rw [<- hW1]; exact new12 _ _
 have hgl : g < W1.heap.size := hArr.lt
 have HM : Hid (∀ v, Below W1.heap.size W1 v -> v.heap[g]? = some (.cells MA 26 (0, 0))) := Lh fun v hv => (hv.block g hgl).trans hM1
 have HC0 : Hid (∀ v, Below W1.heap.size W1 v -> v.cell? ⟨g, 0, none⟩ = some (.slice ok MK.length ck)) := Lh fun v hv => by rw [(hArr.later hv hgl).cell]; rfl
 have HC1 : Hid (∀ v, Below W1.heap.size W1 v -> v.cell? ⟨g, 1, none⟩ = some (.int .i64 N)) := Lh fun v hv => by rw [(hArr.later hv hgl).cell]; rfl
 have HC2 : Hid (∀ v, Below W1.heap.size W1 v -> v.cell? ⟨g, 2, none⟩ = some (.slice oF F.length cF)) := Lh fun v hv => by rw [(hArr.later hv hgl).cell]; rfl
 have HRG : Hid (∀ v, Below W1.heap.size W1 v -> v.rangeAt g 3 (pmL p)) := Lh fun v hv => (hArr.later hv hgl).range 3 _ (fun j u hu => by
  unfold mdL
  rw [List.getElem?_append_right (by simp)]
  simpa using hu)
 have HLG : Hid (∀ v, Calls Tryz.prog 8 #[.agg MA] v fun e w' => e = .returned (.bool (Da.lng16 MK F p)) /\ Below v.heap.size v w') := Lh fun v => by rw [<- hMA]; exact long16_any MK F ok oF ck cF N p v
 have HAL := Lh (al16_any A hC W1 (hV.later hb1) (hE.e16.later hb1))
 obtain ⟨PA, hPA⟩ : ∃ PA, pmA p = PA := ⟨_, rfl⟩
 have hpl : (pmL p).toArray = PA := by rw [<- hPA]; rfl
 have HPL := Lh hpl
 have HPA := Lh hPA
 have HPC : Hid ((Tryz.prog.info? 24).map (·.size) = some (pmL p).length) := Lh pm16s_info
 have HMS := Lh hms
 have HB1 := Lh hb1
 have HG := Lh hg
 have HW1 := Lh hW1
 have HC := Lh hC
 have HU := Lh U
 have HKR := Lh hK
 have HFR := Lh hF
 have HNK := Lh hN
 have HOK := Lh hok
 have HV := Lh hV
 have HRD := Lh hR
 have HE := Lh hE
 have HZ := Lh hZ
 have HZ3 := Lh hZ3
 have HBU := Lh hbu
 rw [hMA]
 clear hg hMA hms hW1 hM1 hb1 hgl hC U hK hF hN hok hV hR hE hZ hArr hmt hpl hPA hZ3 hbu
 go_enter Tryz.func3, Tryz.ntmps3
 go_upto_region 1 with fail
 rw [HW1.out, HG.out]
 go_wp2_with fail
 refine HAL.out.mono ?_
 rintro e W2 ⟨rfl, hb2⟩
 have HB2 := Lh hb2
 clear hb2 HAL
 go_upto_region 3 with fail
 apply wp_region_lit
 refine wpList_load_row rfl 26 (.tmp 1) rfl g rfl 26 MA (0, 0) _ (HM.out W2 HB2.out) Tryz.underlying26 rfl HMS.out ?_
 (refine wpList_plain rfl (fun K hK => ?_); go_simp)
 refine (HLG.out W2).mono ?_
 rintro e W3 ⟨rfl, hb3⟩
 refine hK _ _ ?_
 clear hK K
 have HB3 := Lh (Ks HB2.out hb3)
 clear hb3
 obtain ⟨lg, hlg⟩ : ∃ lg, Da.lng16 MK F p = lg := ⟨_, rfl⟩
 rw [hlg]
 cases lg with
 | true =>
  clear hlg
  go_wp2_with fail
  go_ret
  exact ⟨rfl, Ks HB1.out HB3.out⟩
 | false =>
  have hKl : MK.length <= 100 /\ F.length <= 400 := by
   unfold Da.lng16 at hlg
   simp only [Bool.or_eq_false_iff, decide_eq_false_iff_not] at hlg
   omega
  have HKL := Lh hKl
  clear hlg hKl
  have hc2 := HC2.out W3 HB3.out
  go_upto_region 5 with fail
  apply wp_region_lit
  iterate 2 (refine wpList_plain rfl (fun K hK => ?_); go_simp; refine hK _ _ ?_; clear hK K)
  (refine wpList_plain rfl (fun K hK => ?_); go_simp)
  refine (bytes_any F oF cF W3 (HFR.out.later (Ks HB1.out HB3.out)) (by have := HKL.out; omega)).mono ?_
  rintro e W4 ⟨B, rfl, hb4, hBs, hmk⟩
  refine hK _ _ ?_
  clear hK K hc2
  have HB4 := Lh (Ks HB3.out hb4)
  have HMK := Lh hmk
  clear hb4 hBs hmk
  (refine wpList_plain rfl (fun K hK => ?_); go_simp; refine hK _ _ ?_; clear hK K)
  have hc0 := HC0.out W4 HB4.out
  have hc1 := HC1.out W4 HB4.out
  have hsl := HC.out.mksl W4 ok ck MK N (some ⟨B, 0, none⟩) (F.length + 6) F p (HKR.out.later (Ks HB1.out HB4.out)) (HMK.out.row (by have := HKL.out; unfold maxLen; omega)) HKL.out.1 HKL.out.2 HNK.out HOK.out (HV.out.later (Ks HB1.out HB4.out)) (HE.out.e16.later (Ks HB1.out HB4.out))
  obtain ⟨RS, hRS⟩ : ∃ RS, (if Da.sbad16 MK N F p = 0 then Da.all16 MK N F p else []) = RS := ⟨_, rfl⟩
  obtain ⟨R, hRt⟩ : ∃ R, (if Da.sbad16 MK N F p = 0 then Da.mth (Da.all16 MK N F p) else Da.zd16) = R := ⟨_, rfl⟩
  obtain ⟨FD, hFD⟩ : ∃ FD, (if Da.sbad16 MK N F p = 0 then Da.sha F else Da.zd16) = FD := ⟨_, rfl⟩
  have hrl : R.length = 32 := by rw [<- hRt]; split; exact Da.mth_length _; rfl
  have hfl : FD.length = 32 := by rw [<- hFD]; split; exact Da.sha_length _; rfl
  have hrs : ∀ v (k : Below w.heap.size w v), Calls Tryz.prog 11 #[.slice ok MK.length ck, .int .i64 N, .slice oF F.length cF, .agg PA] v fun e w' => ∃ x, e = .returned (.tuple #[x, .int .i64 ((Da.sbad16 MK N F p : Nat) : Int)]) /\ RbV RS x w' /\ Below v.heap.size v w' := fun v hv => by
   rw [<- hRS, <- HPA.out]
   exact rseal16_any MK F ok oF ck cF N p HOK.out v (HKR.out.later hv) (HFR.out.later hv) (HRD.out.later hv) HKL.out.1 HKL.out.2
  rw [hRS, hRt, hFD] at hsl
  have hse := Da.sen16_sb MK N F p
  have hsle := Da.sbad16_le MK N F p
  obtain ⟨SB, hSB⟩ : ∃ SB, Da.sbad16 MK N F p = SB := ⟨_, rfl⟩
  rw [hSB] at hsl hrs hRS hRt hFD hse hsle
  rw [HPA.out] at hsl
  have HSL := Lh hsl
  have HRS := Lh hRS
  have HRT0 := Lh hRt
  have HFD := Lh hFD
  have HRL := Lh hrl
  have HFDL := Lh hfl
  have HRC := Lh hrs
  have HSE := Lh hse
  have HSLE := Lh hsle
  have HSB := Lh hSB
  clear hsl hRS hRt hFD hrl hfl hrs hse hsle hSB
  go_upto_region 6 with fail
  apply wp_region_lit
  iterate 6 (refine wpList_plain rfl (fun K hK => ?_); go_simp; refine hK _ _ ?_; clear hK K)
  refine wpList_load_mid rfl 24 (.tmp 21) rfl g 3 rfl (pmL p) _ (HRG.out W4 HB4.out) Tryz.underlying24 rfl HPC.out ?_
  rw [HPL.out]
  (refine wpList_plain rfl (fun K hK => ?_); go_simp)
  refine HSL.out.mono ?_
  rintro e W5 ⟨x, v, rfl, hx, hv, hb5⟩
  refine hK _ _ ?_
  clear hK K HSL hc0 hc1
  obtain ⟨SA, hSA⟩ : ∃ SA, (sldL x R FD).toArray = SA := ⟨_, rfl⟩
  have hx1 : x.oneCell' = true := by obtain ⟨o, c, rfl, _⟩ := hx; rfl
  have HFS : Hid ((Tryz.prog.info? 34).map (·.size) = some SA.size) := Lh (by rw [sld_info, <- hSA]; simp [sld_length, HRL.out, HFDL.out])
  have HFZ : Hid (Z.size = SA.size) := Lh (by rw [HZ.out, <- hSA]; simp [sld_length, HRL.out, HFDL.out, Da.zd16])
  have HFO : Hid (SA.all (·.oneCell') = true) := Lh (by rw [<- hSA]; exact sld_one x hx1 R FD)
  obtain ⟨gs, hgs⟩ : ∃ gs, W5.heap.size = gs := ⟨_, rfl⟩
  obtain ⟨W6, hW6⟩ : ∃ W6, W5.alloc (.cells Z 34) = W6 := ⟨_, rfl⟩
  have hz6 : W6.heap[gs]? = some (.cells Z 34 (0, 0)) := by rw [<- hW6, <- hgs]; exact World.alloc_heap_new W5 _
  obtain ⟨W7, hW7⟩ : ∃ W7, W6.setRow gs SA = W7 := ⟨_, rfl⟩
  have hA7 : Arr W7 gs 34 (sldL x R FD) := by rw [<- hW7]; unfold Arr; rw [hSA]; exact setRow_heap _ _ _ _ _ _ hz6
  have hb7 : Below W5.heap.size W5 W7 := by rw [<- hW7, <- hW6]; exact (new12 _ _).trans (below_row (Nat.le_of_eq hgs))
  obtain ⟨ox, cx, rfl, hrx⟩ := hx.later hb7
  have HRX := Lh hrx
  have HA7 := Lh hA7
  have HSV := Lh (hv.later hb7)
  have HB7 := Lh (Ks (Ks HB4.out hb5) hb7)
  have HZ6 := Lh hz6
  have HW6 := Lh hW6
  have HW7 := Lh hW7
  have HGS := Lh hgs
  have HMK7 := Lh ((HMK.out.later hb5).later hb7)
  rw [hSA]
  clear hSA hx1 hgs hW6 hz6 hW7 hA7 hb7 hrx hb5 hx hv
  iterate 4 (refine wpList_plain rfl (fun K hK => ?_); go_simp; refine hK _ _ ?_; clear hK K)
  rw [HW6.out, HGS.out]
  refine wpList_store_rowTo rfl 34 (.tmp 4) (.tmp 24) rfl rfl gs SA rfl rfl 34 Z HZ6.out HFS.out HFZ.out HFO.out ?_
  rw [HW7.out]
  (refine wpList_plain rfl (fun K hK => ?_); go_simp; refine hK _ _ ?_; clear hK K)
  have hc0 := HC0.out W7 HB7.out
  have hc1 := HC1.out W7 HB7.out
  have hc2 := HC2.out W7 HB7.out
  go_upto_region 7 with fail
  apply wp_region_lit
  iterate 7 (refine wpList_plain rfl (fun K hK => ?_); go_simp; refine hK _ _ ?_; clear hK K)
  refine wpList_load_mid rfl 24 (.tmp 33) rfl g 3 rfl (pmL p) _ (HRG.out W7 HB7.out) Tryz.underlying24 rfl HPC.out ?_
  rw [HPL.out]
  (refine wpList_plain rfl (fun K hK => ?_); go_simp)
  refine (HRC.out W7 (Ks HB1.out HB7.out)).mono ?_
  rintro e W8 ⟨xw, rfl, hxw, hb8⟩
  refine hK _ _ ?_
  clear hK K HRC hc0 hc1 hc2
  obtain ⟨ow, cw, rfl, hrw⟩ := hxw
  have HRW := Lh hrw
  have HRX8 := Lh (HRX.out.later hb8)
  have HA8 := Lh (HA7.out.later hb8 HA7.out.lt)
  have HMK8 := Lh (HMK7.out.later hb8)
  have HSV8 := Lh (HSV.out.later hb8)
  have HB8 := Lh (Ks HB7.out hb8)
  obtain ⟨nl, hnl⟩ : ∃ nl, RS.length = nl := ⟨_, rfl⟩
  have HNL := Lh hnl
  rw [hnl]
  clear hrw hb8 hnl
  iterate 5 (refine wpList_plain rfl (fun K hK => ?_); go_simp; refine hK _ _ ?_; clear hK K)
  go_upto_region 8 with fail
  apply wp_region_lit
  (refine wpList_plain rfl (fun K hK => ?_); go_simp; refine hK _ _ ?_; clear hK K)
  (refine wpList_plain rfl (fun K hK => ?_); go_simp)
  have hnum := sev_num HU.out A p SB HSLE.out v W8 (HE.out.later (Ks HB1.out HB8.out)) HSV8.out
  rw [HSE.out] at hnum
  refine hnum.mono ?_
  rintro e W9 ⟨rfl, hb9⟩
  refine hK _ _ ?_
  clear hK K hnum
  have hcs0 : W9.cell? ⟨gs, 0, none⟩ = some (.slice ox nl cx) := by rw [(HA8.out.later hb9 HA8.out.lt).cell, <- HNL.out]; rfl
  have hnn : ((SB : Int) != (SB : Int)) = false := by simp
  have HL9 := Lh (same_lists RS ox ow nl cx cw W9 (HRX8.out.later hb9) (HRW.out.later hb9) HNL.out)
  have HB9 := Lh (Ks HB8.out hb9)
  have HA9 := Lh (HA8.out.later hb9 HA8.out.lt)
  have HRW9 := Lh (HRW.out.later hb9)
  have HMK9 := Lh (HMK8.out.later hb9)
  clear hb9
  iterate 3 (refine wpList_plain rfl (fun K hK => ?_); go_simp; refine hK _ _ ?_; clear hK K)
  iterate 3 (refine BigFrame.wpList_want (by rfl) (fun K hK => ?_); go_simp; refine hK _ _ ?_; clear hK K)
  (refine BigFrame.wpList_want (by rfl) (fun K hK => ?_); go_simp)
  refine HL9.out.mono ?_
  rintro e W10 ⟨rfl, hd⟩
  refine hK _ _ ?_
  clear hK K HL9 hcs0
  have hb10 := hd.below
  have HB10 := Lh (Ks HB9.out hb10)
  have HA10 := Lh (HA9.out.later hb10 HA9.out.lt)
  have HRW10 := Lh (HRW9.out.later hb10)
  have HMK10 := Lh (HMK9.out.later hb10)
  clear hd hb10
  have hc2 := HC2.out W10 HB10.out
  (refine BigFrame.wpList_want (by rfl) (fun K hK => ?_); go_simp; refine hK _ _ ?_; clear hK K)
  iterate 2 (refine wpList_plain rfl (fun K hK => ?_); go_simp; refine hK _ _ ?_; clear hK K)
  iterate 3 (refine BigFrame.wpList_want (by rfl) (fun K hK => ?_); go_simp; refine hK _ _ ?_; clear hK K)
  (refine BigFrame.wpList_want (by rfl) (fun K hK => ?_); go_simp)
  refine (kept_any F B oF cF W10 HMK10.out (HFR.out.later (Ks HB1.out HB10.out)) (by have := HKL.out; omega)).mono ?_
  rintro e W11 ⟨rfl, hd⟩
  refine hK _ _ ?_
  clear hK K hc2
  have hb11 := hd.below
  have HB11 := Lh (Ks HB10.out hb11)
  have HA11 := Lh (HA10.out.later hb11 HA10.out.lt)
  have HRW11 := Lh (HRW10.out.later hb11)
  clear hd hb11
  (refine BigFrame.wpList_want (by rfl) (fun K hK => ?_); go_simp; refine hK _ _ ?_; clear hK K)
  (refine wpList_plain rfl (fun K hK => ?_); go_simp; refine hK _ _ ?_; clear hK K)
  by_cases hs0 : SB = 0
  ·subst hs0
   have hS := HRS.out
   have hR := HRT0.out
   have hD := HFD.out
   rw [if_pos rfl] at hS hR hD
   subst hS
   have h0 : Da.bad15 p = 0 /\ (F.length : Int) = p.sz := by
    have h := HSB.out
    unfold Da.sbad16 at h
    by_cases a0 : Da.bad15 p = 0
    ·rw [if_pos a0] at h
     by_cases a1 : (F.length : Int) = p.sz
     ·exact ⟨a0, a1⟩
     ·rw [if_neg a1] at h
      omega
    ·rw [if_neg a0] at h
     exact absurd ((Da.err15_zero (Da.bad15_le p)).1 h) a0
   have hn90 := Da.n16_le (Da.right15 h0.1) (by have := HKL.out; omega)
   have hn16 : nl = Da.n16 p := by rw [<- HNL.out, Da.all16_length]
   obtain ⟨RA, hRA⟩ : ∃ RA, (bytesV R).toArray = RA := ⟨_, rfl⟩
   obtain ⟨FA, hFA⟩ : ∃ FA, (bytesV FD).toArray = FA := ⟨_, rfl⟩
   obtain ⟨CC, hCe⟩ : ∃ CC : World -> Prop, (fun v => Below W11.heap.size W11 v) = CC := ⟨_, rfl⟩
   have HCm : Hid (∀ v, CC v -> Below W11.heap.size W11 v) := Lh fun v hv => by rw [<- hCe] at hv; exact hv
   have HCi : Hid (∀ v, Below W11.heap.size W11 v -> CC v) := Lh fun v hv => by rw [<- hCe]; exact hv
   have HCq : Hid (∀ v, CC v -> Below W1.heap.size W1 v) := Lh fun v hv => Ks HB11.out (HCm.out v hv)
   have hCC : CC { W11 with drawn := W11.drawn + 1 } := HCi.out _ (Kit.dn' W11 1)
   have HLR : Hid (∀ v, Below W11.heap.size W11 v -> (Instr.loadAt 32 (.pointer (some ⟨gs, 1, none⟩))).run Tryz.prog v = .ok (.agg RA) v) := Lh fun v hv => by
    rw [<- hRA]; exact dg_load_run dg_under dgI_code HRL.out (sld_root16 _ _ _ (HA11.out.later hv HA11.out.lt))
   have HLF : Hid (∀ v, Below W11.heap.size W11 v -> (Instr.loadAt 32 (.pointer (some ⟨gs, 33, none⟩))).run Tryz.prog v = .ok (.agg FA) v) := Lh fun v hv => by
    rw [<- hFA]; exact dg_load_run dg_under dgI_code HFDL.out (sld_file16 _ _ _ HRL.out (HA11.out.later hv HA11.out.lt))
   have HRT : Hid (∀ v, CC v -> Calls Tryz.prog 15 #[.slice ow nl cw] v fun e w' => e = .returned (.agg RA) /\ CC w') := Lh fun v hv => by
    have hv2 := HCm.out v hv
    refine (rroot_any _ ow nl cw HNL.out v (HRW11.out.later hv2) (HRD.out.later (Ks HB1.out (HCq.out v hv))) (by omega) (fun i hi => by
     rw [Da.all16_length] at hi
     rw [Da.all16_sixteen MK N F p (by omega) i hi]; omega)).mono ?_
    rintro e w' ⟨rfl, hb⟩
    exact ⟨by rw [<- hRA, <- hR], HCi.out _ (Ks hv2 hb)⟩
   have HOF : Hid (∀ v, CC v -> Calls Tryz.prog 16 #[.slice oF F.length cF] v fun e w' => e = .returned (.agg FA) /\ CC w') := Lh fun v hv => by
    have hv2 := HCm.out v hv
    refine (rof_any F oF cF v (HFR.out.later (Ks HB1.out (HCq.out v hv))) (HRD.out.later (Ks HB1.out (HCq.out v hv))) (by have := HKL.out; omega)).mono ?_
    rintro e w' ⟨rfl, hb⟩
    exact ⟨by rw [<- hFA, <- hD], HCi.out _ (Ks hv2 hb)⟩
   have heq : ∀ W, (binOp .eql 31 (.agg RA) (.agg RA)).run Tryz.prog W = .ok (.bool true) W := fun W => by
    have := d32_eql R R HRL.out HRL.out W
    rw [hRA, beq_self_eq_true] at this
    exact this
   have heq2 : ∀ W, (binOp .eql 31 (.agg FA) (.agg FA)).run Tryz.prog W = .ok (.bool true) W := fun W => by
    have := d32_eql FD FD HFDL.out HFDL.out W
    rw [hFA, beq_self_eq_true] at this
    exact this
   have hgd := d32_guard
   have hz1 : ((0 : Int) != 0) = false := rfl
   clear hR hD h0 hn90 hn16 hRA hFA hCe
   go_upto_region 12 with fail
   refine wp_region_held (S := CC) (by kernel_rfl) ?_
   refine takeH16 (i := 0) (x := .pointer (some ⟨gs, 1, none⟩)) rfl rfl (by kernel_rfl) (by kernel_rfl) (by kernel_rfl) (fun _ _ _ h => h) (Or.inl ⟨by kernel_rfl, fun w hw => by (go_simp <;> with_reducible rfl)⟩) hCC ?_
   simp only [List.setIfInBounds_toArray, List.set_cons_zero, List.set_cons_succ]
   refine takeH16 (i := 1) (x := .agg RA) rfl rfl (by kernel_rfl) (by kernel_rfl) (by kernel_rfl) (fun _ _ _ h => h) (Or.inl ⟨by kernel_rfl, fun w hw => exec_mid16 rfl rfl (HLR.out w (HCm.out w hw))⟩) hCC ?_
   simp only [List.setIfInBounds_toArray, List.set_cons_zero, List.set_cons_succ]
   refine takeH16 (i := 2) (x := .slice ow nl cw) rfl rfl (by kernel_rfl) (by kernel_rfl) (by kernel_rfl) (fun _ _ _ h => h) (Or.inl ⟨by kernel_rfl, fun w hw => by (go_simp <;> with_reducible rfl)⟩) hCC ?_
   simp only [List.setIfInBounds_toArray, List.set_cons_zero, List.set_cons_succ]
   refine readyH16 (i := 3) (by kernel_rfl) rfl (by kernel_rfl) (fun K hK => ?_)
   go_simp
   refine (HRT.out _ hCC).mono ?_
   rintro e Y1 ⟨rfl, hCC⟩
   refine hK _ _ hCC ?_
   clear hK K HRT
   refine takeH16 (i := 4) (x := .bool true) rfl rfl (by kernel_rfl) (by kernel_rfl) (by kernel_rfl) (fun _ _ _ h => h) (Or.inl ⟨by kernel_rfl, fun w hw => by (go_simp <;> with_reducible rfl)⟩) hCC ?_
   simp only [List.setIfInBounds_toArray, List.set_cons_zero, List.set_cons_succ]
   refine takeH16 (i := 5) (x := .bool true) rfl rfl (by kernel_rfl) (by kernel_rfl) (by kernel_rfl) (fun _ _ _ h => h) (Or.inl ⟨by kernel_rfl, fun w hw => by (go_simp <;> with_reducible rfl)⟩) hCC ?_
   simp only [List.setIfInBounds_toArray, List.set_cons_zero, List.set_cons_succ]
   refine takeH16 (i := 6) (x := .pointer (some ⟨gs, 33, none⟩)) rfl rfl (by kernel_rfl) (by kernel_rfl) (by kernel_rfl) (fun _ _ _ h => h) (Or.inl ⟨by kernel_rfl, fun w hw => by (go_simp <;> with_reducible rfl)⟩) hCC ?_
   simp only [List.setIfInBounds_toArray, List.set_cons_zero, List.set_cons_succ]
   refine takeH16 (i := 7) (x := .agg FA) rfl rfl (by kernel_rfl) (by kernel_rfl) (by kernel_rfl) (fun _ _ _ h => h) (Or.inl ⟨by kernel_rfl, fun w hw => exec_mid16 rfl rfl (HLF.out w (HCm.out w hw))⟩) hCC ?_
   simp only [List.setIfInBounds_toArray, List.set_cons_zero, List.set_cons_succ]
   refine takeH16 (i := 8) (x := .pointer (some ⟨g, 2, none⟩)) rfl rfl (by kernel_rfl) (by kernel_rfl) (by kernel_rfl) (fun _ _ _ h => h) (Or.inl ⟨by kernel_rfl, fun w hw => by (go_simp <;> with_reducible rfl)⟩) hCC ?_
   simp only [List.setIfInBounds_toArray, List.set_cons_zero, List.set_cons_succ]
   refine takeH16 (i := 9) (x := .slice oF F.length cF) rfl rfl (by kernel_rfl) (by kernel_rfl) (by kernel_rfl) (fun _ _ _ h => h) (Or.inl ⟨by kernel_rfl, fun w hw => by have hc := HC2.out w (HCq.out w hw); (go_simp <;> with_reducible rfl)⟩) hCC ?_
   simp only [List.setIfInBounds_toArray, List.set_cons_zero, List.set_cons_succ]
   refine readyH16 (i := 10) (by kernel_rfl) rfl (by kernel_rfl) (fun K hK => ?_)
   go_simp
   refine (HOF.out _ hCC).mono ?_
   rintro e Y2 ⟨rfl, hCC⟩
   refine hK _ _ hCC ?_
   clear hK K HOF
   refine takeH16 (i := 11) (x := .bool true) rfl rfl (by kernel_rfl) (by kernel_rfl) (by kernel_rfl) (fun _ _ _ h => h) (Or.inl ⟨by kernel_rfl, fun w hw => by (go_simp <;> with_reducible rfl)⟩) hCC ?_
   simp only [List.setIfInBounds_toArray, List.set_cons_zero, List.set_cons_succ]
   refine takeH16 (i := 12) (x := .bool true) rfl rfl (by kernel_rfl) (by kernel_rfl) (by kernel_rfl) (fun _ _ _ h => h) (Or.inl ⟨by kernel_rfl, fun w hw => by (go_simp <;> with_reducible rfl)⟩) hCC ?_
   simp only [List.setIfInBounds_toArray, List.set_cons_zero, List.set_cons_succ]
   refine takeH16 (i := 13) (x := .bool true) rfl rfl (by kernel_rfl) (by kernel_rfl) (by kernel_rfl) (fun _ _ _ h => h) (Or.inl ⟨by kernel_rfl, fun w hw => by (go_simp <;> with_reducible rfl)⟩) hCC ?_
   simp only [List.setIfInBounds_toArray, List.set_cons_zero, List.set_cons_succ]
   refine wpAnyH_done (by kernel_rfl) ?_ _
   have HFIN := Lh (Ks HB1.out (HCq.out _ hCC))
   clear hCC
   go_wp2_with fail
   go_ret
   exact ⟨rfl, HFIN.out⟩
  ·have hn1 : ¬ (SB : Int) = 0 := by omega
   have hn2 : ((SB : Int) == 0) = false := beq_false_of_ne hn1
   have hn3 : ((SB : Int) != 0) = true := by rw [bne_iff_ne]; exact hn1
   have hR := HRT0.out
   have hD := HFD.out
   rw [if_neg hs0] at hR hD
   subst hR
   subst hD
   have HDI : Hid ((Tryz.prog.info? 32).map (·.size) = some (bytesV Da.zd16).length) := Lh dg_info
   have hl3 : (bytesV Da.zd16).toArray = #[.int .u8 0, .int .u8 0, .int .u8 0, .int .u8 0, .int .u8 0, .int .u8 0, .int .u8 0, .int .u8 0, .int .u8 0, .int .u8 0, .int .u8 0, .int .u8 0, .int .u8 0, .int .u8 0, .int .u8 0, .int .u8 0, .int .u8 0, .int .u8 0, .int .u8 0, .int .u8 0, .int .u8 0, .int .u8 0, .int .u8 0, .int .u8 0, .int .u8 0, .int .u8 0, .int .u8 0, .int .u8 0, .int .u8 0, .int .u8 0, .int .u8 0, .int .u8 0] := rfl
   have heq : ∀ W, (binOp .eql 32 (.agg #[.int .u8 0, .int .u8 0, .int .u8 0, .int .u8 0, .int .u8 0, .int .u8 0, .int .u8 0, .int .u8 0, .int .u8 0, .int .u8 0, .int .u8 0, .int .u8 0, .int .u8 0, .int .u8 0, .int .u8 0, .int .u8 0, .int .u8 0, .int .u8 0, .int .u8 0, .int .u8 0, .int .u8 0, .int .u8 0, .int .u8 0, .int .u8 0, .int .u8 0, .int .u8 0, .int .u8 0, .int .u8 0, .int .u8 0, .int .u8 0, .int .u8 0, .int .u8 0]) (.agg #[.int .u8 0, .int .u8 0, .int .u8 0, .int .u8 0, .int .u8 0, .int .u8 0, .int .u8 0, .int .u8 0, .int .u8 0, .int .u8 0, .int .u8 0, .int .u8 0, .int .u8 0, .int .u8 0, .int .u8 0, .int .u8 0, .int .u8 0, .int .u8 0, .int .u8 0, .int .u8 0, .int .u8 0, .int .u8 0, .int .u8 0, .int .u8 0, .int .u8 0, .int .u8 0, .int .u8 0, .int .u8 0, .int .u8 0, .int .u8 0, .int .u8 0, .int .u8 0])).run Tryz.prog W = .ok (.bool true) W := fun W => by
    have := dgs16_eql Da.zd16 Da.zd16 rfl rfl W
    rw [hl3, beq_self_eq_true] at this
    exact this
   have HEQ := Lh heq
   have HL3 := Lh hl3
   have hgd := dgs16_guard
   clear heq hl3
   go_upto_region 11 with fail
   apply wp_region_lit
   (refine wpList_plain rfl (fun K hK => ?_); go_simp; refine hK _ _ ?_; clear hK K)
   refine wpList_load_mid rfl 32 (.tmp 58) rfl gs 1 rfl (bytesV Da.zd16) _ (sld_root16 _ _ _ HA11.out) dg_under rfl HDI.out ?_
   rw [HL3.out]
   have heq := HEQ.out
   iterate 3 (refine wpList_plain rfl (fun K hK => ?_); go_simp; refine hK _ _ ?_; clear hK K)
   (refine BigFrame.wpList_want (by rfl) (fun K hK => ?_); go_simp; refine hK _ _ ?_; clear hK K)
   refine BigFrame.wpList_want (by rfl) (fun K hK => wp_load_mid 32 (.tmp 63) rfl gs 33 rfl (bytesV Da.zd16) _ (sld_file16 _ _ _ rfl HA11.out) dg_under rfl HDI.out (hK _ _ ?_))
   clear hK K
   rw [HL3.out]
   iterate 2 (refine BigFrame.wpList_want (by rfl) (fun K hK => ?_); go_simp; refine hK _ _ ?_; clear hK K)
   iterate 2 (refine wpList_plain rfl (fun K hK => ?_); go_simp; refine hK _ _ ?_; clear hK K)
   go_wp2_with fail
   go_ret
   exact ⟨rfl, Ks HB1.out HB11.out⟩
theorem ss16_any (A : Nat -> Addr) (hC : SlM A) (U : Er.UnwrapOk)
    (MK F : List UInt8) (ok oF : Option Addr) (ck cF : Nat) (N : Int) (p : Pm15) (w : World) (hK : RowIs w ok (bytesV MK) ck) (hF : RowIs w oF (bytesV F) cF) (hN : in64 N) (hok : p.ok) (hV : Cds w) (hR : Rds w) (hE : Er.Errs w A) :
    Calls Tryz.prog 3 #[.agg (mdA (.slice ok MK.length ck) N (.slice oF F.length cF) p)] w fun e w' => e = .returned (.bool true) /\ Below w.heap.size w w' :=
 ss16_of _ rfl sld_zero _ rfl d32b16 A hC U MK F ok oF ck cF N p w hK hF hN hok hV hR hE
end Go.Proofs.YtffheegeaghfjaaGreatDoor
