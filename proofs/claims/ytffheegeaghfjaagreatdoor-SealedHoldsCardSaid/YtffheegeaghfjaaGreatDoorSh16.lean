/- Sh16 -/
import Derived.Test.YtffheegeaghfjaaGreatDoorYHPS
import Derived.Test.YtffheegeaghfjaaGreatDoorYHPT
import Derived.Test.YtffheegeaghfjaaGreatDoorYHS
import Derived.Test.YtffheegeaghfjaaGreatDoorYHT
import Derived.Test.YtffheegeaghfjaaGreatDoorYH
import Derived.Test.YtffheegeaghfjaaGreatDoorCh16
import Derived.Test.YtffheegeaghfjaaGreatDoorPkx
set_option linter.unusedVariables false
set_option linter.unusedSimpArgs false
set_option maxRecDepth 100000
set_option maxHeartbeats 8000000
namespace Go.Proofs.YtffheegeaghfjaaGreatDoor
open Go.RowKit
theorem pm16h_info : (Tryz.prog.info? 24).map (·.size) = some 6 := by kernel_rfl
theorem str_neq16h (a : ByteArray) (W : World) : (binOp .neq 9 (.string a) (.string a)).run Tryz.prog W = .ok (.bool false) W := by
 have hu := Tryz.underlying9
 go_simp
theorem sld_root16h (x : Value) (r f : List UInt8) {W : World} {b : Nat} {T : TypeId} (h : Arr W b T (sldL x r f)) : W.rangeAt b 1 (bytesV r) := h.range 1 _ fun j v hv => by
 unfold sldL
 have hj := (List.getElem?_eq_some_iff.1 hv).1
 rw [List.getElem?_append_right (by simp), List.getElem?_append_left (by simpa using hj)]
 simpa using hv
theorem sev_nn16 {A : Nat -> Addr} {p : Pm15} {k : Nat} {W : World} {v : Value} (h : SeV A p k W v) (h0 : k ≠ 0) : Nn16 v := by
 rcases h with ⟨h1, h2⟩ | ⟨_, rfl⟩
 ·rcases h2 with ⟨h3, _⟩ | ⟨_, b, rfl, _⟩
  ·exact absurd h3 h1
  ·exact nn_wr16 b
 ·obtain ⟨a, ha⟩ := errV_succ A k h0
  rw [ha]
  exact nn_str16 a
theorem Da.sbad16_zero {K : List UInt8} {N : Int} {F : List UInt8} {p : Pm15} (h : Da.sbad16 K N F p = 0) : Da.bad15 p = 0 /\ (F.length : Int) = p.sz /\ Da.abad (Da.isMas K.length) (Da.inR N) = 0 := by
 unfold Da.sbad16 at h
 by_cases a0 : Da.bad15 p = 0
 ·rw [if_pos a0] at h
  by_cases a1 : (F.length : Int) = p.sz
  ·rw [if_pos a1] at h
   exact ⟨a0, a1, h⟩
  ·rw [if_neg a1] at h
   omega
 ·rw [if_neg a0] at h
  exact absurd ((Da.err15_zero (Da.bad15_le p)).1 h) a0
theorem sev_zero16 {A : Nat -> Addr} {p : Pm15} {W : World} {v : Value} (h : SeV A p 0 W v) (h0 : Da.bad15 p = 0) : v = .nilIface := by
 rcases h with ⟨h1, _⟩ | ⟨_, h⟩
 ·exact absurd h0 h1
 ·exact h
def HoAt (n : Nat) (w : World) (iv : Value) (wr : World) : Prop := ∃ k : Nat, k <= n /\ iv = .int .i64 (k : Int) /\ Below w.heap.size w wr
theorem sh16_of (ZS : Array Value) (hZS : (sldL (.slice none 0 0) Da.zd16 Da.zd16).toArray = ZS) (hzs : ∀ w, Sem.run Tryz.prog (zeroValue 34) w = .ok (.agg ZS) w) (A : Nat -> Addr) (hC : SlC A)
    (MK F : List UInt8) (ok oF : Option Addr) (ck cF : Nat) (N : Int) (p : Pm15) (w : World) (hK : RowIs w ok (bytesV MK) ck) (hF : RowIs w oF (bytesV F) cF) (hN : in64 N) (hok : p.ok) (hV : Cds w) (hE : E16 w A) (hE3 : E13 w A) :
    Calls Tryz.prog 6 #[.agg (mdA (.slice ok MK.length ck) N (.slice oF F.length cF) p)] w fun e w' => e = .returned (.bool true) /\ Below w.heap.size w w' := by
 obtain ⟨g, hg⟩ : ∃ g, w.heap.size = g := ⟨_, rfl⟩
 have hmt : (mdL (.slice ok MK.length ck) N (.slice oF F.length cF) p).toArray = mdA (.slice ok MK.length ck) N (.slice oF F.length cF) p := rfl
 obtain ⟨MA, hMA⟩ : ∃ MA, mdA (.slice ok MK.length ck) N (.slice oF F.length cF) p = MA := ⟨_, rfl⟩
 obtain ⟨W1, hW1⟩ : ∃ W1, w.alloc (.cells MA 26) = W1 := ⟨_, rfl⟩
 have hM1 : W1.heap[g]? = some (.cells MA 26 (0, 0)) := by rw [<- hW1, <- hg]; exact World.alloc_heap_new w _
 have hArr : Arr W1 g 26 (mdL (.slice ok MK.length ck) N (.slice oF F.length cF) p) := by unfold Arr; rw [hmt, hMA]; exact hM1
 have hb1 : Below w.heap.size w W1 := by rw [<- hW1]; exact new12 _ _
 have hgl : g < W1.heap.size := hArr.lt
 obtain ⟨lk, hlk⟩ : ∃ lk, MK.length = lk := ⟨_, rfl⟩
 obtain ⟨lf, hlf⟩ : ∃ lf, F.length = lf := ⟨_, rfl⟩
 rw [hlk, hlf] at hArr
 have HC0 : Hid (∀ v, Below W1.heap.size W1 v -> v.cell? ⟨g, 0, none⟩ = some (.slice ok lk ck)) := Lh fun v hv => by rw [(hArr.later hv hgl).cell]; rfl
 have HC1 : Hid (∀ v, Below W1.heap.size W1 v -> v.cell? ⟨g, 1, none⟩ = some (.int .i64 N)) := Lh fun v hv => by rw [(hArr.later hv hgl).cell]; rfl
 have HC2 : Hid (∀ v, Below W1.heap.size W1 v -> v.cell? ⟨g, 2, none⟩ = some (.slice oF lf cF)) := Lh fun v hv => by rw [(hArr.later hv hgl).cell]; rfl
 have HC4 : Hid (∀ v, Below W1.heap.size W1 v -> v.cell? ⟨g, 4, none⟩ = some (.int .i64 p.se)) := Lh fun v hv => by rw [(hArr.later hv hgl).cell]; rfl
 have HRG : Hid (∀ v, Below W1.heap.size W1 v -> v.rangeAt g 3 (pmL p)) := Lh fun v hv => (hArr.later hv hgl).range 3 _ (fun j u hu => by
  unfold mdL
  rw [List.getElem?_append_right (by simp)]
  simpa using hu)
 have HAL := Lh (al16_any A hC.sl W1 (hV.later hb1) (hE.later hb1))
 obtain ⟨PA, hPA⟩ : ∃ PA, pmA p = PA := ⟨_, rfl⟩
 have hpl : (pmL p).toArray = PA := by rw [<- hPA]; rfl
 have HPL := Lh hpl
 have HPA := Lh hPA
 have HPC : Hid ((Tryz.prog.info? 24).map (·.size) = some (pmL p).length) := Lh pm16h_info
 have HB1 := Lh hb1
 have HG := Lh hg
 have HW1 := Lh hW1
 have HC := Lh hC
 have HKR := Lh hK
 have HFR := Lh hF
 have HNK := Lh hN
 have HOK := Lh hok
 have HV := Lh hV
 have HE := Lh hE
 have HE3 := Lh hE3
 have HZS := Lh hZS
 have HLK := Lh hlk
 have HLF := Lh hlf
 have hnn := neq_nil
 rw [hMA]
 clear hg hMA hW1 hM1 hb1 hgl hC hK hF hN hok hV hE hE3 hZS hArr hmt hpl hPA hlk hlf
 go_enter Tryz.func6, Tryz.ntmps6
 go_upto_region 1 with fail
 rw [HW1.out, HG.out]
 go_wp2_with fail
 refine HAL.out.mono ?_
 rintro e W2 ⟨rfl, hb2⟩
 have HB2 := Lh hb2
 have hc0 := HC0.out W2 hb2
 have hc2 := HC2.out W2 hb2
 clear hb2 HAL
 by_cases hl1 : 100 < lk
 ·have hd : decide ((lk : Int) > 100) = true := decide_eq_true (by omega)
  clear hl1
  go_wp2_with fail
  go_ret
  exact ⟨rfl, Ks HB1.out HB2.out⟩
 have hd : decide ((lk : Int) > 100) = false := decide_eq_false (by omega)
 by_cases hl2 : 100 < lf
 ·have hd2 : decide ((lf : Int) > 100) = true := decide_eq_true (by omega)
  clear hl1 hl2
  go_wp2_with fail
  go_ret
  exact ⟨rfl, Ks HB1.out HB2.out⟩
 have hd2 : decide ((lf : Int) > 100) = false := decide_eq_false (by omega)
 have HKL : Hid (MK.length <= 100 /\ F.length <= 100) := Lh (by have := HLK.out; have := HLF.out; omega)
 clear hl1 hl2
 have hc1 := HC1.out W2 HB2.out
 have hsl := HC.out.sl.mksl W2 ok ck MK N oF cF F p (HKR.out.later (Ks HB1.out HB2.out)) (HFR.out.later (Ks HB1.out HB2.out)) HKL.out.1 (by have := HKL.out; omega) HNK.out HOK.out (HV.out.later (Ks HB1.out HB2.out)) (HE.out.later (Ks HB1.out HB2.out))
 obtain ⟨RS, hRS⟩ : ∃ RS, (if Da.sbad16 MK N F p = 0 then Da.all16 MK N F p else []) = RS := ⟨_, rfl⟩
 obtain ⟨R, hRt⟩ : ∃ R, (if Da.sbad16 MK N F p = 0 then Da.mth (Da.all16 MK N F p) else Da.zd16) = R := ⟨_, rfl⟩
 obtain ⟨FD, hFD⟩ : ∃ FD, (if Da.sbad16 MK N F p = 0 then Da.sha F else Da.zd16) = FD := ⟨_, rfl⟩
 have hrl : R.length = 32 := by rw [<- hRt]; split; exact Da.mth_length _; rfl
 have hfl : FD.length = 32 := by rw [<- hFD]; split; exact Da.sha_length _; rfl
 rw [hRS, hRt, hFD, HPA.out, HLK.out, HLF.out] at hsl
 obtain ⟨SB, hSB⟩ : ∃ SB, Da.sbad16 MK N F p = SB := ⟨_, rfl⟩
 rw [hSB] at hsl hRS hRt hFD
 have HSL := Lh hsl
 have HRS := Lh hRS
 have HRT0 := Lh hRt
 have HRL := Lh hrl
 have HFDL := Lh hfl
 have HSB := Lh hSB
 clear hsl hRS hRt hFD hrl hfl hSB
 go_upto_region 5 with fail
 apply wp_region_lit
 iterate 7 (refine wpList_plain rfl (fun K hK => ?_); go_simp; refine hK _ _ ?_; clear hK K)
 refine wpList_load_mid rfl 24 (.tmp 34) rfl g 3 rfl (pmL p) _ (HRG.out W2 HB2.out) Tryz.underlying24 rfl HPC.out ?_
 rw [HPL.out]
 (refine wpList_plain rfl (fun K hK => ?_); go_simp)
 refine HSL.out.mono ?_
 rintro e W5 ⟨x, v, rfl, hx, hv, hb5⟩
 refine hK _ _ ?_
 clear hK K HSL hc0 hc1 hc2
 obtain ⟨SA, hSA⟩ : ∃ SA, (sldL x R FD).toArray = SA := ⟨_, rfl⟩
 have hx1 : x.oneCell' = true := by obtain ⟨o, c, rfl, _⟩ := hx; rfl
 have HFS : Hid ((Tryz.prog.info? 34).map (·.size) = some SA.size) := Lh (by rw [sld_info, <- hSA]; simp [sld_length, HRL.out, HFDL.out])
 have HFZ : Hid (ZS.size = SA.size) := Lh (by rw [<- HZS.out, <- hSA]; simp [sld_length, HRL.out, HFDL.out, Da.zd16])
 have HFO : Hid (SA.all (·.oneCell') = true) := Lh (by rw [<- hSA]; exact sld_one x hx1 R FD)
 obtain ⟨gs, hgs⟩ : ∃ gs, W5.heap.size = gs := ⟨_, rfl⟩
 obtain ⟨W6, hW6⟩ : ∃ W6, W5.alloc (.cells ZS 34) = W6 := ⟨_, rfl⟩
 have hz6 : W6.heap[gs]? = some (.cells ZS 34 (0, 0)) := by rw [<- hW6, <- hgs]; exact World.alloc_heap_new W5 _
 obtain ⟨W7, hW7⟩ : ∃ W7, W6.setRow gs SA = W7 := ⟨_, rfl⟩
 have hA7 : Arr W7 gs 34 (sldL x R FD) := by rw [<- hW7]; unfold Arr; rw [hSA]; exact setRow_heap _ _ _ _ _ _ hz6
 have hb7 : Below W5.heap.size W5 W7 := by rw [<- hW7, <- hW6]; exact (new12 _ _).trans (below_row (Nat.le_of_eq hgs))
 obtain ⟨ox, cx, rfl, hrx⟩ := hx.later hb7
 have HRX := Lh hrx
 have HA7 := Lh hA7
 have HSV := Lh (hv.later hb7)
 have HB7 := Lh (Ks (Ks HB2.out hb5) hb7)
 have HZ6 := Lh hz6
 have HW6 := Lh hW6
 have HW7 := Lh hW7
 have HGS := Lh hgs
 rw [hSA]
 clear hSA hx1 hgs hW6 hz6 hW7 hA7 hb7 hrx hb5 hx hv
 iterate 4 (refine wpList_plain rfl (fun K hK => ?_); go_simp; refine hK _ _ ?_; clear hK K)
 rw [HW6.out, HGS.out]
 refine wpList_store_rowTo rfl 34 (.tmp 3) (.tmp 37) rfl rfl gs SA rfl rfl 34 ZS HZ6.out HFS.out HFZ.out HFO.out ?_
 rw [HW7.out]
 (refine wpList_plain rfl (fun K hK => ?_); go_simp; refine hK _ _ ?_; clear hK K)
 obtain ⟨nl, hnl⟩ : ∃ nl, RS.length = nl := ⟨_, rfl⟩
 have HCS0 : Hid (∀ v, Below W7.heap.size W7 v -> v.cell? ⟨gs, 0, none⟩ = some (.slice ox nl cx)) := Lh fun v hv => by rw [(HA7.out.later hv HA7.out.lt).cell, <- hnl]; rfl
 have HNL := Lh hnl
 clear hnl
 by_cases hs0 : SB = 0
 rotate_left
 ·have hn := sev_nn16 HSV.out hs0
  obtain ⟨hn1, hn2⟩ := hn
  have hcs := HCS0.out W7 (Below.refl _ _)
  have hn0 : nl = 0 := by rw [<- HNL.out, <- HRS.out, if_neg hs0]; rfl
  subst hn0
  clear hs0
  go_wp2_with fail
  go_ret
  exact ⟨rfl, Ks HB1.out HB7.out⟩
 subst hs0
 obtain ⟨h0, hsz, hab⟩ := Da.sbad16_zero HSB.out
 obtain rfl := sev_zero16 HSV.out h0
 have hR := Da.right15 h0
 have hn90 := Da.n16_le hR (by have := HKL.out; omega)
 have hni := Da.n16_int hR
 obtain ⟨n, hne⟩ : ∃ n, Da.n16 p = n := ⟨_, rfl⟩
 have hRS : RS = Da.all16 MK N F p := by rw [<- HRS.out, if_pos rfl]
 have hRt : R = Da.mth (Da.all16 MK N F p) := by rw [<- HRT0.out, if_pos rfl]
 have hnln : nl = n := by rw [<- HNL.out, hRS, Da.all16_length, hne]
 subst hnln
 have hal : (allB F).length = Da.tot15 p.sz := (Da.sbad16_good h0 hsz (K := MK) (N := N)).2
 have hst := stored15_any A W7 p HOK.out ((HE.out.later (Ks HB1.out HB7.out)).e15)
 rw [if_pos h0, hni, hne, HPA.out] at hst
 have HST := Lh hst
 rw [hne] at hn90
 rw [hRS] at HRX
 have HTG : Hid (∀ q, q < nl -> Da.tgd16 (Da.key16 MK N 3) (q : Int) (bi (Da.all16 MK N F p) q) = true) := Lh fun q hq => Da.tgd16_all MK N F p (by rw [hne]; omega) q (by rw [hne]; exact hq)
 have H16 : Hid (∀ q, q < nl -> (bi (Da.all16 MK N F p) q).length = 16) := Lh fun q hq => Da.all16_sixteen MK N F p (by rw [hne]; omega) q (by rw [hne]; exact hq)
 have HJT : Hid (∀ j : Int, 0 <= j -> j < p.se -> Da.jat16 MK N p j < nl /\ bi (Da.all16 MK N F p) (Da.jat16 MK N p j) = Da.tg16 (Da.key16 MK N 3) ((Da.jat16 MK N p j : Nat) : Int) (Da.sb (Da.key16 MK N 2) j)) := Lh fun j h1 h2 => by
  have := Da.jat16_all MK N F p hR hal j h1 h2
  rw [hne] at this
  exact this
 have hse0 := hR.e0
 have hse1 := hR.e1
 obtain ⟨s, hs⟩ : ∃ s : Nat, p.se = (s : Int) := ⟨p.se.toNat, by omega⟩
 have hall : (Da.all16 MK N F p).length = nl := by rw [Da.all16_length, hne]
 obtain ⟨AL, hAL⟩ : ∃ AL, Da.all16 MK N F p = AL := ⟨_, rfl⟩
 rw [hAL] at HRX HTG H16 HJT hRt hall
 have HALN := Lh hall
 have HRT := Lh hRt
 have HAB := Lh hab
 have HH0 := Lh h0
 have HN90 := Lh hn90
 have HSEE := Lh hs
 have HS8 : Hid (s <= 8) := Lh (by omega)
 have HRX7 : Hid (RbIs W7 ox AL cx) := Lh HRX.out
 clear h0 hsz hab hR hn90 hni hne hRS hRt hal hst hse0 hse1 hs hall HRX hAL
 go_upto_region 8 with fail
 apply wp_region_lit
 (refine wpList_plain rfl (fun K hK => ?_); go_simp; refine hK _ _ ?_; clear hK K)
 refine wpList_load_mid rfl 24 (.tmp 46) rfl g 3 rfl (pmL p) _ (HRG.out W7 HB7.out) Tryz.underlying24 rfl HPC.out ?_
 rw [HPL.out]
 (refine wpList_plain rfl (fun K hK => ?_); go_simp)
 refine HST.out.mono ?_
 rintro e W8 ⟨v, rfl, hv, hb8⟩
 refine hK _ _ ?_
 clear hK K HST
 obtain rfl : v = .nilIface := by
  rcases hv with ⟨_, h⟩ | ⟨h, _⟩
  ·exact h
  ·exact absurd HH0.out h
 have HB8 := Lh (Ks HB7.out hb8)
 have HL8 := Lh hb8
 clear hv hb8
 iterate 5 (refine wpList_plain rfl (fun K hK => ?_); go_simp; refine hK _ _ ?_; clear hK K)
 have hcs := HCS0.out W8 HL8.out
 have hq : ((nl : Int) != (nl : Int)) = false := by simp
 go_upto_region 12 with fail
 clear hq hcs
 go_loopw [63] (fun iv wr => HoAt nl W8 iv wr) (fun iv _ => nl - (intOf iv).toNat)
 case atStart => exact ⟨0, Nat.zero_le _, rfl, Below.refl _ _⟩
 case round =>
  obtain ⟨i, hi, rfl, hB⟩ := hrel
  have HBR := Lh (Ks HB8.out hB)
  have HBL := Lh (Ks HL8.out hB)
  have HBT := Lh hB
  clear hB
  by_cases hlt : i < nl
  rotate_left
  ·obtain rfl : nl = i := by omega
   have dk : decide ((nl : Int) < (nl : Int)) = false := decide_eq_false (by omega)
   have dk2 : decide (nl < nl) = false := decide_eq_false (by omega)
   have hc4 := HC4.out wr HBR.out
   rw [HSEE.out] at hc4
   go_upto_region 22 with fail
   go_loopw [112] (fun iv wr2 => HoAt s wr iv wr2) (fun iv _ => s - (intOf iv).toNat)
   case atStart => exact ⟨0, Nat.zero_le _, rfl, Below.refl _ _⟩
   case round =>
    rename World => V
    obtain ⟨j, hj, rfl, hB⟩ := hrel
    have HVR := Lh (Ks HBR.out hB)
    have HVL := Lh (Ks HBL.out hB)
    have HVT := Lh hB
    clear hB dk dk2 hc4
    by_cases hlj : j < s
    rotate_left
    ·obtain rfl : j = s := by omega
     have dk : decide ((j : Int) < (j : Int)) = false := decide_eq_false (by omega)
     have dk2 : decide (j < j) = false := decide_eq_false (by omega)
     go_wp2_with fail
     go_ret
     exact ⟨rfl, Ks HB1.out HVR.out⟩
    have dk : decide ((j : Int) < (s : Int)) = true := decide_eq_true (by omega)
    have dk2 : decide (j < s) = true := decide_eq_true hlj
    have hc0 := HC0.out V HVR.out
    have hc1 := HC1.out V HVR.out
    have hsn := HC.out.sentinel V ok ck MK N p (j : Int) (HKR.out.later (Ks HB1.out HVR.out)) HKL.out.1 HNK.out (by unfold in64; have := HS8.out; omega) HOK.out (HV.out.later (Ks HB1.out HVR.out)) (HE.out.later (Ks HB1.out HVR.out))
    have hjb : Da.jbad16 MK N p (j : Int) = 0 := by unfold Da.jbad16; rw [if_pos HAB.out, if_pos ⟨by omega, by rw [HSEE.out]; omega⟩]
    have hsn0 : Da.sen16 p 0 = 0 := by unfold Da.sen16; rw [if_pos HH0.out]
    obtain ⟨hjn, hjt⟩ := HJT.out (j : Int) (by omega) (by rw [HSEE.out]; omega)
    rw [hjb, hsn0, if_pos rfl, if_pos rfl, <- hjt, HPA.out, HLK.out] at hsn
    obtain ⟨q, hq⟩ : ∃ q, Da.jat16 MK N p (j : Int) = q := ⟨_, rfl⟩
    rw [hq] at hsn hjn
    have HSN := Lh hsn
    have HQN := Lh hjn
    clear hsn hjb hsn0 hjn hjt hq
    go_upto_region 24 with fail
    apply wp_region_lit
    iterate 5 (refine wpList_plain rfl (fun K hK => ?_); go_simp; refine hK _ _ ?_; clear hK K)
    refine wpList_load_mid rfl 24 (.tmp 120) rfl g 3 rfl (pmL p) _ (HRG.out V HVR.out) Tryz.underlying24 rfl HPC.out ?_
    rw [HPL.out]
    (refine wpList_plain rfl (fun K hK => ?_); go_simp; refine hK _ _ ?_; clear hK K)
    (refine wpList_plain rfl (fun K hK => ?_); go_simp)
    refine HSN.out.mono ?_
    rintro e V1 ⟨x1, v1, rfl, hx1, hv1, hb1⟩
    refine hK _ _ ?_
    clear hK K HSN hc0 hc1
    obtain rfl := sev_zero16 hv1 HH0.out
    obtain ⟨o1, c1, rfl, hr1⟩ := hx1
    have h16 := H16.out q HQN.out
    rw [h16]
    have HV1 := Lh (Ks HVL.out hb1)
    have HVT1 := Lh (Ks HVT.out hb1)
    obtain ⟨bb, off, p2, q2, rfl, hlb, hcb, hrw⟩ := (HRX7.out.later HV1.out).cell q (by rw [HALN.out]; exact HQN.out)
    rw [h16] at hcb
    obtain ⟨SS, hSS⟩ : ∃ SS, (⟨(bi AL q).toArray⟩ : ByteArray) = SS := ⟨_, rfl⟩
    obtain ⟨CC, hCe⟩ : ∃ CC : World -> Prop, (fun v => Below V1.heap.size V1 v) = CC := ⟨_, rfl⟩
    have HCm : Hid (∀ v, CC v -> Below V1.heap.size V1 v) := Lh fun v hv => by rw [<- hCe] at hv; exact hv
    have hCC : CC { V1 with drawn := V1.drawn + 1 } := by rw [<- hCe]; exact Kit.dn' V1 1
    have HG0 : Hid (∀ v, CC v -> v.cell? ⟨gs, 0, none⟩ = some (.slice (some ⟨bb, off, none⟩) nl cx)) := Lh fun v hv => HCS0.out v (Ks HV1.out (HCm.out v hv))
    have HG1 : Hid (∀ v, CC v -> v.cell? ⟨bb, off + q, none⟩ = some (.slice p2 16 q2)) := Lh fun v hv => ((HCm.out v hv).cell (p := ⟨bb, off + q, none⟩) hlb).trans hcb
    have HK1 : Hid (∀ v, CC v -> (convert 22 9 (.slice p2 16 q2)).run Tryz.prog v = .ok (.string SS) v) := Lh fun v hv => by
     have := run_string (hrw.later (HCm.out v hv)) Tryz.underlying22 Tryz.underlying5 Tryz.underlying9 q2
     rw [h16, hSS] at this
     exact this
    have HK2 : Hid (∀ v, CC v -> (convert 22 9 (.slice o1 16 c1)).run Tryz.prog v = .ok (.string SS) v) := Lh fun v hv => by
     have := run_string (hr1.later (HCm.out v hv)) Tryz.underlying22 Tryz.underlying5 Tryz.underlying9 c1
     rw [h16, hSS] at this
     exact this
    have hsq := str_neq16h SS
    have d1 : decide ((q : Int) < 0) = false := decide_eq_false (by omega)
    have d2 : decide ((q : Int) >= (nl : Int)) = false := decide_eq_false (by have := HQN.out; omega)
    have d3 : decide ((nl : Int) <= (q : Int)) = false := decide_eq_false (by have := HQN.out; omega)
    have d4 : decide (nl <= q) = false := decide_eq_false (by have := HQN.out; omega)
    have hqb : 0 <= (q : Int) /\ (q : Int) < (nl : Int) := by have := HQN.out; omega
    have hqb2 : q < nl := HQN.out
    clear hr1 hlb hcb hrw hSS hCe h16 hb1 hv1
    iterate 7 (refine wpList_plain rfl (fun K hK => ?_); go_simp; refine hK _ _ ?_; clear hK K)
    go_upto_region 25 with fail
    refine wp_region_held (S := CC) (by kernel_rfl) ?_
    refine takeH16 (i := 0) (x := .nilIface) rfl rfl (by kernel_rfl) (by kernel_rfl) (by kernel_rfl) (fun _ _ _ h => h) (Or.inl ⟨by kernel_rfl, fun w hw => by (go_simp <;> with_reducible rfl)⟩) hCC ?_
    simp only [List.setIfInBounds_toArray, List.set_cons_zero, List.set_cons_succ]
    refine takeH16 (i := 1) (x := .bool false) rfl rfl (by kernel_rfl) (by kernel_rfl) (by kernel_rfl) (fun _ _ _ h => h) (Or.inl ⟨by kernel_rfl, fun w hw => by (go_simp <;> with_reducible rfl)⟩) hCC ?_
    simp only [List.setIfInBounds_toArray, List.set_cons_zero, List.set_cons_succ]
    refine takeH16 (i := 2) (x := .bool false) rfl rfl (by kernel_rfl) (by kernel_rfl) (by kernel_rfl) (fun _ _ _ h => h) (Or.inl ⟨by kernel_rfl, fun w hw => by (go_simp <;> with_reducible rfl)⟩) hCC ?_
    simp only [List.setIfInBounds_toArray, List.set_cons_zero, List.set_cons_succ]
    refine takeH16 (i := 3) (x := .int .i64 (q : Int)) rfl rfl (by kernel_rfl) (by kernel_rfl) (by kernel_rfl) (fun _ _ _ h => h) (Or.inl ⟨by kernel_rfl, fun w hw => by (go_simp <;> with_reducible rfl)⟩) hCC ?_
    simp only [List.setIfInBounds_toArray, List.set_cons_zero, List.set_cons_succ]
    refine takeH16 (i := 4) (x := .bool false) rfl rfl (by kernel_rfl) (by kernel_rfl) (by kernel_rfl) (fun _ _ _ h => h) (Or.inl ⟨by kernel_rfl, fun w hw => by (go_simp <;> with_reducible rfl)⟩) hCC ?_
    simp only [List.setIfInBounds_toArray, List.set_cons_zero, List.set_cons_succ]
    refine takeH16 (i := 5) (x := .bool false) rfl rfl (by kernel_rfl) (by kernel_rfl) (by kernel_rfl) (fun _ _ _ h => h) (Or.inl ⟨by kernel_rfl, fun w hw => by (go_simp <;> with_reducible rfl)⟩) hCC ?_
    simp only [List.setIfInBounds_toArray, List.set_cons_zero, List.set_cons_succ]
    refine takeH16 (i := 6) (x := .bool false) rfl rfl (by kernel_rfl) (by kernel_rfl) (by kernel_rfl) (fun _ _ _ h => h) (Or.inl ⟨by kernel_rfl, fun w hw => by (go_simp <;> with_reducible rfl)⟩) hCC ?_
    simp only [List.setIfInBounds_toArray, List.set_cons_zero, List.set_cons_succ]
    refine takeH16 (i := 7) (x := .int .i64 (q : Int)) rfl rfl (by kernel_rfl) (by kernel_rfl) (by kernel_rfl) (fun _ _ _ h => h) (Or.inl ⟨by kernel_rfl, fun w hw => by (go_simp <;> with_reducible rfl)⟩) hCC ?_
    simp only [List.setIfInBounds_toArray, List.set_cons_zero, List.set_cons_succ]
    refine takeH16 (i := 8) (x := .int .i64 (nl : Int)) rfl rfl (by kernel_rfl) (by kernel_rfl) (by kernel_rfl) (fun _ _ _ h => h) (Or.inl ⟨by kernel_rfl, fun w hw => by (go_simp <;> with_reducible rfl)⟩) hCC ?_
    simp only [List.setIfInBounds_toArray, List.set_cons_zero, List.set_cons_succ]
    refine takeH16 (i := 9) (x := .bool false) rfl rfl (by kernel_rfl) (by kernel_rfl) (by kernel_rfl) (fun _ _ _ h => h) (Or.inl ⟨by kernel_rfl, fun w hw => by (go_simp <;> with_reducible rfl)⟩) hCC ?_
    simp only [List.setIfInBounds_toArray, List.set_cons_zero, List.set_cons_succ]
    refine takeH16 (i := 10) (x := .bool false) rfl rfl (by kernel_rfl) (by kernel_rfl) (by kernel_rfl) (fun _ _ _ h => h) (Or.inl ⟨by kernel_rfl, fun w hw => by (go_simp <;> with_reducible rfl)⟩) hCC ?_
    simp only [List.setIfInBounds_toArray, List.set_cons_zero, List.set_cons_succ]
    refine takeH16 (i := 11) (x := .bool false) rfl rfl (by kernel_rfl) (by kernel_rfl) (by kernel_rfl) (fun _ _ _ h => h) (Or.inl ⟨by kernel_rfl, fun w hw => by (go_simp <;> with_reducible rfl)⟩) hCC ?_
    simp only [List.setIfInBounds_toArray, List.set_cons_zero, List.set_cons_succ]
    refine takeH16 (i := 12) (x := .pointer (some ⟨gs, 0, none⟩)) rfl rfl (by kernel_rfl) (by kernel_rfl) (by kernel_rfl) (fun _ _ _ h => h) (Or.inl ⟨by kernel_rfl, fun w hw => by (go_simp <;> with_reducible rfl)⟩) hCC ?_
    simp only [List.setIfInBounds_toArray, List.set_cons_zero, List.set_cons_succ]
    refine takeH16 (i := 13) (x := .slice (some ⟨bb, off, none⟩) nl cx) rfl rfl (by kernel_rfl) (by kernel_rfl) (by kernel_rfl) (fun _ _ _ h => h) (Or.inl ⟨by kernel_rfl, fun w hw => by have hc := HG0.out w hw; (go_simp <;> with_reducible rfl)⟩) hCC ?_
    simp only [List.setIfInBounds_toArray, List.set_cons_zero, List.set_cons_succ]
    refine takeH16 (i := 14) (x := .int .i64 (q : Int)) rfl rfl (by kernel_rfl) (by kernel_rfl) (by kernel_rfl) (fun _ _ _ h => h) (Or.inl ⟨by kernel_rfl, fun w hw => by (go_simp <;> with_reducible rfl)⟩) hCC ?_
    simp only [List.setIfInBounds_toArray, List.set_cons_zero, List.set_cons_succ]
    refine takeH16 (i := 15) (x := .pointer (some ⟨bb, off + q, none⟩)) rfl rfl (by kernel_rfl) (by kernel_rfl) (by kernel_rfl) (fun _ _ _ h => h) (Or.inl ⟨by kernel_rfl, fun w hw => by (go_simp <;> with_reducible rfl)⟩) hCC ?_
    simp only [List.setIfInBounds_toArray, List.set_cons_zero, List.set_cons_succ]
    refine takeH16 (i := 16) (x := .slice p2 16 q2) rfl rfl (by kernel_rfl) (by kernel_rfl) (by kernel_rfl) (fun _ _ _ h => h) (Or.inl ⟨by kernel_rfl, fun w hw => by have hc := HG1.out w hw; (go_simp <;> with_reducible rfl)⟩) hCC ?_
    simp only [List.setIfInBounds_toArray, List.set_cons_zero, List.set_cons_succ]
    refine takeH16 (i := 17) (x := .string SS) rfl rfl (by kernel_rfl) (by kernel_rfl) (by kernel_rfl) (fun _ _ _ h => h) (Or.inl ⟨by kernel_rfl, fun w hw => St.exec_conv rfl (HK1.out w hw)⟩) hCC ?_
    simp only [List.setIfInBounds_toArray, List.set_cons_zero, List.set_cons_succ]
    refine takeH16 (i := 18) (x := .slice o1 16 c1) rfl rfl (by kernel_rfl) (by kernel_rfl) (by kernel_rfl) (fun _ _ _ h => h) (Or.inl ⟨by kernel_rfl, fun w hw => by (go_simp <;> with_reducible rfl)⟩) hCC ?_
    simp only [List.setIfInBounds_toArray, List.set_cons_zero, List.set_cons_succ]
    refine takeH16 (i := 19) (x := .string SS) rfl rfl (by kernel_rfl) (by kernel_rfl) (by kernel_rfl) (fun _ _ _ h => h) (Or.inl ⟨by kernel_rfl, fun w hw => St.exec_conv rfl (HK2.out w hw)⟩) hCC ?_
    simp only [List.setIfInBounds_toArray, List.set_cons_zero, List.set_cons_succ]
    refine takeH16 (i := 20) (x := .bool false) rfl rfl (by kernel_rfl) (by kernel_rfl) (by kernel_rfl) (fun _ _ _ h => h) (Or.inl ⟨by kernel_rfl, fun w hw => by (go_simp <;> with_reducible rfl)⟩) hCC ?_
    simp only [List.setIfInBounds_toArray, List.set_cons_zero, List.set_cons_succ]
    refine takeH16 (i := 21) (x := .bool false) rfl rfl (by kernel_rfl) (by kernel_rfl) (by kernel_rfl) (fun _ _ _ h => h) (Or.inl ⟨by kernel_rfl, fun w hw => by (go_simp <;> with_reducible rfl)⟩) hCC ?_
    simp only [List.setIfInBounds_toArray, List.set_cons_zero, List.set_cons_succ]
    refine wpAnyH_done (by kernel_rfl) ?_ _
    have HVF := Lh (Ks HVT1.out (HCm.out _ hCC))
    clear hCC d1 d2 d3 d4 hqb hqb2 hsq
    have hs8 := HS8.out
    go_wp2_with fail
    exact ⟨⟨j + 1, by omega, by go_num, HVF.out⟩, by simp [intOf]; omega⟩
  have dk : decide ((i : Int) < (nl : Int)) = true := decide_eq_true (by omega)
  have dk2 : decide (i < nl) = true := decide_eq_true hlt
  have h16 := H16.out i hlt
  obtain ⟨bb, off, p1, q1, rfl, hlb, hcb, hrw⟩ := (HRX7.out.later HBL.out).cell i (by rw [HALN.out]; exact hlt)
  have htd := HC.out.tagged wr ok ck MK N (i : Int) p1 q1 (bi AL i) (HKR.out.later (Ks HB1.out HBR.out)) hrw HKL.out.1 (by rw [h16]; omega) HNK.out (by unfold in64; have := HN90.out; omega) (HV.out.later (Ks HB1.out HBR.out)) (HE.out.later (Ks HB1.out HBR.out))
  rw [HAB.out, if_pos rfl, HTG.out i hlt, h16, HLK.out, errV_nil] at htd
  have HTD := Lh htd
  rw [h16] at hcb
  have hc0 := HC0.out wr HBR.out
  have hc1 := HC1.out wr HBR.out
  have HCB := Lh hcb
  have HRW := Lh hrw
  have H16I := Lh h16
  have hib : 0 <= (i : Int) /\ (i : Int) < (nl : Int) := by omega
  clear htd hrw h16 hlb
  go_upto_region 14 with fail
  apply wp_region_lit
  iterate 6 (refine wpList_plain rfl (fun K hK => ?_); go_simp; refine hK _ _ ?_; clear hK K)
  (refine wpList_plain rfl (fun K hK => ?_); go_simp)
  refine HTD.out.mono ?_
  rintro e V1 ⟨rfl, hb1⟩
  refine hK _ _ ?_
  clear hK K HTD hc0 hc1 hcb
  have HV1 := Lh (Ks HBL.out hb1)
  have HT1 := Lh (Ks HBT.out hb1)
  have HR1 := Lh (Ks HBR.out hb1)
  have HRW1 := Lh (HRW.out.later hb1)
  clear hb1
  iterate 5 (refine wpList_plain rfl (fun K hK => ?_); go_simp; refine hK _ _ ?_; clear hK K)
  have hcs := HCS0.out V1 HV1.out
  have hmk := pmake_any AL (some ⟨bb, off, none⟩) nl cx i HALN.out V1 (HRX7.out.later HV1.out) (HV.out.later (Ks HB1.out HR1.out)) hlt (by have := HN90.out; omega) (fun q hq => by rw [H16.out q (by rw [<- HALN.out]; exact hq)]; omega)
  have hlen := Da.pa_length (AL.map Da.lf) i
  rw [List.length_map, HALN.out] at hlen
  have hco := Da.chk_own AL nl i HALN.out hlt (by have := HN90.out; omega)
  have hu9 := Da.ups_nine (n := nl) (by have := HN90.out; omega) i
  obtain ⟨u, hu⟩ : ∃ u, (Da.ups nl i).length = u := ⟨_, rfl⟩
  obtain ⟨ps, hps⟩ : ∃ ps, Da.pa (AL.map Da.lf) i = ps := ⟨_, rfl⟩
  rw [hu, hps] at hmk
  rw [hu, hps] at hlen
  rw [hps] at hco
  rw [hu] at hu9
  have HMK := Lh hmk
  have HLE := Lh hlen
  have HCO := Lh hco
  have HU9 := Lh hu9
  clear hmk hlen hco hu9 hu hps
  go_upto_region 17 with fail
  apply wp_region_lit
  iterate 3 (refine wpList_plain rfl (fun K hK => ?_); go_simp; refine hK _ _ ?_; clear hK K)
  (refine wpList_plain rfl (fun K hK => ?_); go_simp)
  refine HMK.out.mono ?_
  rintro e V2 ⟨o2, c2, rfl, hdg, hb2⟩
  refine hK _ _ ?_
  clear hK K HMK hcs
  have HD2 := Lh hdg
  have HV2 := Lh (Ks HV1.out hb2)
  have HT2 := Lh (Ks HT1.out hb2)
  have HR2 := Lh (Ks HR1.out hb2)
  have HRW2 := Lh (HRW1.out.later hb2)
  clear hdg hb2
  iterate 5 (refine wpList_plain rfl (fun K hK => ?_); go_simp; refine hK _ _ ?_; clear hK K)
  have hn9 := HN90.out
  have ht7 : Int.tmod (i : Int) 7 = ((i % 7 : Nat) : Int) := (Int.ofNat_tmod i 7).symm
  by_cases h7 : i % 7 = 0
  rotate_left
  ·have hq7 : ((Int.tmod (i : Int) 7) == 0) = false := by
    rw [ht7]
    exact beq_false_of_ne (by omega)
   clear ht7
   go_wp2_with fail
   exact ⟨⟨i + 1, by omega, by go_num, HT2.out⟩, by simp [intOf]; omega⟩
  have hq7 : ((Int.tmod (i : Int) 7) == 0) = true := by
   rw [ht7, h7]
   rfl
  clear ht7
  have hck := pcheck_all (Da.mth AL) (Da.mth_length AL) (bi AL i) p1 q1 ps o2 c2 (nl : Int) (i : Int) (by rw [H16I.out]; omega) (by rw [HLE.out]; have := HU9.out; omega) A V2 HRW2.out HD2.out (HV.out.later (Ks HB1.out HR2.out)) (HE3.out.later (Ks HB1.out HR2.out))
  obtain ⟨RA, hRA⟩ : ∃ RA, (bytesV R).toArray = RA := ⟨_, rfl⟩
  rw [HCO.out, <- HRT.out, hRA, H16I.out, HLE.out, show errP A 0 = .nilIface from rfl] at hck
  have HRNG : Hid (V2.rangeAt gs 1 (bytesV R)) := Lh (sld_root16h _ _ _ (HA7.out.later HV2.out HA7.out.lt))
  have HDI : Hid ((Tryz.prog.info? 32).map (·.size) = some (bytesV R).length) := Lh (by rw [dg_info]; simp [HRL.out])
  have HCK := Lh hck
  have HRA := Lh hRA
  clear hck hRA
  go_upto_region 18 with fail
  apply wp_region_lit
  iterate 3 (refine wpList_plain rfl (fun K hK => ?_); go_simp; refine hK _ _ ?_; clear hK K)
  iterate 5 (refine BigFrame.wpList_want (by rfl) (fun K hK => ?_); go_simp; refine hK _ _ ?_; clear hK K)
  refine BigFrame.wpList_want (by rfl) (fun K hK => wp_load_mid 32 (.tmp 98) rfl gs 1 rfl (bytesV R) _ HRNG.out dg_under rfl HDI.out (hK _ _ ?_))
  rw [HRA.out]
  iterate 4 (refine BigFrame.wpList_want (by rfl) (fun K hK => ?_); go_simp; refine hK _ _ ?_; clear hK K)
  (refine BigFrame.wpList_want (by rfl) (fun K hK => ?_); go_simp)
  refine HCK.out.mono ?_
  rintro e V3 ⟨rfl, hb3⟩
  refine hK _ _ ?_
  clear hK K HCK
  have HT3 := Lh (Ks HT2.out hb3)
  clear hb3
  iterate 2 (refine BigFrame.wpList_want (by rfl) (fun K hK => ?_); go_simp; refine hK _ _ ?_; clear hK K)
  (refine wpList_plain rfl (fun K hK => ?_); go_simp; refine hK _ _ ?_; clear hK K)
  go_wp2_with fail
  exact ⟨⟨i + 1, by omega, by go_num, HT3.out⟩, by simp [intOf]; omega⟩
theorem sh16_any (A : Nat -> Addr) (hC : SlC A) (MK F : List UInt8) (ok oF : Option Addr) (ck cF : Nat) (N : Int) (p : Pm15) (w : World) (hK : RowIs w ok (bytesV MK) ck) (hF : RowIs w oF (bytesV F) cF) (hN : in64 N) (hok : p.ok) (hV : Cds w) (hE : E16 w A) (hE3 : E13 w A) :
    Calls Tryz.prog 6 #[.agg (mdA (.slice ok MK.length ck) N (.slice oF F.length cF) p)] w fun e w' => e = .returned (.bool true) /\ Below w.heap.size w w' := sh16_of _ rfl sld_zero A hC MK F ok oF ck cF N p w hK hF hN hok hV hE hE3
end Go.Proofs.YtffheegeaghfjaaGreatDoor
