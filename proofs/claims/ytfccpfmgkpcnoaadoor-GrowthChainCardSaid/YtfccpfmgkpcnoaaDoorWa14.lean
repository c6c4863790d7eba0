/- GrowthAdds, walked. -/
import Derived.Test.YtfccpfmgkpcnoaaDoorSx14
namespace Go.Proofs.YtfccpfmgkpcnoaaDoor
open Go.RowKit
set_option linter.unusedVariables false
set_option linter.unusedSimpArgs false
def AdI (FR : Rf.Blk → World → Value → Nat → List (List UInt8) → Prop) (ds : List (List UInt8)) (v : Value) (w : World) (iv : Value) (wr : World) : Prop := ∃ (i : Nat) (O : Rf.Blk), iv = .int .i64 (i : Int) ∧ i ≤ ds.length ∧ FR O wr v i (Da.pks (ds.take i)) ∧ (∀ k, O k → w.heap.size ≤ k) ∧ Below w.heap.size w wr
theorem RbIs.take14 {W : World} {o : Option Addr} {bs : List (List UInt8)} {c : Nat} (h : RbIs W o bs c) (k : Nat) (hk : k ≤ bs.length) : RbIs W o (bs.take k) c := by
  obtain ⟨xs, h1, h2⟩ := h
  have hl := h2.len
  have hle := h1.le
  refine ⟨xs.take k, ⟨by simp; omega, h1.cap, h1.nil, fun h0 => ?_⟩, ?_⟩
  · obtain ⟨b, off, e, hlt, hc⟩ := h1.cells (by simp at h0; omega)
    refine ⟨b, off, e, hlt, fun i v hv => hc i v ?_⟩
    have hi := (List.getElem?_eq_some_iff.1 hv).1
    simp at hi
    rw [← hv, List.getElem?_take_of_lt (by omega)]
  · have := h2.part 0 k
    rw [List.drop_zero, List.drop_zero] at this
    exact this
theorem Da.take_snoc (ds : List (List UInt8)) (i : Nat) (h : i < ds.length) : ds.take (i + 1) = ds.take i ++ [bi ds i] := by
  rw [List.take_add_one]
  congr 1
  rw [List.getElem?_eq_getElem h]
  unfold bi
  rw [List.getD_eq_getElem?_getD, List.getElem?_eq_getElem h]
  rfl
theorem Da.bi_lf (bs : List (List UInt8)) (i : Nat) (h : i < bs.length) : bi (bs.map Da.lf) i = Da.lf (bi bs i) := by
  unfold bi
  rw [List.getD_eq_getElem?_getD, List.getD_eq_getElem?_getD, List.getElem?_map, List.getElem?_eq_getElem h]
  rfl
set_option maxRecDepth 100000 in
set_option maxHeartbeats 4000000 in
theorem wa14_any (A : Nat → Addr) (hC : GrC A) (FR : Rf.Blk → World → Value → Nat → List (List UInt8) → Prop) (hF : FrC A FR) (bs : List (List UInt8)) (o : Option Addr) (n c : Nat) (hn : bs.length = n) (w : World) (hR : RbIs w o bs c) (hV : Cds w) (hD : Rds w) :
    Calls Tryd.prog 3 #[.slice o n c] w fun e w' => e = .returned (.bool true) ∧ Below w.heap.size w w' := by
  have hcl := hR.le.1
  have hca := hR.le.2
  rw [hn] at hcl
  unfold maxLen at hca
  have HAL := Lib.hid (hC.alive w hV hD)
  have HR := Lib.hid hR
  have HV := Lib.hid hV
  have HD := Lib.hid hD
  have HN := Lib.hid hn
  have HF := Lib.hid hF
  have hnn := neq_nil13
  clear hR hV hD hn hC hF
  go_enter Tryd.func3, Tryd.ntmps3
  go_wp2_with fail
  refine HAL.out.mono ?_
  rintro e W1 ⟨rfl, hb1⟩
  have LG := long_any bs o n c HN.out 40 (by omega) W1 (HR.out.later hb1)
  have HB1 := Lib.hid hb1
  clear HAL hb1
  by_cases hlg : Da.lng bs 40 = true
  · rw [hlg] at LG
    have HLG := Lib.hid LG
    clear LG hlg
    go_wp2_with fail
    refine HLG.out.mono ?_
    rintro e W2 ⟨rfl, rfl⟩
    go_wp2_with fail
    go_ret
    exact ⟨rfl, HB1.out⟩
  have hlg2 : Da.lng bs 40 = false := by simpa using hlg
  obtain ⟨hl40, hl200⟩ := Da.lng_not hlg2
  rw [hlg2] at LG
  rw [HN.out] at hl40
  have HLG := Lib.hid LG
  have HL2 := Lib.hid hl200
  obtain ⟨ds, hds⟩ : ∃ ds, bs.map Da.lf = ds := ⟨_, rfl⟩
  have hdn : ds.length = n := by rw [← hds, List.length_map]; exact HN.out
  have hda : Da.all32 ds := fun x hx => by
    rw [← hds] at hx
    obtain ⟨y, _, rfl⟩ := List.mem_map.1 hx
    exact Da.lf_length y
  have HDS := Lib.hid (show bs.map Da.lf = ds ∧ ds.length = n ∧ Da.all32 ds from ⟨hds, hdn, hda⟩)
  have NW := HF.out.new W1
  have HNW := Lib.hid NW
  clear LG hlg hlg2 hl200 hds hdn hda NW
  go_wp2_with fail
  refine HLG.out.mono ?_
  rintro e W2 ⟨rfl, rfl⟩
  rename World => W1
  clear HLG
  go_wp2_with fail
  refine HNW.out.mono ?_
  rintro e W2 ⟨v, O, rfl, hfr, hb2, hO⟩
  have HI : Hid (AdI FR ds v W1 (.int .i64 0) W2) := Lib.hid ⟨0, O, rfl, Nat.zero_le _, by rw [List.take_zero, Da.pks_nil]; exact hfr, hO, hb2⟩
  clear hfr hb2 hO HNW
  go_wp2_with fail
  go_loopw [16] (fun iv wr => AdI FR ds v W1 iv wr) (fun iv _ => n - (intOf iv).toNat)
  case atStart => exact HI.out
  case round =>
    obtain ⟨i, O, rfl, hi, hfr, hO, hB⟩ := hrel
    rw [HDS.out.2.1] at hi
    by_cases hlt : i < n
    · obtain ⟨bl, offl, pl, ql, rfl, hlbl, hlcell, hlrow⟩ := (HR.out.later HB1.out).cell i (by rw [HN.out]; exact hlt)
      rw [← hB.cell (p := ⟨bl, offl + i, none⟩) hlbl] at hlcell
      have hll := Da.len_of HL2.out 200 (by omega) i (by rw [HN.out]; exact hlt)
      obtain ⟨lf, hlf⟩ : ∃ lf, bi bs i = lf := ⟨_, rfl⟩
      obtain ⟨l1, hl1⟩ : ∃ l1, lf.length = l1 := ⟨_, rfl⟩
      rw [hlf] at hll hlrow hlcell
      rw [hl1] at hll hlcell
      have hstep : Da.psh i (Da.pks (ds.take i)) (Da.lf lf) = Da.pks (ds.take (i + 1)) := by
        have h1 := Da.psh_pks (ds.take i) (Da.lf lf)
        rw [List.length_take, HDS.out.2.1, Nat.min_eq_left hi] at h1
        rw [h1, Da.take_snoc ds i (by rw [HDS.out.2.1]; exact hlt), ← HDS.out.1, Da.bi_lf bs i (by rw [HN.out]; exact hlt), hlf]
      have PK := HF.out.peaks hfr
      have hpl : (Da.pks (ds.take i)).length = Da.ones i := (HF.out.all hfr).2.1
      obtain ⟨ps, hps⟩ : ∃ ps, Da.pks (ds.take i) = ps := ⟨_, rfl⟩
      rw [hps] at PK hfr hstep hpl
      obtain ⟨pn, hpn⟩ : ∃ pn, ps.length = pn := ⟨_, rfl⟩
      rw [hpn] at PK hpl
      have HPK := Lib.hid PK
      have HFR := Lib.hid hfr
      have HO := Lib.hid hO
      have HB := Lib.hid hB
      have HST := Lib.hid hstep
      have HLR := Lib.hid (show RowIs W1 pl (bytesV lf) ql ∧ lf.length = l1 from ⟨hlrow, hl1⟩)
      have HPL := Lib.hid (And.intro hpn hpl)
      clear PK hfr hO hB hstep hlrow hlf hl1 hps hpn hpl hlbl HI
      go_wp2_with fail
      refine HPK.out.mono ?_
      rintro e V1 ⟨o1, c1, rfl, hdg1, hb1⟩
      have HV1 := Lib.hid hb1
      have HFR1 := Lib.hid (HF.out.later HFR.out hb1)
      have OF := HF.out.of V1 i ps o1 c1 hdg1 (by rw [HPL.out.1, HPL.out.2]) (by omega)
      rw [HPL.out.1] at OF
      have HOF := Lib.hid OF
      clear hdg1 hb1 OF HPK hlcell
      go_wp2_with fail
      refine HOF.out.mono ?_
      rintro e V2 ⟨vg, Og, rfl, hfg, hb2, hOg⟩
      obtain ⟨ag, rfl⟩ := HF.out.ptr hfg
      have HV2 := Lib.hid (Kit.step HV1.out hb2)
      have HFR2 := Lib.hid (HF.out.later HFR1.out hb2)
      have HFG2 := Lib.hid hfg
      have hlt1 := HF.out.lt HFR1.out
      have HDJ : Hid (∀ k, O k → k < V1.heap.size) := Lib.hid hlt1
      have HOG := Lib.hid hOg
      have hbw2 : Below W1.heap.size W1 V2 := Kit.step HB.out HV2.out
      have AD := HF.out.add HFR2.out (by omega) lf pl ql (HLR.out.1.later hbw2) (by rw [HLR.out.2]; omega) ((HV.out.later HB1.out).later hbw2)
      rw [HLR.out.2, HST.out] at AD
      have HAD := Lib.hid AD
      have HBW2 := Lib.hid hbw2
      clear hfg hb2 hOg hlt1 AD HOF hbw2
      go_wp2_with fail
      refine HAD.out.mono ?_
      rintro e V3 ⟨O', rfl, hfr3, hm3, hO3⟩
      have HFR3 := Lib.hid hfr3
      have HOP := Lib.hid hO3
      have HSZ3 := Lib.hid hm3.size
      have HFG3 := Lib.hid (HF.out.keep HFG2.out hm3.size (fun k hk => hm3.same k (HF.out.lt HFG2.out k hk) (fun ho => by have := HDJ.out k ho; have := HOG.out k hk; omega)))
      have HBW3 : Hid (Below W1.heap.size W1 V3) := Lib.hid (HBW2.out.trans (hm3.below (fun k hk ho => by have := HO.out k ho; omega) HBW2.out.size))
      have HRW3 : Hid (RowIs V3 pl (bytesV lf) ql) := Lib.hid (HLR.out.1.later HBW3.out)
      clear hfr3 hm3 hO3 HAD
      have AG := HF.out.add HFG3.out (by omega) lf pl ql HRW3.out (by rw [HLR.out.2]; omega) ((HV.out.later HB1.out).later HBW3.out)
      rw [HLR.out.2, HST.out] at AG
      have HAG := Lib.hid AG
      clear AG
      go_wp2_with fail
      refine HAG.out.mono ?_
      rintro e V4 ⟨Og', rfl, hfg4, hm4, hOg4⟩
      have HFG4 := Lib.hid hfg4
      have HFR4 := Lib.hid (HF.out.keep HFR3.out hm4.size (fun k hk => hm4.same k (HF.out.lt HFR3.out k hk) (fun ho => by
        have h1 := HF.out.lt HFG2.out k ho
        have h2 := HOG.out k ho
        rcases HOP.out k hk with h3 | h3
        · have := HDJ.out k h3; omega
        · omega)))
      have HBW4 : Hid (Below W1.heap.size W1 V4) := Lib.hid (HBW3.out.trans (hm4.below (fun k hk ho => by have := HOG.out k ho; have := HV1.out.size; have := HB.out.size; omega) HBW3.out.size))
      have HO4 : Hid (∀ k, O' k → W1.heap.size ≤ k) := Lib.hid fun k hk => by
        rcases HOP.out k hk with h3 | h3
        · exact HO.out k h3
        · have := HBW2.out.size; omega
      clear hfg4 hm4 hOg4 HAG
      obtain ⟨j, hj⟩ : ∃ j, i + 1 = j := ⟨_, rfl⟩
      have hic : j ≤ c := by omega
      have hjn : j ≤ n := by omega
      have hw1 : IntKind.i64.wrap ((i : Int) + 1) = (j : Int) := by rw [IntKind.wrap_i64]; omega
      rw [hj] at HFR4 HFG4
      have hdl : (ds.take j).length = j := by rw [List.length_take, HDS.out.2.1]; omega
      have hda : Da.all32 (ds.take j) := HDS.out.2.2.take j
      have LV := rleaves_any (bs.take j) (some ⟨bl, offl, none⟩) j c (by rw [List.length_take, HN.out]; omega) V4 (RbIs.take14 ((HR.out.later HB1.out).later HBW4.out) j (by rw [HN.out]; omega)) ((HD.out.later HB1.out).later HBW4.out) (by omega) (fun k hk => by
        have hk2 : k < bs.length := by rw [List.length_take] at hk; omega
        have hb : bi (bs.take j) k = bi bs k := by
          unfold bi
          rw [List.getD_eq_getElem?_getD, List.getD_eq_getElem?_getD, List.getElem?_take_of_lt (by rw [List.length_take] at hk; omega)]
        rw [hb]
        exact Da.len_of HL2.out 90000 (by omega) k hk2)
      rw [List.map_take, HDS.out.1] at LV
      have hpa := (HF.out.all HFR4.out).1
      have hrt := Da.rtp_pks (ds.take j)
      obtain ⟨l, hl⟩ : ∃ l, ds.take j = l := ⟨_, rfl⟩
      rw [hl] at LV hdl hda hpa hrt HFR4 HFG4
      obtain ⟨pk, hpk⟩ : ∃ pk, Da.pks l = pk := ⟨_, rfl⟩
      rw [hpk] at hpa hrt HFR4 HFG4
      obtain ⟨RT, hRT⟩ : ∃ RT, Da.ov l = RT := ⟨_, rfl⟩
      have hrl : RT.length = 32 := by rw [← hRT]; exact Da.ov_length hda
      rw [hRT] at hrt
      obtain ⟨RA, hRA⟩ : ∃ RA, (bytesV RT).toArray = RA := ⟨_, rfl⟩
      have hne1 : ∀ W, (binOp .neq 40 (.agg RA) (.agg RA)).run Tryd.prog W = .ok (.bool false) W := fun W => by
        have := d32_neq RT RT hrl hrl W
        rw [hRA, beq_self_eq_true] at this
        exact this
      have hne2 : ∀ W, (binOp .neq 41 (.agg RA) (.agg RA)).run Tryd.prog W = .ok (.bool false) W := fun W => by
        have := dgq_neq RT RT hrl hrl W
        rw [hRA, beq_self_eq_true] at this
        exact this
      have hgd := d32_guard
      have hgd2 := dgq_guard
      have HLV := Lib.hid LV
      have HLE := Lib.hid (show l.length = j ∧ ds.take j = l ∧ Da.pks l = pk ∧ Da.ov l = RT ∧ Da.rtp pk = RT ∧ (bytesV RT).toArray = RA ∧ i + 1 = j from ⟨hdl, hl, hpk, hRT, hrt, hRA, hj⟩)
      have HSZ4 := Lib.hid (HF.out.size HFR4.out)
      have hjj : ((j : Int) != (j : Int)) = false := by simp
      clear LV hdl hda hpa hrt hl hpk hRT hrl hRA hj
      go_wp2_with fail
      refine HLV.out.mono ?_
      rintro e V5 ⟨o5, c5, rfl, hdg5, hb5⟩
      have HDG5 := Lib.hid hdg5
      have HBW5 := Lib.hid (Kit.step HBW4.out hb5)
      have HFR5 := Lib.hid (HF.out.later HFR4.out hb5)
      have HFG5 := Lib.hid (HF.out.later HFG4.out hb5)
      have HSZ5 := Lib.hid (HF.out.size (HF.out.later HFR4.out hb5))
      clear hdg5 hb5 HLV HSZ4
      go_wp2_with fail
      refine HSZ5.out.mono ?_
      rintro e V6 ⟨rfl, hb6⟩
      have HDG6 := Lib.hid (HDG5.out.later hb6)
      have HBW6 := Lib.hid (Kit.step HBW5.out hb6)
      have HFR6 := Lib.hid (HF.out.later HFR5.out hb6)
      have HFG6 := Lib.hid (HF.out.later HFG5.out hb6)
      have HPK6 := Lib.hid (HF.out.peaks (HF.out.later HFR5.out hb6))
      clear hb6 HSZ5
      go_wp2_with fail
      refine HPK6.out.mono ?_
      rintro e V7 ⟨o7, c7, rfl, hdg7, hb7⟩
      have HDP7 := Lib.hid hdg7
      have HDG7 := Lib.hid (HDG6.out.later hb7)
      have HBW7 := Lib.hid (Kit.step HBW6.out hb7)
      have HFR7 := Lib.hid (HF.out.later HFR6.out hb7)
      have HFG7 := Lib.hid (HF.out.later HFG6.out hb7)
      have RP := rpeaks_any14 l o5 j c5 HLE.out.1 (by omega) V7 (HDG6.out.later hb7) ((HD.out.later HB1.out).later (Kit.step HBW6.out hb7))
      rw [HLE.out.2.2.1] at RP
      obtain ⟨pl', hpl'⟩ : ∃ z, pk.length = z := ⟨_, rfl⟩
      rw [hpl'] at RP ⊢
      have HRP := Lib.hid RP
      have HPLE := Lib.hid hpl'
      clear hdg7 hb7 RP hpl' HPK6
      go_wp2_with fail
      refine HRP.out.mono ?_
      rintro e V8 ⟨o8, c8, rfl, hdg8, hb8⟩
      have HDG8 := Lib.hid (HDG7.out.later hb8)
      have HBW8 := Lib.hid (Kit.step HBW7.out hb8)
      have HFR8 := Lib.hid (HF.out.later HFR7.out hb8)
      have HFG8 := Lib.hid (HF.out.later HFG7.out hb8)
      have HSM := Lib.hid (same_any14 pk o7 o8 pl' c7 c8 HPLE.out V8 (HDP7.out.later hb8) hdg8)
      clear hdg8 hb8 HRP
      go_wp2_with fail
      refine HSM.out.mono ?_
      rintro e V9 ⟨rfl, hb9⟩
      have HDG9 := Lib.hid (HDG8.out.later hb9)
      have HBW9 := Lib.hid (Kit.step HBW8.out hb9)
      have HFR9 := Lib.hid (HF.out.later HFR8.out hb9)
      have HFG9 := Lib.hid (HF.out.later HFG8.out hb9)
      have R1 := HF.out.root (HF.out.later HFR8.out hb9) ((HV.out.later HB1.out).later (Kit.step HBW8.out hb9))
      rw [HLE.out.2.2.2.2.1, HLE.out.2.2.2.2.2.1] at R1
      have HR1 := Lib.hid R1
      clear hb9 R1 HSM
      go_wp2_with fail
      refine HR1.out.mono ?_
      rintro e V10 ⟨rfl, hb10⟩
      have HBW10 := Lib.hid (Kit.step HBW9.out hb10)
      have HFR10 := Lib.hid (HF.out.later HFR9.out hb10)
      have HFG10 := Lib.hid (HF.out.later HFG9.out hb10)
      have OVR := rover_any l o5 j c5 HLE.out.1 V10 (HDG9.out.later hb10) ((HD.out.later HB1.out).later (Kit.step HBW9.out hb10)) (by omega)
      rw [HLE.out.2.2.2.1, HLE.out.2.2.2.2.2.1] at OVR
      have HOV := Lib.hid OVR
      clear hb10 OVR HR1
      go_wp2_with fail
      refine HOV.out.mono ?_
      rintro e V11 ⟨rfl, hb11⟩
      have HBW11 := Lib.hid (Kit.step HBW10.out hb11)
      have HFR11 := Lib.hid (HF.out.later HFR10.out hb11)
      have HFG11 := Lib.hid (HF.out.later HFG10.out hb11)
      have R2 := HF.out.root (HF.out.later HFG10.out hb11) ((HV.out.later HB1.out).later (Kit.step HBW10.out hb11))
      rw [HLE.out.2.2.2.2.1, HLE.out.2.2.2.2.2.1] at R2
      have HR2 := Lib.hid R2
      clear hb11 R2 HOV
      go_wp2_with fail
      refine HR2.out.mono ?_
      rintro e V12 ⟨rfl, hb12⟩
      have HBW12 := Lib.hid (Kit.step HBW11.out hb12)
      have HFR12 := Lib.hid (HF.out.later HFR11.out hb12)
      have HFG12 := Lib.hid (HF.out.later HFG11.out hb12)
      have R3 := HF.out.root (HF.out.later HFR11.out hb12) ((HV.out.later HB1.out).later (Kit.step HBW11.out hb12))
      rw [HLE.out.2.2.2.2.1, HLE.out.2.2.2.2.2.1] at R3
      have HR3 := Lib.hid R3
      clear hb12 R3 HR2
      go_wp2_with fail
      refine HR3.out.mono ?_
      rintro e V13 ⟨rfl, hb13⟩
      have HBW13 := Lib.hid (Kit.step HBW12.out hb13)
      have HFR13 := Lib.hid (HF.out.later HFR12.out hb13)
      have HSZ13 := Lib.hid (HF.out.size (HF.out.later HFG12.out hb13))
      clear hb13 HR3
      go_wp2_with fail
      refine HSZ13.out.mono ?_
      rintro e V14 ⟨rfl, hb14⟩
      have HBW14 := Lib.hid (Kit.step HBW13.out hb14)
      have HFR14 := Lib.hid (HF.out.later HFR13.out hb14)
      clear hb14 HSZ13
      go_wp2_with fail
      go_roundw
      case rel => exact ⟨j, O', by first | rfl | (congr 1), by rw [HDS.out.2.1]; exact hjn, by rw [HLE.out.2.1, HLE.out.2.2.1]; exact HFR14.out, HO4.out, HBW14.out⟩
      case measure => simp [intOf]; have := HLE.out.2.2.2.2.2.2; omega
    · obtain rfl : i = n := by omega
      have HB := Lib.hid (Kit.step HB1.out hB)
      clear hfr hO hB HI
      have NW := Lib.hid (HF.out.new wr)
      have hse : (Da.sha []).length = 32 := Da.sha_length []
      obtain ⟨EA, hEA⟩ : ∃ EA, (bytesV (Da.sha [])).toArray = EA := ⟨_, rfl⟩
      have heq1 : ∀ W, (binOp .eql 40 (.agg EA) (.agg EA)).run Tryd.prog W = .ok (.bool true) W := fun W => by
        have := d32_eql (Da.sha []) (Da.sha []) hse hse W
        rw [hEA, beq_self_eq_true] at this
        exact this
      have hgd := d32_guard
      have HEA := Lib.hid hEA
      clear hse hEA
      go_wp2_with fail
      refine NW.out.mono ?_
      rintro e V1 ⟨v1, O1, rfl, hf1, hb1, _⟩
      have HB1' := Lib.hid (Kit.step HB.out hb1)
      have R1 := HF.out.root hf1 (HV.out.later (Kit.step HB.out hb1))
      rw [show Da.rtp [] = Da.sha [] from rfl, HEA.out] at R1
      have HR1 := Lib.hid R1
      clear hf1 hb1 R1 NW
      go_wp2_with fail
      refine HR1.out.mono ?_
      rintro e V2 ⟨rfl, hb2⟩
      have HB2' := Lib.hid (Kit.step HB1'.out hb2)
      have OV := rover_any [] none 0 0 rfl V2 (DgIs.empty _ _ (Nat.zero_le _) (fun _ => rfl)) (HD.out.later (Kit.step HB1'.out hb2)) (by omega)
      rw [Da.ov_nil, HEA.out] at OV
      have HOV := Lib.hid OV
      clear hb2 OV HR1
      go_wp2_with fail
      refine HOV.out.mono ?_
      rintro e V3 ⟨rfl, hb3⟩
      have HB3' := Lib.hid (Kit.step HB2'.out hb3)
      clear hb3 HOV
      go_wp2_with fail
      go_ret
      exact ⟨rfl, HB3'.out⟩
end Go.Proofs.YtfccpfmgkpcnoaaDoor
