/- PathAll, walked. -/
import Derived.Test.YtjcmihiajpgnjaaDoorPu13
namespace Go.Proofs.YtjcmihiajpgnjaaDoor.Da
theorem chk_zero2 {root leaf : List UInt8} {n i : Int} {ps : List (List UInt8)} (h : chk13 root n i leaf ps = 0) : chkF n i ps.length = 0 ∧ fold13 n i leaf ps = root := by
  unfold chk13 at h
  split at h
  · rename_i h0
    split at h
    · rename_i h1; exact ⟨h0, h1⟩
    · cases h
  · rename_i h0; exact absurd h h0
end Go.Proofs.YtjcmihiajpgnjaaDoor.Da
namespace Go.Proofs.YtjcmihiajpgnjaaDoor
open Go.RowKit
attribute [local go_sem] Oper.semAt_some
set_option linter.unusedVariables false
set_option linter.unusedSimpArgs false
def PaAt (n : Nat) (w : World) (iv : Value) (wr : World) : Prop := ∃ k : Nat, k ≤ n ∧ iv = .int .i64 (k : Int) ∧ Below w.heap.size w wr
theorem u64_mod (x : Int) (n : Nat) (h0 : 0 < n) (hn : n ≤ 1000) : ∃ j : Nat, j < n ∧ wrap64 (Int.tmod (IntKind.u64.wrap x) (n : Int)) = (j : Int) := by
  have hx : 0 ≤ IntKind.u64.wrap x := by rw [IntKind.wrap_u64]; omega
  obtain ⟨y, hy⟩ : ∃ y : Nat, IntKind.u64.wrap x = (y : Int) := ⟨(IntKind.u64.wrap x).toNat, by omega⟩
  rw [hy, ← Int.ofNat_tmod]
  have hlt := Nat.mod_lt y h0
  exact ⟨y % n, hlt, by unfold wrap64; omega⟩
theorem eqgn13 (A : Nat → Addr) (k j : Nat) (v : World) : (eqGuard .neq 27 (.tmp j) (.const .nilIface) (errP A k) .nilIface).run Tryd.prog v = .ok () v := by
  unfold errP
  by_cases h0 : k = 0
  · rw [if_pos h0]; rfl
  · rw [if_neg h0]; rfl
set_option maxRecDepth 100000 in
set_option maxHeartbeats 4000000 in
theorem pa13_of (Z : Array Value) (hZ : Z = (bytesV (List.replicate 32 0)).toArray) (hzs : ∀ w, Sem.run Tryd.prog (zeroValue 38) w = .ok (.agg Z) w)
    (bs : List (List UInt8)) (o : Option Addr) (n c : Nat) (hn : bs.length = n) (x : Int) (A : Nat → Addr) (w : World) (hR : RbIs w o bs c) (hV : Cds w) (hE : E13 w A) :
    Calls Tryd.prog 7 #[.slice o n c, .int .i64 x] w fun e w' => e = .returned (.bool true) ∧ Below w.heap.size w w' := by
  have hcl0 := hR.le.1
  have hca := hR.le.2
  rw [hn] at hcl0
  unfold maxLen at hca
  have HALV := Lib.hid (alive13_any w hV)
  have HN := Lib.hid hn
  have HR := Lib.hid hR
  have HV := Lib.hid hV
  have HE := Lib.hid hE
  have HZ := Lib.hid hZ
  clear hn hR hV hE hZ
  go_enter Tryd.func7, Tryd.ntmps7
  go_wp2_with fail
  refine HALV.out.mono ?_
  rintro e W1 ⟨rfl, hb1⟩
  have LG := long_any bs o n c HN.out 30 (by omega) W1 (HR.out.later hb1)
  have HB1 := Lib.hid hb1
  clear HALV hb1
  by_cases hlg : Da.lng bs 30 = true
  · rw [hlg] at LG
    have HLG := Lib.hid LG
    clear LG hlg
    go_wp2_with fail
    refine HLG.out.mono ?_
    rintro e W2 ⟨rfl, rfl⟩
    go_wp2_with fail
    go_ret
    exact ⟨rfl, HB1.out⟩
  have hlg2 : Da.lng bs 30 = false := by simpa using hlg
  obtain ⟨hl40, hl200⟩ := Da.lng_not hlg2
  rw [hlg2] at LG
  rw [HN.out] at hl40
  have HLG := Lib.hid LG
  have HL2 := Lib.hid hl200
  clear LG hlg hlg2 hl200
  obtain ⟨RA, hRA⟩ : ∃ RA, (bytesV (Da.mth bs)).toArray = RA := ⟨_, rfl⟩
  have HRS : Hid ((Tryd.prog.info? 38).map (·.size) = some RA.size) := Lib.hid (by rw [dg_info, ← hRA]; simp [Da.mth_length])
  have HRO : Hid (RA.all (·.oneCell') = true) := Lib.hid (by rw [← hRA]; exact all_oneCell_toArray (bytesV_one _))
  have HRZ : Hid (Z.size = RA.size) := Lib.hid (by rw [HZ.out, ← hRA]; simp [Da.mth_length])
  have hne : ∀ W, (binOp .neq 38 (.agg RA) (.agg RA)).run Tryd.prog W = .ok (.bool false) W := fun W => by
    have := dgq_neq (Da.mth bs) (Da.mth bs) (Da.mth_length bs) (Da.mth_length bs) W
    rw [hRA, beq_self_eq_true] at this
    exact this
  have hgd := dgq_guard
  have hnn := neq_nil13
  have TR := troot_any bs o n c HN.out W1 (HR.out.later HB1.out) (HV.out.later HB1.out) (by have := HN.out; omega) (Da.len_of HL2.out 800000 (by omega))
  rw [hRA] at TR
  have HTR := Lib.hid TR
  have HRA := Lib.hid hRA
  clear TR hRA
  go_wp2_with fail
  refine HLG.out.mono ?_
  rintro e W2 ⟨rfl, rfl⟩
  rename World => W1
  clear HLG
  go_upto_region 6 with fail
  apply wp_region_lit
  (refine wpList_plain rfl (fun K hK => ?_); go_simp; refine hK _ _ ?_; clear hK K)
  (refine wpList_plain rfl (fun K hK => ?_); go_simp)
  refine HTR.out.mono ?_
  rintro e W2 ⟨rfl, hb2⟩
  refine hK _ _ ?_
  clear hK K HTR
  obtain ⟨W3, hW3⟩ : ∃ W3, W2.alloc (.cells Z 38) = W3 := ⟨_, rfl⟩
  obtain ⟨p, hp⟩ : ∃ p, W2.heap.size = p := ⟨_, rfl⟩
  obtain ⟨W4, hW4⟩ : ∃ W4, W3.setRow p RA = W4 := ⟨_, rfl⟩
  have hA3 : W3.heap[p]? = some (.cells Z 38 (0, 0)) := by rw [← hW3, ← hp]; exact World.alloc_heap_new W2 _
  have hA4 : W4.heap[p]? = some (.cells RA 38 (0, 0)) := by rw [← hW4]; exact setRow_heap _ _ _ _ _ _ hA3
  have hb4 : Below W2.heap.size W2 W4 := by rw [← hW4, ← hW3]; exact (new12 _ _).trans (below_row (Nat.le_of_eq hp))
  have HB4 := Lib.hid (Kit.step HB1.out (Kit.step hb2 hb4))
  have HA3 := Lib.hid hA3
  have HA4 := Lib.hid hA4
  have HW3 := Lib.hid hW3
  have HW4 := Lib.hid hW4
  have HP := Lib.hid hp
  clear hW3 hp hW4 hA3 hA4 hb4 hb2
  (refine wpList_plain rfl (fun K hK => ?_); go_simp; refine hK _ _ ?_; clear hK K)
  rw [HW3.out, HP.out]
  refine wpList_store_row rfl 38 (.tmp 6) (.tmp 23) rfl p RA rfl rfl 38 Z HA3.out HRS.out HRZ.out HRO.out ?_
  rw [HW4.out]
  clear HW3 HW4 HA3
  go_wp2_with fail
  -- STOP1
  go_loopw [26] (fun iv wr => PaAt n W4 iv wr) (fun iv _ => n - (intOf iv).toNat)
  case atStart => exact ⟨0, Nat.zero_le _, rfl, Below.refl _ _⟩
  case round =>
    obtain ⟨i, hi, rfl, hB⟩ := hrel
    have HBR := Lib.hid (Kit.step HB4.out hB)
    have HBL := Lib.hid hB
    clear hB
    by_cases hlt : i < n
    rotate_left
    · obtain rfl : i = n := by omega
      go_wp2_with fail
      go_ret
      exact ⟨rfl, HBR.out⟩
    obtain ⟨bl, offl, pl, ql, rfl, hlbl, hlcell, hlrow⟩ := (HR.out.later HBR.out).cell i (by rw [HN.out]; exact hlt)
    have MK := pmake_any bs (some ⟨bl, offl, none⟩) n c i HN.out wr (HR.out.later HBR.out) (HV.out.later HBR.out) hlt (by omega) (Da.len_of HL2.out 800000 (by omega))
    have hlen := Da.pa_length (bs.map Da.lf) i
    rw [List.length_map, HN.out] at hlen
    have hco := Da.chk_own bs n i HN.out hlt (by omega)
    have hud := Da.ups_le n i
    have hu9 := Da.ups_nine (n := n) (by omega) i
    have hll := Da.len_of HL2.out 200 (by omega) i (by rw [HN.out]; exact hlt)
    obtain ⟨u, hu⟩ : ∃ u, (Da.ups n i).length = u := ⟨_, rfl⟩
    obtain ⟨dp, hdp⟩ : ∃ dp, Da.dpt n = dp := ⟨_, rfl⟩
    obtain ⟨ps, hps⟩ : ∃ ps, Da.pa (bs.map Da.lf) i = ps := ⟨_, rfl⟩
    obtain ⟨lf, hlf⟩ : ∃ lf, bi bs i = lf := ⟨_, rfl⟩
    obtain ⟨l1, hl1⟩ : ∃ l1, lf.length = l1 := ⟨_, rfl⟩
    rw [hlf] at hco hll hlcell hlrow
    rw [hl1] at hll hlcell
    rw [hps] at MK hlen hco
    rw [hu] at MK hlen hud hu9
    rw [hdp] at hud
    have PL := fun W => plen_any n i hlt (by omega) W
    rw [hu] at PL
    have DP := fun W => tdepth_any (n : Int) W (by omega) (by omega)
    rw [Int.toNat_natCast, hdp] at DP
    have CK := fun (W : World) (o1 : Option Addr) (c1 : Nat) (hW : Below wr.heap.size wr W) (hd : DgIs W o1 ps c1) => pcheck_all (Da.mth bs) (Da.mth_length bs) lf pl ql ps o1 c1 (n : Int) (i : Int) (by omega) (by omega) A W (hlrow.later hW) hd ((HV.out.later HBR.out).later hW) ((HE.out.later HBR.out).later hW)
    have FO := fun (W : World) (o1 : Option Addr) (c1 : Nat) (hW : Below wr.heap.size wr W) (hd : DgIs W o1 ps c1) => pfold_all lf pl ql ps o1 c1 (n : Int) (i : Int) (by omega) (by omega) A W (hlrow.later hW) hd ((HV.out.later HBR.out).later hW) ((HE.out.later HBR.out).later hW)
    obtain ⟨hz1, hz2⟩ := Da.chk_zero2 hco
    simp only [hco, HRA.out, hl1, hlen] at CK
    rw [hlen] at hz1
    simp only [hz1, hz2, HRA.out, hl1, hlen] at FO
    rw [show errP A 0 = .nilIface from rfl] at CK FO
    -- the other place
    obtain ⟨j, hj, hjx⟩ := u64_mod x n (by omega) (by omega)
    obtain ⟨bl', offl', p2, q2, he, hjbl, hjcell, hjrow⟩ := (HR.out.later HBR.out).cell j (by rw [HN.out]; exact hj)
    cases he
    obtain ⟨lj, hlj⟩ : ∃ lj, bi bs j = lj := ⟨_, rfl⟩
    obtain ⟨l2, hl2⟩ : ∃ l2, lj.length = l2 := ⟨_, rfl⟩
    rw [hlj, hl2] at hjcell
    rw [hlj] at hjrow
    obtain ⟨k, hk⟩ : ∃ k, Da.chk13 (Da.mth bs) (n : Int) (j : Int) lf ps = k := ⟨_, rfl⟩
    obtain ⟨EK, hEK⟩ : ∃ EK, errP A k = EK := ⟨_, rfl⟩
    have CJ := fun (W : World) (o1 : Option Addr) (c1 : Nat) (hW : Below wr.heap.size wr W) (hd : DgIs W o1 ps c1) => pcheck_all (Da.mth bs) (Da.mth_length bs) lf pl ql ps o1 c1 (n : Int) (j : Int) (by omega) (by omega) A W (hlrow.later hW) hd ((HV.out.later HBR.out).later hW) ((HE.out.later HBR.out).later hW)
    simp only [hk, hEK, HRA.out, hl1, hlen] at CJ
    have CL := fun (W : World) (o1 : Option Addr) (c1 : Nat) (hW : Below wr.heap.size wr W) (hd : DgIs W o1 ps c1) => pclash_any bs (some ⟨bl, offl, none⟩) n c (j : Int) HN.out lf pl ql ps o1 u c1 A W ((HR.out.later HBR.out).later hW) (hlrow.later hW) hd ((HV.out.later HBR.out).later hW) ((HE.out.later HBR.out).later hW) (Da.len_of HL2.out 8900 (by omega)) (by omega) hlen (by omega) (by omega)
    simp only [hl1] at CL
    have hiff : lf ≠ lj → k = 0 → Da.isClash bs (j : Int) lf ps := fun h1 h2 => by
      refine ⟨by have := HN.out; omega, by rw [Int.toNat_natCast, hlj]; exact h1, by rw [HN.out, hk]; exact h2⟩
    have heq : ∀ v, (binOp .neq 27 EK .nilIface).run Tryd.prog v = .ok (.bool (!decide (k = 0))) v := fun v => by
      rw [← hEK]
      unfold errP
      by_cases h0 : k = 0
      · rw [if_pos h0, decide_eq_true h0]; exact neq_nil13 v
      · rw [if_neg h0, decide_eq_false h0]; rfl
    have HEG : Hid (∀ v, (eqGuard .neq 27 (.tmp 98) (.const .nilIface) EK .nilIface).run Tryd.prog v = .ok () v) := Lib.hid fun v => by rw [← hEK]; exact eqgn13 A k 98 v
    obtain ⟨SA, hSA⟩ : ∃ SA, (⟨lf.toArray⟩ : ByteArray) = SA := ⟨_, rfl⟩
    obtain ⟨SB, hSB⟩ : ∃ SB, (⟨lj.toArray⟩ : ByteArray) = SB := ⟨_, rfl⟩
    have hq1 := str_beq13 lj lf
    rw [hSA, hSB] at hq1
    have HKL : Hid (∀ v, Below wr.heap.size wr v → (convert 40 9 (.slice pl l1 ql)).run Tryd.prog v = .ok (.string SA) v) := Lib.hid fun v hv => by
      have := run_string (hlrow.later hv) Tryd.underlying40 Tryd.underlying5 Tryd.underlying9 ql
      rw [hl1, hSA] at this
      exact this
    have HKB : Hid (∀ v, Below wr.heap.size wr v → (convert 40 9 (.slice p2 l2 q2)).run Tryd.prog v = .ok (.string SB) v) := Lib.hid fun v hv => by
      have := run_string (hjrow.later hv) Tryd.underlying40 Tryd.underlying5 Tryd.underlying9 q2
      rw [hl2, hSB] at this
      exact this
    have HJC : Hid (∀ v, Below wr.heap.size wr v → v.cell? ⟨bl, offl + j, none⟩ = some (.slice p2 l2 q2)) := Lib.hid fun v hv => by
      rw [hv.cell (p := ⟨bl, offl + j, none⟩) hjbl]; exact hjcell
    have HAR : Hid (∀ v, Below wr.heap.size wr v → v.heap[p]? = some (.cells RA 38 (0, 0))) := Lib.hid fun v hv => by
      rw [(Kit.step HBL.out hv).block p (Array.getElem?_eq_some_iff.1 HA4.out).1]; exact HA4.out
    have HIC := Lib.hid hiff
    have HMK := Lib.hid MK
    have HPL := Lib.hid PL
    have HDP := Lib.hid DP
    have HCK := Lib.hid CK
    have HFO := Lib.hid FO
    have HCJ := Lib.hid CJ
    have HCL := Lib.hid CL
    have HEQ := Lib.hid heq
    have HLC : Hid (∀ v, Below wr.heap.size wr v → v.cell? ⟨bl, offl + i, none⟩ = some (.slice pl l1 ql)) := Lib.hid fun v hv => by
      rw [hv.cell (p := ⟨bl, offl + i, none⟩) hlbl]; exact hlcell
    have HJX := Lib.hid hjx
    have hd1 : decide ((u : Int) > (dp : Int)) = false := decide_eq_false (by omega)
    have hd2 : decide ((dp : Int) < (u : Int)) = false := decide_eq_false (by omega)
    have hd3 : decide (dp < u) = false := decide_eq_false (by omega)
    have hdu : ((u : Int) != (u : Int)) = false := by simp
    have hlc := HLC.out wr (Below.refl _ _)
    clear hiff MK PL DP CK FO CJ CL heq hjx hjcell hjbl hjrow hlj hl2 hk hEK hSA hSB hlcell hlbl hlrow hlf hl1 hps hdp hu hud hlen hco hz1 hz2
    go_wp2_with fail
    refine HMK.out.mono ?_
    rintro e V1 ⟨o1, c1, rfl, hdg, hb1⟩
    clear hlc HMK
    have HD1 := Lib.hid hdg
    have HV1 := Lib.hid hb1
    clear hdg hb1
    go_upto_region 11 with fail
    apply wp_region_lit
    (refine wpList_plain rfl (fun K hK => ?_); go_simp; refine hK _ _ ?_; clear hK K)
    (refine wpList_plain rfl (fun K hK => ?_); go_simp; refine hK _ _ ?_; clear hK K)
    (refine wpList_plain rfl (fun K hK => ?_); go_simp; refine hK _ _ ?_; clear hK K)
    refine BigFrame.wpList_want (by rfl) (fun K hK => wp_load_row 38 (.tmp 6) rfl p rfl 38 RA (0, 0) _ (HAR.out _ HV1.out) dg_under rfl HRS.out (hK _ _ ?_))
    go_wp2_with fail
    refine (HCK.out V1 o1 c1 HV1.out HD1.out).mono ?_
    rintro e V2 ⟨rfl, hb2⟩
    have HD2 := Lib.hid (HD1.out.later hb2)
    have HV2 := Lib.hid (Kit.step HV1.out hb2)
    clear hb2 HCK
    go_wp2_with fail
    refine (HDP.out V2).mono ?_
    rintro e V2' ⟨rfl, rfl⟩
    rename World => V2
    go_wp2_with fail
    refine (HPL.out V2).mono ?_
    rintro e V3 ⟨rfl, hb3⟩
    have HD3 := Lib.hid (HD2.out.later hb3)
    have HV3 := Lib.hid (Kit.step HV2.out hb3)
    clear hb3 HPL HDP
    -- STOP2
    go_upto_region 13 with fail
    apply wp_region_lit
    (refine wpList_plain rfl (fun K hK => ?_); go_simp; refine hK _ _ ?_; clear hK K)
    (refine wpList_plain rfl (fun K hK => ?_); go_simp; refine hK _ _ ?_; clear hK K)
    (refine wpList_plain rfl (fun K hK => ?_); go_simp; refine hK _ _ ?_; clear hK K)
    (refine wpList_plain rfl (fun K hK => ?_); go_simp; refine hK _ _ ?_; clear hK K)
    (refine wpList_plain rfl (fun K hK => ?_); go_simp)
    refine (HFO.out V3 o1 c1 HV3.out HD3.out).mono ?_
    rintro e V4 ⟨rfl, hb4⟩
    refine hK _ _ ?_
    clear hK K HFO
    obtain ⟨V5, hV5⟩ : ∃ V5, V4.alloc (.cells Z 38) = V5 := ⟨_, rfl⟩
    obtain ⟨p5, hp5⟩ : ∃ p5, V4.heap.size = p5 := ⟨_, rfl⟩
    obtain ⟨V6, hV6⟩ : ∃ V6, V5.setRow p5 RA = V6 := ⟨_, rfl⟩
    have hA5 : V5.heap[p5]? = some (.cells Z 38 (0, 0)) := by rw [← hV5, ← hp5]; exact World.alloc_heap_new V4 _
    have hA6 : V6.heap[p5]? = some (.cells RA 38 (0, 0)) := by rw [← hV6]; exact setRow_heap _ _ _ _ _ _ hA5
    have hb6 : Below V4.heap.size V4 V6 := by rw [← hV6, ← hV5]; exact (new12 _ _).trans (below_row (Nat.le_of_eq hp5))
    have HV6 := Lib.hid (Kit.step HV3.out (Kit.step hb4 hb6))
    have HD6 := Lib.hid (HD3.out.later (Kit.step hb4 hb6))
    have HA5 := Lib.hid hA5
    have HA6 := Lib.hid hA6
    have HV5E := Lib.hid hV5
    have HV6E := Lib.hid hV6
    have HP5 := Lib.hid hp5
    clear hV5 hp5 hV6 hA5 hA6 hb6 hb4
    (refine wpList_plain rfl (fun K hK => ?_); go_simp; refine hK _ _ ?_; clear hK K)
    (refine wpList_plain rfl (fun K hK => ?_); go_simp; refine hK _ _ ?_; clear hK K)
    (refine wpList_plain rfl (fun K hK => ?_); go_simp; refine hK _ _ ?_; clear hK K)
    (refine wpList_plain rfl (fun K hK => ?_); go_simp; refine hK _ _ ?_; clear hK K)
    rw [HV5E.out, HP5.out]
    refine wpList_store_row rfl 38 (.tmp 11) (.tmp 69) rfl p5 RA rfl rfl 38 Z HA5.out HRS.out HRZ.out HRO.out ?_
    rw [HV6E.out]
    clear HV5E HV6E HA5
    go_upto_region 14 with fail
    apply wp_region_lit
    (refine wpList_plain rfl (fun K hK => ?_); go_simp; refine hK _ _ ?_; clear hK K)
    (refine wpList_plain rfl (fun K hK => ?_); go_simp; refine hK _ _ ?_; clear hK K)
    (refine wpList_plain rfl (fun K hK => ?_); go_simp; refine hK _ _ ?_; clear hK K)
    refine BigFrame.wpList_want (by rfl) (fun K hK => wp_load_row 38 (.tmp 11) rfl p5 rfl 38 RA (0, 0) _ HA6.out dg_under rfl HRS.out (hK _ _ ?_))
    refine BigFrame.wpList_want (by rfl) (fun K hK => wp_load_row 38 (.tmp 6) rfl p rfl 38 RA (0, 0) _ (HAR.out _ HV6.out) dg_under rfl HRS.out (hK _ _ ?_))
    -- STOP3
    go_upto_region 17 with fail
    rw [HJX.out]
    obtain ⟨C, hC⟩ : ∃ C : World → Prop, (fun v => Below V6.heap.size V6 v) = C := ⟨_, rfl⟩
    have HC1 : Hid (∀ v, Below V6.heap.size V6 v → C v) := Lib.hid fun v hv => by rw [← hC]; exact hv
    have HC2 : Hid (∀ v, C v → Below V6.heap.size V6 v) := Lib.hid fun v hv => by rw [← hC] at hv; exact hv
    have hC0 : C V6.drew := HC1.out _ (Kit.dn' V6 1)
    clear hC
    have HAC : Hid (∀ v, C v → v.heap[p]? = some (.cells RA 38 (0, 0))) := Lib.hid fun v hv => HAR.out v (Kit.step HV6.out (HC2.out v hv))
    by_cases hq : lf = lj
    · have hqb : (lj == lf) = true := by rw [hq]; exact beq_self_eq_true _
      rw [hqb] at hq1
      have HQ := Lib.hid hq
      clear hqb hq
      refine Rgt.region C (fun _ => false) (by kernel_rfl) ?_
      refine Rgt.take (i := 0) (x := .slice (some ⟨bl, offl, none⟩) n c) rfl rfl (by kernel_rfl) (by kernel_rfl) (by kernel_rfl) (by kernel_rfl) (fun _ _ _ h => h) (Or.inl ⟨by kernel_rfl, fun w hw => by (go_simp <;> with_reducible rfl)⟩) hC0 ?_
      go_simp
      refine Rgt.take (i := 1) (x := .int .i64 (j : Int)) rfl rfl (by kernel_rfl) (by kernel_rfl) (by kernel_rfl) (by kernel_rfl) (fun _ _ _ h => h) (Or.inl ⟨by kernel_rfl, fun w hw => by (go_simp <;> with_reducible rfl)⟩) hC0 ?_
      go_simp
      refine Rgt.take (i := 2) (x := .pointer (some ⟨bl, offl + j, none⟩)) rfl rfl (by kernel_rfl) (by kernel_rfl) (by kernel_rfl) (by kernel_rfl) (fun _ _ _ h => h) (Or.inl ⟨by kernel_rfl, fun w hw => by (go_simp <;> with_reducible rfl)⟩) hC0 ?_
      go_simp
      refine Rgt.take (i := 3) (x := .slice p2 l2 q2) rfl rfl (by kernel_rfl) (by kernel_rfl) (by kernel_rfl) (by kernel_rfl) (fun _ _ _ h => h) (Or.inl ⟨by kernel_rfl, fun w hw => by have hc := HJC.out w (Kit.step HV6.out (HC2.out w hw)); (go_simp <;> with_reducible rfl)⟩) hC0 ?_
      go_simp
      refine Rgt.take (i := 4) (x := .string SB) rfl rfl (by kernel_rfl) (by kernel_rfl) (by kernel_rfl) (by kernel_rfl) (fun _ _ _ h => h) (Or.inl ⟨by kernel_rfl, fun w hw => St.exec_conv rfl (HKB.out w (Kit.step HV6.out (HC2.out w hw)))⟩) hC0 ?_
      go_simp
      refine Rgt.take (i := 5) (x := .slice pl l1 ql) rfl rfl (by kernel_rfl) (by kernel_rfl) (by kernel_rfl) (by kernel_rfl) (fun _ _ _ h => h) (Or.inl ⟨by kernel_rfl, fun w hw => by (go_simp <;> with_reducible rfl)⟩) hC0 ?_
      go_simp
      refine Rgt.take (i := 6) (x := .string SA) rfl rfl (by kernel_rfl) (by kernel_rfl) (by kernel_rfl) (by kernel_rfl) (fun _ _ _ h => h) (Or.inl ⟨by kernel_rfl, fun w hw => St.exec_conv rfl (HKL.out w (Kit.step HV6.out (HC2.out w hw)))⟩) hC0 ?_
      go_simp
      refine Rgt.take (i := 7) (x := .bool true) rfl rfl (by kernel_rfl) (by kernel_rfl) (by kernel_rfl) (by kernel_rfl) (fun _ _ _ h => h) (Or.inl ⟨by kernel_rfl, fun w hw => by (go_simp <;> with_reducible rfl)⟩) hC0 ?_
      go_simp
      refine Rgt.take (i := 8) (x := .bool true) rfl rfl (by kernel_rfl) (by kernel_rfl) (by kernel_rfl) (by kernel_rfl) (fun _ _ _ h => h) (Or.inl ⟨by kernel_rfl, fun w hw => by (go_simp <;> with_reducible rfl)⟩) hC0 ?_
      go_simp
      refine Rgt.take (i := 9) (x := undef) rfl rfl (by kernel_rfl) (by kernel_rfl) (by kernel_rfl) (by kernel_rfl) (fun _ _ _ h => h) (Or.inr ⟨by kernel_rfl, rfl⟩) hC0 ?_
      go_simp
      refine Rgt.take (i := 10) (x := undef) rfl rfl (by kernel_rfl) (by kernel_rfl) (by kernel_rfl) (by kernel_rfl) (fun _ _ _ h => h) (Or.inr ⟨by kernel_rfl, rfl⟩) hC0 ?_
      go_simp
      refine Rgt.take (i := 11) (x := undef) rfl rfl (by kernel_rfl) (by kernel_rfl) (by kernel_rfl) (by kernel_rfl) (fun _ _ _ h => h) (Or.inr ⟨by kernel_rfl, rfl⟩) hC0 ?_
      go_simp
      refine Rgt.take (i := 12) (x := undef) rfl rfl (by kernel_rfl) (by kernel_rfl) (by kernel_rfl) (by kernel_rfl) (fun _ _ _ h => h) (Or.inr ⟨by kernel_rfl, rfl⟩) hC0 ?_
      go_simp
      refine Rgt.take (i := 13) (x := undef) rfl rfl (by kernel_rfl) (by kernel_rfl) (by kernel_rfl) (by kernel_rfl) (fun _ _ _ h => h) (Or.inr ⟨by kernel_rfl, rfl⟩) hC0 ?_
      go_simp
      refine Rgt.take (i := 14) (x := undef) rfl rfl (by kernel_rfl) (by kernel_rfl) (by kernel_rfl) (by kernel_rfl) (fun _ _ _ h => h) (Or.inr ⟨by kernel_rfl, rfl⟩) hC0 ?_
      go_simp
      refine Rgt.take (i := 15) (x := undef) rfl rfl (by kernel_rfl) (by kernel_rfl) (by kernel_rfl) (by kernel_rfl) (fun _ _ _ h => h) (Or.inr ⟨by kernel_rfl, rfl⟩) hC0 ?_
      go_simp
      refine Rgt.take (i := 16) (x := .bool true) rfl rfl (by kernel_rfl) (by kernel_rfl) (by kernel_rfl) (by kernel_rfl) (fun _ _ _ h => h) (Or.inl ⟨by kernel_rfl, fun w hw => by (go_simp <;> with_reducible rfl)⟩) hC0 ?_
      go_simp
      refine Rgt.done (by kernel_rfl) ?_ _
      have HV7 := Lib.hid (Kit.step HV6.out (HC2.out _ hC0))
      have HB7 := Lib.hid (HC2.out _ hC0)
      clear hC0 HC1 HC2 C HAC
      -- STOP4
      go_wp2_with fail
      exact ⟨⟨i + 1, by omega, by go_num, Kit.step HBL.out HV7.out⟩, by simp [intOf]; omega⟩
    have hqb : (lj == lf) = false := by
      rw [beq_eq_false_iff_ne]
      exact fun h => hq h.symm
    rw [hqb] at hq1
    have HQ := Lib.hid hq
    clear hqb hq
    refine Rgt.region C (fun _ => false) (by kernel_rfl) ?_
    refine Rgt.take (i := 0) (x := .slice (some ⟨bl, offl, none⟩) n c) rfl rfl (by kernel_rfl) (by kernel_rfl) (by kernel_rfl) (by kernel_rfl) (fun _ _ _ h => h) (Or.inl ⟨by kernel_rfl, fun w hw => by (go_simp <;> with_reducible rfl)⟩) hC0 ?_
    go_simp
    refine Rgt.take (i := 1) (x := .int .i64 (j : Int)) rfl rfl (by kernel_rfl) (by kernel_rfl) (by kernel_rfl) (by kernel_rfl) (fun _ _ _ h => h) (Or.inl ⟨by kernel_rfl, fun w hw => by (go_simp <;> with_reducible rfl)⟩) hC0 ?_
    go_simp
    refine Rgt.take (i := 2) (x := .pointer (some ⟨bl, offl + j, none⟩)) rfl rfl (by kernel_rfl) (by kernel_rfl) (by kernel_rfl) (by kernel_rfl) (fun _ _ _ h => h) (Or.inl ⟨by kernel_rfl, fun w hw => by (go_simp <;> with_reducible rfl)⟩) hC0 ?_
    go_simp
    refine Rgt.take (i := 3) (x := .slice p2 l2 q2) rfl rfl (by kernel_rfl) (by kernel_rfl) (by kernel_rfl) (by kernel_rfl) (fun _ _ _ h => h) (Or.inl ⟨by kernel_rfl, fun w hw => by have hc := HJC.out w (Kit.step HV6.out (HC2.out w hw)); (go_simp <;> with_reducible rfl)⟩) hC0 ?_
    go_simp
    refine Rgt.take (i := 4) (x := .string SB) rfl rfl (by kernel_rfl) (by kernel_rfl) (by kernel_rfl) (by kernel_rfl) (fun _ _ _ h => h) (Or.inl ⟨by kernel_rfl, fun w hw => St.exec_conv rfl (HKB.out w (Kit.step HV6.out (HC2.out w hw)))⟩) hC0 ?_
    go_simp
    refine Rgt.take (i := 5) (x := .slice pl l1 ql) rfl rfl (by kernel_rfl) (by kernel_rfl) (by kernel_rfl) (by kernel_rfl) (fun _ _ _ h => h) (Or.inl ⟨by kernel_rfl, fun w hw => by (go_simp <;> with_reducible rfl)⟩) hC0 ?_
    go_simp
    refine Rgt.take (i := 6) (x := .string SA) rfl rfl (by kernel_rfl) (by kernel_rfl) (by kernel_rfl) (by kernel_rfl) (fun _ _ _ h => h) (Or.inl ⟨by kernel_rfl, fun w hw => St.exec_conv rfl (HKL.out w (Kit.step HV6.out (HC2.out w hw)))⟩) hC0 ?_
    go_simp
    refine Rgt.take (i := 7) (x := .bool false) rfl rfl (by kernel_rfl) (by kernel_rfl) (by kernel_rfl) (by kernel_rfl) (fun _ _ _ h => h) (Or.inl ⟨by kernel_rfl, fun w hw => by (go_simp <;> with_reducible rfl)⟩) hC0 ?_
    go_simp
    refine Rgt.take (i := 8) (x := .bool false) rfl rfl (by kernel_rfl) (by kernel_rfl) (by kernel_rfl) (by kernel_rfl) (fun _ _ _ h => h) (Or.inl ⟨by kernel_rfl, fun w hw => by (go_simp <;> with_reducible rfl)⟩) hC0 ?_
    go_simp
    refine Rgt.take (i := 9) (x := .agg RA) rfl rfl (by kernel_rfl) (by kernel_rfl) (by kernel_rfl) (by kernel_rfl) (fun _ _ _ h => h) (Or.inl ⟨by kernel_rfl, fun w hw => exec_row (t := 38) (fr := (0, 0)) rfl rfl (HAC.out w hw) dg_under rfl HRS.out⟩) hC0 ?_
    go_simp
    refine Rgt.take (i := 10) (x := .int .i64 (n : Int)) rfl rfl (by kernel_rfl) (by kernel_rfl) (by kernel_rfl) (by kernel_rfl) (fun _ _ _ h => h) (Or.inl ⟨by kernel_rfl, fun w hw => by (go_simp <;> with_reducible rfl)⟩) hC0 ?_
    go_simp
    refine Rgt.take (i := 11) (x := .int .i64 (j : Int)) rfl rfl (by kernel_rfl) (by kernel_rfl) (by kernel_rfl) (by kernel_rfl) (fun _ _ _ h => h) (Or.inl ⟨by kernel_rfl, fun w hw => by (go_simp <;> with_reducible rfl)⟩) hC0 ?_
    go_simp
    refine Rgt.take (i := 12) (x := .slice pl l1 ql) rfl rfl (by kernel_rfl) (by kernel_rfl) (by kernel_rfl) (by kernel_rfl) (fun _ _ _ h => h) (Or.inl ⟨by kernel_rfl, fun w hw => by (go_simp <;> with_reducible rfl)⟩) hC0 ?_
    go_simp
    refine Rgt.take (i := 13) (x := .slice o1 u c1) rfl rfl (by kernel_rfl) (by kernel_rfl) (by kernel_rfl) (by kernel_rfl) (fun _ _ _ h => h) (Or.inl ⟨by kernel_rfl, fun w hw => by (go_simp <;> with_reducible rfl)⟩) hC0 ?_
    go_simp
    refine Rgt.ready (i := 14) (by kernel_rfl) rfl (by kernel_rfl) (fun K hK => ?_)
    go_simp
    refine (HCJ.out _ o1 c1 (Kit.step HV6.out (HC2.out _ hC0)) (HD6.out.later (HC2.out _ hC0))).mono ?_
    rintro e Y1 ⟨rfl, hb⟩
    have hC1 := HC1.out _ (Kit.step (HC2.out _ hC0) hb)
    clear hb
    refine hK _ _ hC1 ?_
    clear hK K hC0
    rename C _ => hC0
    refine Rgt.take (i := 15) (x := .bool (!decide (k = 0))) rfl rfl (by kernel_rfl) (by kernel_rfl) (by kernel_rfl) (by kernel_rfl) (fun _ _ _ h => h) (Or.inl ⟨by kernel_rfl, fun w hw => by have hc := HEQ.out w; have hc2 := HEG.out w; (go_simp <;> with_reducible rfl)⟩) hC0 ?_
    go_simp
    refine Rgt.take (i := 16) (x := .bool (!decide (k = 0))) rfl rfl (by kernel_rfl) (by kernel_rfl) (by kernel_rfl) (by kernel_rfl) (fun _ _ _ h => h) (Or.inl ⟨by kernel_rfl, fun w hw => by (go_simp <;> with_reducible rfl)⟩) hC0 ?_
    go_simp
    refine Rgt.done (by kernel_rfl) ?_ _
    have HV7 := Lib.hid (Kit.step HV6.out (HC2.out _ hC0))
    have HB7 := Lib.hid (HC2.out _ hC0)
    clear hC0 HC1 HC2 C HAC
    rename World => V7
    by_cases hk : k = 0
    rotate_left
    · rw [decide_eq_false hk]
      have HK := Lib.hid hk
      clear hk
      go_wp2_with fail
      exact ⟨⟨i + 1, by omega, by go_num, Kit.step HBL.out HV7.out⟩, by simp [intOf]; omega⟩
    rw [decide_eq_true hk]
    have HCLA := Lib.hid (HIC.out HQ.out hk)
    have HD7 := Lib.hid (HD6.out.later HB7.out)
    clear hk
    go_wp2_with fail
    refine (HCL.out V7 o1 c1 HV7.out HD7.out).mono ?_
    rintro e V8 ⟨hb8, h8⟩
    rcases h8 with ⟨_, h8⟩ | ⟨_, x1, y1, r1, d1, r2, d2, rfl, _⟩
    · exact absurd HCLA.out h8
    have HV8 := Lib.hid (Kit.step HV7.out hb8)
    obtain ⟨z1, hz1⟩ : ∃ z, x1.length = z := ⟨_, rfl⟩
    obtain ⟨z2, hz2⟩ : ∃ z, y1.length = z := ⟨_, rfl⟩
    rw [hz1, hz2]
    clear hb8 hz1 hz2
    go_wp2_with fail
    exact ⟨⟨i + 1, by omega, by go_num, Kit.step HBL.out HV8.out⟩, by simp [intOf]; omega⟩
theorem pa13_any (bs : List (List UInt8)) (o : Option Addr) (n c : Nat) (hn : bs.length = n) (x : Int) (A : Nat → Addr) (w : World) (hR : RbIs w o bs c) (hV : Cds w) (hE : E13 w A) :
    Calls Tryd.prog 7 #[.slice o n c, .int .i64 x] w fun e w' => e = .returned (.bool true) ∧ Below w.heap.size w w' := pa13_of _ rfl dg_zero bs o n c hn x A w hR hV hE
end Go.Proofs.YtjcmihiajpgnjaaDoor
