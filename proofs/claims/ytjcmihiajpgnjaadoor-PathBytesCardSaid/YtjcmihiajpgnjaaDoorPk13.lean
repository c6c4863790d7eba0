/- Two rows of digests compared; PathMakes. -/
import Derived.Test.YtjcmihiajpgnjaaDoorPj13
namespace Go.Proofs.YtjcmihiajpgnjaaDoor
open Go.RowKit
set_option linter.unusedVariables false
set_option linter.unusedSimpArgs false
theorem Er.Errs.t13 {W : World} {A : Nat → Addr} (h : Er.Errs W A) : E13 W A := ⟨h.c0, h.c7, h.c14⟩
/-- a leaf's own path holds -/
theorem Da.chk_own (bs : List (List UInt8)) (n i : Nat) (hn : bs.length = n) (hi : i < n) (h5 : n ≤ 512) : Da.chk13 (Da.mth bs) (n : Int) (i : Int) (bi bs i) (Da.pa (bs.map Da.lf) i) = 0 := by
  have hl := Da.pa_length (bs.map Da.lf) i
  rw [List.length_map, hn] at hl
  have hk : Da.chkF (n : Int) (i : Int) (Da.pa (bs.map Da.lf) i).length = 0 := by
    unfold Da.chkF
    rw [if_pos ⟨by omega, by omega, by omega⟩, if_pos (by rw [hl]; simp)]
  unfold Da.chk13
  rw [if_pos hk]
  have hr := Da.pa_root (bs.map Da.lf) n i (by rw [List.length_map]; exact hn) hi
  rw [bi_lf bs i (by omega)] at hr
  unfold Da.fold13
  rw [if_pos hk, hl]
  rw [show ((n : Int)).toNat = n by omega, show ((i : Int)).toNat = i by omega]
  rw [hr]
  exact if_pos rfl
def SmAt (n : Nat) (w : World) (iv : Value) (wr : World) : Prop := ∃ k : Nat, k ≤ n ∧ iv = .int .i64 (k : Int) ∧ Below w.heap.size w wr
set_option maxRecDepth 100000 in
set_option maxHeartbeats 2000000 in
theorem same_any13 (ds : List (List UInt8)) (o o2 : Option Addr) (n c c2 : Nat) (hn : ds.length = n) (w : World) (h1 : DgIs w o ds c) (h2 : DgIs w o2 ds c2) :
    Calls Tryd.prog 16 #[.slice o n c, .slice o2 n c2] w fun e w' => e = .returned (.bool true) ∧ Below w.heap.size w w' := by
  have hcl := h1.le
  have hca := h1.cap
  have hcl2 := h2.le
  have hca2 := h2.cap
  rw [hn] at hcl hcl2
  unfold maxLen at hca hca2
  have H1 := Lib.hid h1
  have H2 := Lib.hid h2
  have HN := Lib.hid hn
  have hgd := d32_guard
  clear h1 h2 hn
  go_enter Tryd.func16, Tryd.ntmps16
  go_wp2_with fail
  go_loopw [13] (fun iv wr => SmAt n w iv wr) (fun iv _ => n - (intOf iv).toNat)
  case atStart => exact ⟨0, Nat.zero_le _, rfl, Below.refl _ _⟩
  case round =>
    obtain ⟨k, hk, rfl, hb⟩ := hrel
    by_cases hlt : k < n
    · have hr1 := H1.out.later hb
      have hr2 := H2.out.later hb
      obtain ⟨b1, off1, rfl, hb1, hrng1⟩ := hr1.at_ k (by have := HN.out; omega)
      obtain ⟨b2, off2, rfl, hb2, hrng2⟩ := hr2.at_ k (by have := HN.out; omega)
      have hel := hr1.all.at_ (i := k) (by have := HN.out; omega)
      obtain ⟨D, hD⟩ : ∃ D, (bytesV (bi ds k)).toArray = D := ⟨_, rfl⟩
      have hne : ∀ W, (binOp .neq 37 (.agg D) (.agg D)).run Tryd.prog W = .ok (.bool false) W := fun W => by
        have := d32_neq (bi ds k) (bi ds k) hel hel W
        rw [hD, beq_self_eq_true] at this
        exact this
      obtain ⟨C, hC⟩ : ∃ C : World → Prop, (fun v => Below wr.heap.size wr v) = C := ⟨_, rfl⟩
      have HC1 : Hid (∀ v, Below wr.heap.size wr v → C v) := Lib.hid fun v hv => by rw [← hC]; exact hv
      have HC2 : Hid (∀ v, C v → Below wr.heap.size wr v) := Lib.hid fun v hv => by rw [← hC] at hv; exact hv
      have HM1 : Hid (∀ v, C v → v.rangeAt b1 (off1 + k * 32) (bytesV (bi ds k))) := Lib.hid fun v hv => rangeAt_later hrng1 (HC2.out v hv) hb1
      have HM2 : Hid (∀ v, C v → v.rangeAt b2 (off2 + k * 32) (bytesV (bi ds k))) := Lib.hid fun v hv => rangeAt_later hrng2 (HC2.out v hv) hb2
      have HS1 : Hid ((Tryd.prog.info? 38).map (·.size) = some (bytesV (bi ds k)).length) := Lib.hid (by rw [dg_info]; simp [hel])
      have HS2 : Hid ((Tryd.prog.info? 37).map (·.size) = some (bytesV (bi ds k)).length) := Lib.hid (by rw [d32_info]; simp [hel])
      have hC0 : C wr.drew := HC1.out _ (Kit.dn' wr 1)
      have HD := Lib.hid hD
      have HB := Lib.hid hb
      clear hr1 hr2 hb1 hrng1 hb2 hrng2 hel hD hC hb
      go_upto_region 6 with fail
      refine Rgt.region C (fun _ => false) (by kernel_rfl) ?_
      refine Rgt.take (i := 0) (x := .slice (some ⟨b1, off1, none⟩) n c) rfl rfl (by kernel_rfl) (by kernel_rfl) (by kernel_rfl) (by kernel_rfl) (fun _ _ _ h => h) (Or.inl ⟨by kernel_rfl, fun w hw => by (go_simp <;> with_reducible rfl)⟩) hC0 ?_
      go_simp
      refine Rgt.take (i := 1) (x := .int .i64 (k : Int)) rfl rfl (by kernel_rfl) (by kernel_rfl) (by kernel_rfl) (by kernel_rfl) (fun _ _ _ h => h) (Or.inl ⟨by kernel_rfl, fun w hw => by (go_simp <;> with_reducible rfl)⟩) hC0 ?_
      go_simp
      refine Rgt.take (i := 2) (x := .pointer (some ⟨b1, off1 + k * 32, none⟩)) rfl rfl (by kernel_rfl) (by kernel_rfl) (by kernel_rfl) (by kernel_rfl) (fun _ _ _ h => h) (Or.inl ⟨by kernel_rfl, fun w hw => by (go_simp <;> with_reducible rfl)⟩) hC0 ?_
      go_simp
      refine Rgt.take (i := 3) (x := .agg D) rfl rfl (by kernel_rfl) (by kernel_rfl) (by kernel_rfl) (by kernel_rfl) (fun _ _ _ h => h) (Or.inl ⟨by kernel_rfl, fun w hw => by rw [← HD.out]; exact St.exec_load rfl rfl (bytesV (bi ds k)) _ (HM1.out w hw) dg_under rfl HS1.out⟩) hC0 ?_
      go_simp
      refine Rgt.take (i := 4) (x := .slice (some ⟨b2, off2, none⟩) n c2) rfl rfl (by kernel_rfl) (by kernel_rfl) (by kernel_rfl) (by kernel_rfl) (fun _ _ _ h => h) (Or.inl ⟨by kernel_rfl, fun w hw => by (go_simp <;> with_reducible rfl)⟩) hC0 ?_
      go_simp
      refine Rgt.take (i := 5) (x := .int .i64 (k : Int)) rfl rfl (by kernel_rfl) (by kernel_rfl) (by kernel_rfl) (by kernel_rfl) (fun _ _ _ h => h) (Or.inl ⟨by kernel_rfl, fun w hw => by (go_simp <;> with_reducible rfl)⟩) hC0 ?_
      go_simp
      refine Rgt.take (i := 6) (x := .pointer (some ⟨b2, off2 + k * 32, none⟩)) rfl rfl (by kernel_rfl) (by kernel_rfl) (by kernel_rfl) (by kernel_rfl) (fun _ _ _ h => h) (Or.inl ⟨by kernel_rfl, fun w hw => by (go_simp <;> with_reducible rfl)⟩) hC0 ?_
      go_simp
      refine Rgt.take (i := 7) (x := .agg D) rfl rfl (by kernel_rfl) (by kernel_rfl) (by kernel_rfl) (by kernel_rfl) (fun _ _ _ h => h) (Or.inl ⟨by kernel_rfl, fun w hw => by rw [← HD.out]; exact St.exec_load rfl rfl (bytesV (bi ds k)) _ (HM2.out w hw) d32_under rfl HS2.out⟩) hC0 ?_
      go_simp
      refine Rgt.take (i := 8) (x := .bool false) rfl rfl (by kernel_rfl) (by kernel_rfl) (by kernel_rfl) (by kernel_rfl) (fun _ _ _ h => h) (Or.inl ⟨by kernel_rfl, fun w hw => by have hc := hne w; (go_simp <;> with_reducible rfl)⟩) hC0 ?_
      go_simp
      refine Rgt.done (by kernel_rfl) ?_ _
      have HB2 := Lib.hid (Kit.step HB.out (HC2.out _ hC0))
      clear hC0
      go_wp2_with fail
      go_roundw
      case rel => exact ⟨k + 1, by omega, by go_num, HB2.out⟩
      case measure => simp [intOf]; omega
    · obtain rfl : k = n := by omega
      have HB := Lib.hid hb
      clear hb
      go_wp2_with fail
      go_ret
      exact ⟨rfl, HB.out⟩
set_option maxRecDepth 100000 in
set_option maxHeartbeats 4000000 in
theorem pm13_any (bs : List (List UInt8)) (o : Option Addr) (n c : Nat) (hn : bs.length = n) (i m : Int) (hi1 : -9223372036854775808 ≤ i) (hi2 : i ≤ 9223372036854775807) (hm1 : -9223372036854775808 ≤ m) (hm2 : m ≤ 9223372036854775807) (A : Nat → Addr) (w : World) (hR : RbIs w o bs c) (hV : Cds w) (hD : Rds w) (hE : Er.Errs w A) :
    Calls Tryd.prog 3 #[.slice o n c, .int .i64 i, .int .i64 m] w fun e w' => e = .returned (.bool true) ∧ Below w.heap.size w w' := by
  have AL := alive13_any w hV
  have hcl := hR.le.1
  have hca := hR.le.2
  rw [hn] at hcl
  unfold maxLen at hca
  have HAL := Lib.hid AL
  have HR := Lib.hid hR
  have HV := Lib.hid hV
  have HD := Lib.hid hD
  have HE := Lib.hid hE
  have HN := Lib.hid hn
  have hen := eql_nil13
  clear AL hR hV hD hE hn
  go_enter Tryd.func3, Tryd.ntmps3
  go_wp2_with fail
  refine HAL.out.mono ?_
  rintro e W1 ⟨rfl, hb1⟩
  have LG := long_any bs o n c HN.out 40 (by omega) W1 (HR.out.later hb1)
  have HB1 := Lib.hid hb1
  clear HAL hb1
  by_cases hlg : Da.lng bs 40 = true
  · rw [hlg] at LG
    have HLG := Lib.hid LG
    clear LG hlg
    go_wp2_with fail
    refine HLG.out.mono ?_
    rintro e W2 ⟨rfl, rfl⟩
    go_wp2_with fail
    go_ret
    exact ⟨rfl, HB1.out⟩
  have hlg2 : Da.lng bs 40 = false := by simpa using hlg
  obtain ⟨hl40, hl200⟩ := Da.lng_not hlg2
  rw [hlg2] at LG
  rw [HN.out] at hl40
  have HLG := Lib.hid LG
  have HL2 := Lib.hid hl200
  clear LG hlg hlg2 hl200
  go_wp2_with fail
  refine HLG.out.mono ?_
  rintro e W2 ⟨rfl, rfl⟩
  rename World => W1
  clear HLG
  have PL : ∀ W : World, ∃ x : Int, (Calls Tryd.prog 11 #[.int .i64 m, .int .i64 i] W fun e w' => e = .returned (.int .i64 x) ∧ Below W.heap.size W w') ∧ (∀ V, Calls Tryd.prog 12 #[.int .i64 m, .int .i64 i] V fun e w' => e = .returned (.int .i64 x) ∧ w' = V) := fun W => by
    by_cases h : 0 ≤ i ∧ i < m ∧ m ≤ 512
    · have h1 := plen_any m.toNat i.toNat (by omega) (by omega) W
      have h2 := fun V => rlen_any13 m.toNat i.toNat V (by omega) (by omega)
      rw [show ((m.toNat : Nat) : Int) = m by omega, show ((i.toNat : Nat) : Int) = i by omega] at h1 h2
      exact ⟨_, h1, h2⟩
    · exact ⟨-1, (plen_bad m i h W).mono (fun e w' h => ⟨h.1, by rw [h.2]; exact Below.refl _ _⟩), fun V => rlen_bad13 m i h V⟩
  have HPL := Lib.hid PL
  clear PL
  by_cases hin : 0 ≤ i ∧ i < (n : Int)
  · obtain ⟨i, rfl⟩ : ∃ k : Nat, i = (k : Int) := ⟨i.toNat, by omega⟩
    have hin' : i < n := by omega
    have MK := pmake_any bs o n c i HN.out W1 (HR.out.later HB1.out) (HV.out.later HB1.out) hin' (by omega) (Da.len_of HL2.out 800000 (by omega))
    have hlen := Da.pa_length (bs.map Da.lf) i
    rw [List.length_map, HN.out] at hlen
    obtain ⟨u, hu⟩ : ∃ u, (Da.ups n i).length = u := ⟨_, rfl⟩
    have hu9 : u ≤ 9 := by rw [← hu]; exact Da.ups_nine (by omega) i
    have hco := Da.chk_own bs n i HN.out hin' (by omega)
    obtain ⟨ps, hps⟩ : ∃ ps, Da.pa (bs.map Da.lf) i = ps := ⟨_, rfl⟩
    rw [hps] at MK hlen hco
    rw [hu] at MK hlen
    have HCO := Lib.hid hco
    have HMK := Lib.hid MK
    have HPS := Lib.hid hps
    have HU := Lib.hid hu
    have HLEN := Lib.hid hlen
    have HIN := Lib.hid hin
    have hd1 : decide ((i : Int) < 0) = false := decide_eq_false (by omega)
    have hd2 : decide ((i : Int) ≥ (n : Int)) = false := decide_eq_false (by omega)
    have hd3 : decide (n ≤ i) = false := decide_eq_false (by omega)
    clear MK hps hu hlen hco hin
    go_wp2_with fail
    refine HMK.out.mono ?_
    rintro e W2 ⟨o2, c2, rfl, hdg, hb2⟩
    obtain ⟨x, hx1, hx2⟩ := HPL.out W2
    have HX1 := Lib.hid hx1
    have HX2 := Lib.hid hx2
    have HDG := Lib.hid hdg
    have HB2 := Lib.hid (Kit.step HB1.out hb2)
    clear hx1 hx2 hdg hb2 HMK HPL
    go_wp2_with fail
    refine HX1.out.mono ?_
    rintro e W3 ⟨rfl, hb3⟩
    have HDG3 := Lib.hid (HDG.out.later hb3)
    have HB3 := Lib.hid (Kit.step HB2.out hb3)
    clear hb3 HX1
    go_wp2_with fail
    refine (HX2.out W3).mono ?_
    rintro e W4 ⟨rfl, rfl⟩
    rename World => W3
    clear HX2
    have LV := rleaves_any bs o n c HN.out W3 (HR.out.later HB3.out) (HD.out.later HB3.out) (by omega) (Da.len_of HL2.out 90000 (by omega))
    have HLV := Lib.hid LV
    clear LV
    go_wp2_with fail
    refine HLV.out.mono ?_
    rintro e W4 ⟨o4, c4, rfl, hdg4, hb4⟩
    have hB4 := Kit.step HB3.out hb4
    have RM := rmake_any13 n (bs.map Da.lf) o4 c4 i W4 (by rw [List.length_map]; exact HN.out) hin' hdg4 (HD.out.later hB4) (by omega)
    rw [HPS.out, HU.out] at RM
    have HRM := Lib.hid RM
    have HB4 := Lib.hid hB4
    have HDG4 := Lib.hid (HDG3.out.later hb4)
    clear RM hB4 hdg4 hb4 HLV
    go_wp2_with fail
    refine HRM.out.mono ?_
    rintro e W5 ⟨v5, rfl, hown5, hb5⟩
    obtain ⟨hnn5, o5, c5, rfl, hdg5⟩ := own_dg hown5 HDG4.out.all
    clear hnn5
    have HDGA := Lib.hid (HDG4.out.later hb5)
    have HDGB := Lib.hid hdg5
    have HB5 := Lib.hid (Kit.step HB4.out hb5)
    clear hown5 hdg5 hb5 HRM
    have SM : ∀ v, Below W5.heap.size W5 v → Calls Tryd.prog 16 #[.slice o2 u c2, .slice o5 u c5] v fun e w' => e = .returned (.bool true) ∧ Below W5.heap.size W5 w' := fun v hv => (same_any13 ps o2 o5 u c2 c5 HLEN.out v (HDGA.out.later hv) (HDGB.out.later hv)).mono fun e w' h => ⟨h.1, Kit.step hv h.2⟩
    have RT : ∀ v, Below W5.heap.size W5 v → Calls Tryd.prog 18 #[.slice o n c] v fun e w' => e = .returned (.agg (bytesV (Da.mth bs)).toArray) ∧ Below W5.heap.size W5 w' := fun v hv => (rroot_any bs o n c HN.out v ((HR.out.later HB5.out).later hv) ((HD.out.later HB5.out).later hv) (by omega) (Da.len_of HL2.out 90000 (by omega))).mono fun e w' h => ⟨h.1, Kit.step hv h.2⟩
    obtain ⟨bl, offl, pl, ql, rfl, hlbl, hlcell, hlrow⟩ := (HR.out.later HB5.out).cell i (by rw [HN.out]; omega)
    have CK : ∀ v, Below W5.heap.size W5 v → Calls Tryd.prog 17 #[.agg (bytesV (Da.mth bs)).toArray, .int .i64 (n : Int), .int .i64 (i : Int), .slice pl (bi bs i).length ql, .slice o2 u c2] v fun e w' => e = .returned .nilIface ∧ Below W5.heap.size W5 w' := fun v hv => by
      have := pcheck_all (Da.mth bs) (Da.mth_length bs) (bi bs i) pl ql ps o2 c2 (n : Int) (i : Int) (Da.len_of HL2.out 8900 (by omega) i (by rw [HN.out]; omega)) (by rw [HLEN.out]; omega) A v (hlrow.later hv) (HDGA.out.later hv) ((HV.out.later HB5.out).later hv) ((HE.out.later HB5.out).later hv).t13
      rw [HLEN.out, HCO.out] at this
      exact this.mono fun e w' h => ⟨h.1, Kit.step hv h.2⟩
    obtain ⟨RA, hRA⟩ : ∃ RA, (bytesV (Da.mth bs)).toArray = RA := ⟨_, rfl⟩
    rw [hRA] at RT CK
    obtain ⟨ll, hll⟩ : ∃ ll, (bi bs i).length = ll := ⟨_, rfl⟩
    rw [hll] at hlcell CK
    obtain ⟨C, hC⟩ : ∃ C : World → Prop, (fun v => Below W5.heap.size W5 v) = C := ⟨_, rfl⟩
    have HC1 : Hid (∀ v, Below W5.heap.size W5 v → C v) := Lib.hid fun v hv => by rw [← hC]; exact hv
    have HC2 : Hid (∀ v, C v → Below W5.heap.size W5 v) := Lib.hid fun v hv => by rw [← hC] at hv; exact hv
    have HLC : Hid (∀ v, C v → v.cell? ⟨bl, offl + i, none⟩ = some (.slice pl ll ql)) := Lib.hid fun v hv => by rw [(HC2.out v hv).cell (p := ⟨bl, offl + i, none⟩) hlbl]; exact hlcell
    have hC0 : C W5.drew := HC1.out _ (Kit.dn' W5 1)
    have HSM := Lib.hid SM
    have HRT := Lib.hid RT
    have HCK := Lib.hid CK
    clear SM RT CK hRA hll hC hlbl hlcell hlrow
    go_upto_region 11 with fail
    refine Rgt.region C (fun _ => false) (by kernel_rfl) ?_
    refine Rgt.take (i := 0) (x := .nilIface) rfl rfl (by kernel_rfl) (by kernel_rfl) (by kernel_rfl) (by kernel_rfl) (fun _ _ _ h => h) (Or.inl ⟨by kernel_rfl, fun w hw => by (go_simp <;> with_reducible rfl)⟩) hC0 ?_
    go_simp
    refine Rgt.take (i := 1) (x := .bool true) rfl rfl (by kernel_rfl) (by kernel_rfl) (by kernel_rfl) (by kernel_rfl) (fun _ _ _ h => h) (Or.inl ⟨by kernel_rfl, fun w hw => by have hc := hen w; (go_simp <;> with_reducible rfl)⟩) hC0 ?_
    go_simp
    refine Rgt.take (i := 2) (x := .bool true) rfl rfl (by kernel_rfl) (by kernel_rfl) (by kernel_rfl) (by kernel_rfl) (fun _ _ _ h => h) (Or.inl ⟨by kernel_rfl, fun w hw => by (go_simp <;> with_reducible rfl)⟩) hC0 ?_
    go_simp
    refine Rgt.take (i := 3) (x := .slice o2 u c2) rfl rfl (by kernel_rfl) (by kernel_rfl) (by kernel_rfl) (by kernel_rfl) (fun _ _ _ h => h) (Or.inl ⟨by kernel_rfl, fun w hw => by (go_simp <;> with_reducible rfl)⟩) hC0 ?_
    go_simp
    refine Rgt.take (i := 4) (x := .slice o5 u c5) rfl rfl (by kernel_rfl) (by kernel_rfl) (by kernel_rfl) (by kernel_rfl) (fun _ _ _ h => h) (Or.inl ⟨by kernel_rfl, fun w hw => by (go_simp <;> with_reducible rfl)⟩) hC0 ?_
    go_simp
    refine Rgt.ready (i := 5) (by kernel_rfl) rfl (by kernel_rfl) (fun K hK => ?_)
    go_simp
    refine (HSM.out _ (HC2.out _ hC0)).mono ?_
    rintro e Y1 ⟨rfl, hb⟩
    have hC1 := HC1.out _ hb
    clear hb
    refine hK _ _ hC1 ?_
    clear hK K HSM hC0
    rename C _ => hC0
    refine Rgt.take (i := 6) (x := .bool true) rfl rfl (by kernel_rfl) (by kernel_rfl) (by kernel_rfl) (by kernel_rfl) (fun _ _ _ h => h) (Or.inl ⟨by kernel_rfl, fun w hw => by (go_simp <;> with_reducible rfl)⟩) hC0 ?_
    go_simp
    refine Rgt.take (i := 7) (x := .bool true) rfl rfl (by kernel_rfl) (by kernel_rfl) (by kernel_rfl) (by kernel_rfl) (fun _ _ _ h => h) (Or.inl ⟨by kernel_rfl, fun w hw => by (go_simp <;> with_reducible rfl)⟩) hC0 ?_
    go_simp
    refine Rgt.take (i := 8) (x := .slice (some ⟨bl, offl, none⟩) n c) rfl rfl (by kernel_rfl) (by kernel_rfl) (by kernel_rfl) (by kernel_rfl) (fun _ _ _ h => h) (Or.inl ⟨by kernel_rfl, fun w hw => by (go_simp <;> with_reducible rfl)⟩) hC0 ?_
    go_simp
    refine Rgt.take (i := 10) (x := .slice (some ⟨bl, offl, none⟩) n c) rfl rfl (by kernel_rfl) (by kernel_rfl) (by kernel_rfl) (by kernel_rfl) (fun _ _ _ h => h) (Or.inl ⟨by kernel_rfl, fun w hw => by (go_simp <;> with_reducible rfl)⟩) hC0 ?_
    go_simp
    refine Rgt.take (i := 11) (x := .int .i64 (n : Int)) rfl rfl (by kernel_rfl) (by kernel_rfl) (by kernel_rfl) (by kernel_rfl) (fun _ _ _ h => h) (Or.inl ⟨by kernel_rfl, fun w hw => by (go_simp <;> with_reducible rfl)⟩) hC0 ?_
    go_simp
    refine Rgt.take (i := 12) (x := .int .i64 (i : Int)) rfl rfl (by kernel_rfl) (by kernel_rfl) (by kernel_rfl) (by kernel_rfl) (fun _ _ _ h => h) (Or.inl ⟨by kernel_rfl, fun w hw => by (go_simp <;> with_reducible rfl)⟩) hC0 ?_
    go_simp
    refine Rgt.take (i := 13) (x := .slice (some ⟨bl, offl, none⟩) n c) rfl rfl (by kernel_rfl) (by kernel_rfl) (by kernel_rfl) (by kernel_rfl) (fun _ _ _ h => h) (Or.inl ⟨by kernel_rfl, fun w hw => by (go_simp <;> with_reducible rfl)⟩) hC0 ?_
    go_simp
    refine Rgt.take (i := 14) (x := .int .i64 (i : Int)) rfl rfl (by kernel_rfl) (by kernel_rfl) (by kernel_rfl) (by kernel_rfl) (fun _ _ _ h => h) (Or.inl ⟨by kernel_rfl, fun w hw => by (go_simp <;> with_reducible rfl)⟩) hC0 ?_
    go_simp
    refine Rgt.take (i := 15) (x := .pointer (some ⟨bl, offl + i, none⟩)) rfl rfl (by kernel_rfl) (by kernel_rfl) (by kernel_rfl) (by kernel_rfl) (fun _ _ _ h => h) (Or.inl ⟨by kernel_rfl, fun w hw => by (go_simp <;> with_reducible rfl)⟩) hC0 ?_
    go_simp
    refine Rgt.take (i := 16) (x := .slice pl ll ql) rfl rfl (by kernel_rfl) (by kernel_rfl) (by kernel_rfl) (by kernel_rfl) (fun _ _ _ h => h) (Or.inl ⟨by kernel_rfl, fun w hw => by have hc := HLC.out w hw; (go_simp <;> with_reducible rfl)⟩) hC0 ?_
    go_simp
    refine Rgt.take (i := 17) (x := .slice o2 u c2) rfl rfl (by kernel_rfl) (by kernel_rfl) (by kernel_rfl) (by kernel_rfl) (fun _ _ _ h => h) (Or.inl ⟨by kernel_rfl, fun w hw => by (go_simp <;> with_reducible rfl)⟩) hC0 ?_
    go_simp
    refine Rgt.ready (i := 9) (by kernel_rfl) rfl (by kernel_rfl) (fun K hK => ?_)
    go_simp
    refine (HRT.out _ (HC2.out _ hC0)).mono ?_
    rintro e Y2 ⟨rfl, hb⟩
    have hC1 := HC1.out _ hb
    clear hb
    refine hK _ _ hC1 ?_
    clear hK K HRT hC0
    rename C _ => hC0
    refine Rgt.ready (i := 18) (by kernel_rfl) rfl (by kernel_rfl) (fun K hK => ?_)
    go_simp
    refine (HCK.out _ (HC2.out _ hC0)).mono ?_
    rintro e Y3 ⟨rfl, hb⟩
    have hC1 := HC1.out _ hb
    clear hb
    refine hK _ _ hC1 ?_
    clear hK K HCK hC0
    rename C _ => hC0
    refine Rgt.take (i := 19) (x := .bool true) rfl rfl (by kernel_rfl) (by kernel_rfl) (by kernel_rfl) (by kernel_rfl) (fun _ _ _ h => h) (Or.inl ⟨by kernel_rfl, fun w hw => by have hc := hen w; (go_simp <;> with_reducible rfl)⟩) hC0 ?_
    go_simp
    refine Rgt.take (i := 20) (x := .bool true) rfl rfl (by kernel_rfl) (by kernel_rfl) (by kernel_rfl) (by kernel_rfl) (fun _ _ _ h => h) (Or.inl ⟨by kernel_rfl, fun w hw => by (go_simp <;> with_reducible rfl)⟩) hC0 ?_
    go_simp
    refine Rgt.ready (i := 21) (by kernel_rfl) rfl (by kernel_rfl) (fun K hK => ?_)
    go_simp
    refine hK _ _ hC0 ?_
    clear hK K
    refine Rgt.done (by kernel_rfl) ?_ _
    have HB6 := Lib.hid (Kit.step HB5.out (HC2.out _ hC0))
    clear hC0
    go_wp2_with fail
    go_ret
    exact ⟨rfl, HB6.out⟩
  · have MK := pmake_bad n c o i (by omega) A W1 (HE.out.later HB1.out).t13
    have HMK := Lib.hid MK
    have HHI := Lib.hid hin
    have e1 : errP A 1 = .iface 137 (.pointer (some (A 0))) := rfl
    rw [e1] at HMK
    have hdd : decide (i < 0) = true ∨ (decide (i < 0) = false ∧ decide (i ≥ (n : Int)) = true ∧ decide ((n : Int) ≤ i) = true) := by
      by_cases h : i < 0
      · exact .inl (decide_eq_true h)
      · exact .inr ⟨decide_eq_false h, decide_eq_true (by omega), decide_eq_true (by omega)⟩
    clear MK hin e1
    go_wp2_with fail
    refine HMK.out.mono ?_
    rintro e W2 ⟨rfl, hb2⟩
    obtain ⟨x, hx1, hx2⟩ := HPL.out W2
    have HX1 := Lib.hid hx1
    have HX2 := Lib.hid hx2
    have HB2 := Lib.hid (Kit.step HB1.out hb2)
    clear hx1 hx2 hb2 HMK HPL
    go_wp2_with fail
    refine HX1.out.mono ?_
    rintro e W3 ⟨rfl, hb3⟩
    have HB3 := Lib.hid (Kit.step HB2.out hb3)
    clear hb3 HX1
    go_wp2_with fail
    refine (HX2.out W3).mono ?_
    rintro e W4 ⟨rfl, rfl⟩
    rename World => W3
    clear HX2
    have NU := Lib.hid (Er.num_of A 0 (by omega) W3 (HE.out.later HB3.out))
    rcases hdd with hdd | ⟨hdd, hdd2, hdd3⟩
    · go_wp2_with fail
      refine NU.out.mono ?_
      rintro e W5 ⟨rfl, hb5⟩
      have HB5 := Lib.hid (Kit.step HB3.out hb5)
      clear hb5
      go_wp2_with fail
      go_ret
      exact ⟨rfl, HB5.out⟩
    · go_wp2_with fail
      refine NU.out.mono ?_
      rintro e W5 ⟨rfl, hb5⟩
      have HB5 := Lib.hid (Kit.step HB3.out hb5)
      clear hb5
      go_wp2_with fail
      go_ret
      exact ⟨rfl, HB5.out⟩
end Go.Proofs.YtjcmihiajpgnjaaDoor
