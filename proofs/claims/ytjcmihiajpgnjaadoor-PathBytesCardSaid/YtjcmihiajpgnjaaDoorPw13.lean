/- PathBytes. -/
import Derived.Test.YtjcmihiajpgnjaaDoorPb13
namespace Go.Proofs.YtjcmihiajpgnjaaDoor
open Go.RowKit
set_option linter.unusedVariables false
set_option linter.unusedSimpArgs false
set_option maxRecDepth 100000 in
set_option maxHeartbeats 4000000 in
theorem pb13_of (Z : Array Value) (hZ : Z.size = 32) (hzs : ∀ w, Sem.run Tryd.prog (zeroValue 37) w = .ok (.agg Z) w)
    (ds : List (List UInt8)) (o : Option Addr) (n c : Nat) (hn : ds.length = n) (b : List UInt8) (ob : Option Addr) (cb : Nat) (A : Nat → Addr) (w : World) (hR : DgIs w o ds c) (hB : RowIs w ob (bytesV b) cb) (hV : Cds w) (hE : Er.Errs w A) :
    Calls Tryd.prog 6 #[.slice o n c, .slice ob b.length cb] w fun e w' => e = .returned (.bool true) ∧ Below w.heap.size w w' := by
  have AL := alive13_any w hV
  have hcl := hR.le
  have hca := hR.cap
  rw [hn] at hcl
  unfold maxLen at hca
  obtain ⟨L, hL⟩ : ∃ L, b.length = L := ⟨_, rfl⟩
  rw [hL]
  have HAL := Lib.hid AL
  have HR0 := Lib.hid hR
  have HRB := Lib.hid hB
  have HE := Lib.hid hE
  have HN := Lib.hid hn
  have HZ := Lib.hid hZ
  have HL := Lib.hid hL
  have hen := eql_nil13
  clear AL hR hB hV hE hn hZ hL
  go_enter Tryd.func6, Tryd.ntmps6
  go_wp2_with fail
  refine HAL.out.mono ?_
  rintro e W1 ⟨rfl, hb1⟩
  have HBW1 := Lib.hid hb1
  have HR := Lib.hid (HR0.out.later hb1)
  clear HAL hb1
  by_cases h30 : 30 < n
  · have hd1 : decide ((n : Int) > 30) = true := decide_eq_true (by omega)
    have hd2 : decide (30 < (n : Int)) = true := decide_eq_true (by omega)
    have H30 := Lib.hid h30
    clear h30
    go_wp2_with fail
    go_ret
    exact ⟨rfl, HBW1.out⟩
  have hd1 : decide ((n : Int) > 30) = false := decide_eq_false (by omega)
  have hd2 : decide (30 < (n : Int)) = false := decide_eq_false (by omega)
  by_cases h700 : 700 < L
  · have hd3 : decide ((L : Int) > 700) = true := decide_eq_true (by omega)
    have hd4 : decide (700 < (L : Int)) = true := decide_eq_true (by omega)
    have H30 := Lib.hid h30
    have H700 := Lib.hid h700
    clear h30 h700
    go_wp2_with fail
    go_ret
    exact ⟨rfl, HBW1.out⟩
  have hd3 : decide ((L : Int) > 700) = false := decide_eq_false (by omega)
  have hd4 : decide (700 < (L : Int)) = false := decide_eq_false (by omega)
  have hn30 : n ≤ 30 := by omega
  have hL700 : L ≤ 700 := by omega
  clear h30 h700
  obtain ⟨W2, hW2⟩ : ∃ W2, W1.alloc (.cells #[] 5) = W2 := ⟨_, rfl⟩
  have hb2 : Below W1.heap.size W1 W2 := by rw [← hW2]; exact new12 _ _
  have hown : W2.ownsRow W1.heap.size 5 1 (.slice (some ⟨W1.heap.size, 0, none⟩) 0 0) 0 [] := own_empty (by rw [← hW2]; exact World.alloc_heap_new W1 _) (Nat.le_refl _)
  have HOWN0 := Lib.hid hown
  have HB2 := Lib.hid hb2
  have HW2 := Lib.hid hW2
  clear hown hb2 hW2
  go_upto_region 6 with fail
  rw [HW2.out]
  go_wp2_with fail
  go_loopw [5, 23] (fun v iv wr => BtI ds W1 v iv wr) (fun _ iv _ => n - (intOf iv).toNat)
  case atStart => exact ⟨0, Nat.zero_le _, rfl, HOWN0.out, HB2.out⟩
  case round =>
    obtain ⟨k, hk, rfl, hv, hb⟩ := hrel
    rw [HN.out] at hk
    by_cases hlt : k < n
    · have hk0 : (0 : Int) ≤ (k : Int) := by omega
      have hk1 : (k : Int) < (n : Int) := by omega
      obtain ⟨b1, off1, rfl, hb1, hrng⟩ := (HR.out.later hb).at_ k (by have := HN.out; omega)
      have hel := HR.out.all.at_ (i := k) (by have := HN.out; omega)
      have HST := Lib.hid (Da.take_step (ds := ds) (k := k) (by have := HN.out; omega))
      obtain ⟨e, he⟩ : ∃ e, bi ds k = e := ⟨_, rfl⟩
      rw [he] at hrng hel HST
      obtain ⟨D, hD⟩ : ∃ D, (bytesV e).toArray = D := ⟨_, rfl⟩
      have HRS : Hid ((Tryd.prog.info? 37).map (·.size) = some (bytesV e).length) := Lib.hid (by rw [d32_info]; simp [hel])
      have HDS : Hid ((Tryd.prog.info? 37).map (·.size) = some D.size) := Lib.hid (by rw [d32_info, ← hD]; simp [hel])
      have HDO : Hid (D.all (·.oneCell') = true) := Lib.hid (by rw [← hD]; exact all_oneCell_toArray (bytesV_one _))
      have HDZ : Hid (Z.size = D.size) := Lib.hid (by rw [HZ.out, ← hD]; simp [hel])
      have HEL := Lib.hid hel
      have HD := Lib.hid hD
      have HRNG := Lib.hid hrng
      obtain ⟨p, hp⟩ : ∃ p, wr.heap.size = p := ⟨_, rfl⟩
      obtain ⟨Y, hY⟩ : ∃ Y, (wr.alloc (.cells Z 37)).setRow p D = Y := ⟨_, rfl⟩
      have hbY : Below wr.heap.size wr Y := by rw [← hY]; exact (new12 wr _).trans (below_row (Nat.le_of_eq hp))
      have hA : Arr Y p 37 (bytesV e) := by
        rw [← hY, ← hD, ← hp]
        exact setRow_heap _ _ _ _ _ _ (World.alloc_heap_new wr _)
      have HOWN := Lib.hid (own_later12 hv hbY)
      have HBY := Lib.hid (Kit.step hb hbY)
      have HA := Lib.hid hA
      have HP := Lib.hid hp
      have HY := Lib.hid hY
      have HNEW : Hid ((wr.alloc (.cells Z 37)).heap[p]? = some (.cells Z 37 (0, 0))) := Lib.hid (by rw [← hp]; exact World.alloc_heap_new wr _)
      clear hrng hel he hD hp hY hbY hA hv hb hb1
      go_upto_region 8 with fail
      apply wp_region_lit
      (refine wpList_plain rfl (fun K hK => ?_); go_simp; refine hK _ _ ?_; clear hK K)
      refine wpList_load_mid rfl 37 (.tmp 25) rfl b1 (off1 + k * 32) rfl (bytesV e) _ HRNG.out d32_under rfl HRS.out ?_
      rw [HD.out]
      (refine wpList_plain rfl (fun K hK => ?_); go_simp; refine hK _ _ ?_; clear hK K)
      rw [HP.out]
      refine wpList_store_row rfl 37 (.tmp 7) (.tmp 26) rfl p D rfl rfl 37 Z HNEW.out HDS.out HDZ.out HDO.out ?_
      rw [HY.out]
      have hrow := HA.out.row (by rw [HEL.out]; unfold maxLen; decide)
      rw [HEL.out] at hrow
      have HROW := Lib.hid hrow
      have hEl := HEL.out
      clear hrow
      go_upto_region 9 with fail
      go_wp2_with (at_builtin; refine append_row rfl (.tmp 27) (.tmp 28) rfl W1.heap.size _ (k * 32) (ds.take k).flatten rfl HOWN.out (some ⟨p, 0, none⟩) 32 32 e rfl hEl.symm HROW.out (by omega) HBY.out.size ?_)
      intro v2 w4 hv2 hg2
      rw [← HST.out] at hv2
      have HV4 := Lib.hid hv2
      have HB4 := Lib.hid (Below.grown HBY.out hg2 HBY.out.size (fun k e => (World.ownsRow.lt HOWN.out k e).1))
      clear hv2 hg2
      go_wp2_with fail
      go_roundw
      case rel => exact ⟨k + 1, by have := HN.out; omega, by go_num, by have := HV4.out; rwa [show k * 32 + 32 = (k + 1) * 32 by omega] at this, HB4.out⟩
      case measure => simp [intOf]; omega
    · obtain rfl : k = n := by omega
      rw [List.take_of_length_le (by rw [HN.out]; exact Nat.le_refl _)] at hv
      have HRV := Lib.hid (owns_rv hv (by rw [Da.flat_len HR.out.all, HN.out]))
      have HB2 := Lib.hid (Kit.step HBW1.out hb)
      have HRW := Lib.hid (HR.out.later hb)
      obtain ⟨oa, ca, hva, hra⟩ := HRV.out
      subst hva
      obtain ⟨F, hF⟩ : ∃ F, ds.flatten.length = F := ⟨_, rfl⟩
      obtain ⟨SB, hSB⟩ : ∃ SB : ByteArray, ⟨ds.flatten.toArray⟩ = SB := ⟨_, rfl⟩
      have HFL := Lib.hid hF
      have HSB := Lib.hid hSB
      rw [hF]
      clear hv hb HRV
      obtain ⟨C, hC⟩ : ∃ C : World → Prop, (fun v => Below wr.heap.size wr v) = C := ⟨_, rfl⟩
      have HC1 : Hid (∀ v, Below wr.heap.size wr v → C v) := Lib.hid fun v hv => by rw [← hC]; exact hv
      have HC2 : Hid (∀ v, C v → Below wr.heap.size wr v) := Lib.hid fun v hv => by rw [← hC] at hv; exact hv
      have hdr : Below wr.heap.size wr wr.drew := Kit.dn' wr 1
      have hC0 : C wr.drew := HC1.out _ hdr
      have HDR := Lib.hid hdr
      clear hC hdr
      have HKA : Hid (∀ v, C v → (convert 40 9 (.slice oa F ca)).run Tryd.prog v = .ok (.string SB) v) := Lib.hid fun v hv => by
        have := run_string (hra.later (HC2.out v hv)) Tryd.underlying40 Tryd.underlying5 Tryd.underlying9 ca
        rw [hF, hSB] at this
        exact this
      have DI := digs_any ds o k c HN.out (by omega) wr.drew (HRW.out.later HDR.out)
      have HDI := Lib.hid DI
      clear DI hra hF hSB
      go_upto_region 11 with fail
      refine Rgt.region C (fun _ => false) (by kernel_rfl) ?_
      refine Rgt.take (i := 0) (x := .slice o k c) rfl rfl (by kernel_rfl) (by kernel_rfl) (by kernel_rfl) (by kernel_rfl) (fun _ _ _ h => h) (Or.inl ⟨by kernel_rfl, fun w hw => by (go_simp <;> with_reducible rfl)⟩) hC0 ?_
      go_simp
      refine Rgt.take (i := 4) (x := .slice oa F ca) rfl rfl (by kernel_rfl) (by kernel_rfl) (by kernel_rfl) (by kernel_rfl) (fun _ _ _ h => h) (Or.inl ⟨by kernel_rfl, fun w hw => by (go_simp <;> with_reducible rfl)⟩) hC0 ?_
      go_simp
      refine Rgt.take (i := 5) (x := .string SB) rfl rfl (by kernel_rfl) (by kernel_rfl) (by kernel_rfl) (by kernel_rfl) (fun _ _ _ h => h) (Or.inl ⟨by kernel_rfl, fun w hw => St.exec_conv rfl (HKA.out w hw)⟩) hC0 ?_
      go_simp
      refine Rgt.ready (i := 1) (by kernel_rfl) rfl (by kernel_rfl) (fun K hK => ?_)
      go_simp
      refine (HDI.out).mono ?_
      rintro e Y1 ⟨o1, c1, rfl, hdg1, hb1⟩
      have hC1 := HC1.out _ (Kit.step HDR.out hb1)
      have BY := Lib.hid (pbytes_any ds o1 k c1 HN.out (by omega) Y1 hdg1)
      clear hb1 hdg1
      refine hK _ _ hC1 ?_
      clear hK K hC0
      rename C _ => hC0
      refine Rgt.ready (i := 2) (by kernel_rfl) rfl (by kernel_rfl) (fun K hK => ?_)
      go_simp
      refine (BY.out).mono ?_
      rintro e Y2 ⟨v2, rfl, hrv2, hb2⟩
      have hC1 := HC1.out _ (Kit.step (HC2.out _ hC0) hb2)
      obtain ⟨o2, c2, rfl, hr2⟩ := hrv2
      have k2 := run_string hr2 Tryd.underlying40 Tryd.underlying5 Tryd.underlying9 c2
      rw [HFL.out] at k2 ⊢
      rw [HSB.out] at k2
      clear hb2 hr2
      refine hK _ _ hC1 ?_
      clear hK K hC0
      rename C _ => hC0
      refine Rgt.ready (i := 3) (by kernel_rfl) rfl (by kernel_rfl) (fun K hK => ?_)
      go_simp
      refine hK _ _ hC0 ?_
      clear hK K k2
      refine Rgt.take (i := 6) (x := .bool false) rfl rfl (by kernel_rfl) (by kernel_rfl) (by kernel_rfl) (by kernel_rfl) (fun _ _ _ h => h) (Or.inl ⟨by kernel_rfl, fun w hw => by (go_simp <;> with_reducible rfl)⟩) hC0 ?_
      go_simp
      refine Rgt.done (by kernel_rfl) ?_ _
      have HB5 := Lib.hid (Kit.step HB2.out (HC2.out _ hC0))
      have HRB5 := Lib.hid (HRB.out.later HB5.out)
      have HE5 := Lib.hid (HE.out.later HB5.out)
      clear hC0 HC1 HC2 HKA HDI HDR HRW C
      by_cases hm : L % 32 ≠ 0
      · have PS := pparse_size b ob L cb HL.out (by omega) hm A Y2 HE5.out.c7
        rw [show errP A 8 = .iface 137 (.pointer (some (A 7))) from rfl] at PS
        have HPS := Lib.hid PS
        have hd5 : ((L : Int) % 32 != 0) = true := by simp; omega
        clear PS hm
        go_wp2_with fail
        refine HPS.out.mono ?_
        rintro e W6 ⟨rfl, hb6⟩
        have HB6 := Lib.hid (Kit.step HB5.out hb6)
        have HNU := Lib.hid (Er.num_of A 7 (by omega) W6 (HE5.out.later hb6))
        clear hb6 HPS
        go_wp2_with fail
        refine HNU.out.mono ?_
        rintro e W7 ⟨rfl, hb7⟩
        have HB7 := Lib.hid (Kit.step HB6.out hb7)
        clear hb7
        go_wp2_with fail
        go_ret
        exact ⟨rfl, HB7.out⟩
      have hm0 : L % 32 = 0 := by omega
      have hd5 : ((L : Int) % 32 != 0) = false := by simp; omega
      by_cases h320 : 320 < L
      · have PS := pparse_long b ob L cb HL.out (by omega) hm0 h320 A Y2 HE5.out.c2
        rw [show errP A 3 = .iface 137 (.pointer (some (A 2))) from rfl] at PS
        have HPS := Lib.hid PS
        have hd6 : decide ((L : Int) > 320) = true := decide_eq_true (by omega)
        have hd7 : decide (320 < (L : Int)) = true := decide_eq_true (by omega)
        clear PS hm hm0 h320
        go_wp2_with fail
        refine HPS.out.mono ?_
        rintro e W6 ⟨rfl, hb6⟩
        have HB6 := Lib.hid (Kit.step HB5.out hb6)
        have HNU := Lib.hid (Er.num_of A 2 (by omega) W6 (HE5.out.later hb6))
        clear hb6 HPS
        go_wp2_with fail
        refine HNU.out.mono ?_
        rintro e W7 ⟨rfl, hb7⟩
        have HB7 := Lib.hid (Kit.step HB6.out hb7)
        clear hb7
        go_wp2_with fail
        go_ret
        exact ⟨rfl, HB7.out⟩
      obtain ⟨K5, hK5⟩ : ∃ K5, K5 * 32 = L := ⟨L / 32, by omega⟩
      have hK10 : K5 ≤ 10 := by omega
      have PS := pparse_any b ob K5 cb (by rw [HL.out, hK5]) hK10 Y2 HRB5.out
      rw [hK5] at PS
      have HPS := Lib.hid PS
      have hd6 : decide ((L : Int) > 320) = false := decide_eq_false (by omega)
      have hd7 : decide (320 < (L : Int)) = false := decide_eq_false (by omega)
      clear PS hm hm0 h320 hK5
      go_wp2_with fail
      refine HPS.out.mono ?_
      rintro e W6 ⟨o5, c5, es, rfl, hfe, hel, hdg6, hb6⟩
      have HFE := Lib.hid hfe
      have HEL := Lib.hid hel
      have HDG6 := Lib.hid hdg6
      have HRB6 := Lib.hid (HRB5.out.later hb6)
      have HB5 := Lib.hid (Kit.step HB5.out hb6)
      clear hfe hel hdg6 hb6 HPS
      go_upto_region 18 with fail
      obtain ⟨SC, hSC⟩ : ∃ SC : ByteArray, ⟨b.toArray⟩ = SC := ⟨_, rfl⟩
      have HSC := Lib.hid hSC
      have HBL := Lib.hid HL.out
      clear hSC
      obtain ⟨C, hC⟩ : ∃ C : World → Prop, (fun v => Below W6.heap.size W6 v) = C := ⟨_, rfl⟩
      have HC1 : Hid (∀ v, Below W6.heap.size W6 v → C v) := Lib.hid fun v hv => by rw [← hC]; exact hv
      have HC2 : Hid (∀ v, C v → Below W6.heap.size W6 v) := Lib.hid fun v hv => by rw [← hC] at hv; exact hv
      have hdr : Below W6.heap.size W6 W6.drew := Kit.dn' W6 1
      have hC0 : C W6.drew := HC1.out _ hdr
      have HDR := Lib.hid hdr
      clear hC hdr
      have HKC : Hid (∀ v, C v → (convert 40 9 (.slice ob L cb)).run Tryd.prog v = .ok (.string SC) v) := Lib.hid fun v hv => by
        have := run_string (HRB6.out.later (HC2.out v hv)) Tryd.underlying40 Tryd.underlying5 Tryd.underlying9 cb
        rw [HL.out, HSC.out] at this
        exact this
      have BY := pbytes_any es o5 K5 c5 HEL.out (by omega) W6.drew (HDG6.out.later HDR.out)
      have HBY := Lib.hid BY
      clear BY
      refine Rgt.region C (fun _ => false) (by kernel_rfl) ?_
      refine Rgt.take (i := 0) (x := .nilIface) rfl rfl (by kernel_rfl) (by kernel_rfl) (by kernel_rfl) (by kernel_rfl) (fun _ _ _ h => h) (Or.inl ⟨by kernel_rfl, fun w hw => by (go_simp <;> with_reducible rfl)⟩) hC0 ?_
      go_simp
      refine Rgt.take (i := 1) (x := .bool true) rfl rfl (by kernel_rfl) (by kernel_rfl) (by kernel_rfl) (by kernel_rfl) (fun _ _ _ h => h) (Or.inl ⟨by kernel_rfl, fun w hw => by have hc := hen w; (go_simp <;> with_reducible rfl)⟩) hC0 ?_
      go_simp
      refine Rgt.take (i := 2) (x := .bool true) rfl rfl (by kernel_rfl) (by kernel_rfl) (by kernel_rfl) (by kernel_rfl) (fun _ _ _ h => h) (Or.inl ⟨by kernel_rfl, fun w hw => by (go_simp <;> with_reducible rfl)⟩) hC0 ?_
      go_simp
      refine Rgt.take (i := 3) (x := .slice o5 K5 c5) rfl rfl (by kernel_rfl) (by kernel_rfl) (by kernel_rfl) (by kernel_rfl) (fun _ _ _ h => h) (Or.inl ⟨by kernel_rfl, fun w hw => by (go_simp <;> with_reducible rfl)⟩) hC0 ?_
      go_simp
      refine Rgt.take (i := 6) (x := .slice ob L cb) rfl rfl (by kernel_rfl) (by kernel_rfl) (by kernel_rfl) (by kernel_rfl) (fun _ _ _ h => h) (Or.inl ⟨by kernel_rfl, fun w hw => by (go_simp <;> with_reducible rfl)⟩) hC0 ?_
      go_simp
      refine Rgt.take (i := 7) (x := .string SC) rfl rfl (by kernel_rfl) (by kernel_rfl) (by kernel_rfl) (by kernel_rfl) (fun _ _ _ h => h) (Or.inl ⟨by kernel_rfl, fun w hw => St.exec_conv rfl (HKC.out w hw)⟩) hC0 ?_
      go_simp
      refine Rgt.ready (i := 4) (by kernel_rfl) rfl (by kernel_rfl) (fun K hK => ?_)
      go_simp
      refine (HBY.out).mono ?_
      rintro e Y2 ⟨v2, rfl, hrv2, hb2⟩
      have hC1 := HC1.out _ (Kit.step HDR.out hb2)
      obtain ⟨o2, c2, rfl, hr2⟩ := hrv2
      have k2 := run_string hr2 Tryd.underlying40 Tryd.underlying5 Tryd.underlying9 c2
      rw [HFE.out, HBL.out, HSC.out] at k2
      rw [HFE.out, HBL.out]
      clear hb2 hr2
      refine hK _ _ hC1 ?_
      clear hK K hC0
      rename C _ => hC0
      refine Rgt.ready (i := 5) (by kernel_rfl) rfl (by kernel_rfl) (fun K hK => ?_)
      go_simp
      refine hK _ _ hC0 ?_
      clear hK K k2
      refine Rgt.take (i := 8) (x := .bool true) rfl rfl (by kernel_rfl) (by kernel_rfl) (by kernel_rfl) (by kernel_rfl) (fun _ _ _ h => h) (Or.inl ⟨by kernel_rfl, fun w hw => by (go_simp <;> with_reducible rfl)⟩) hC0 ?_
      go_simp
      refine Rgt.take (i := 9) (x := .bool true) rfl rfl (by kernel_rfl) (by kernel_rfl) (by kernel_rfl) (by kernel_rfl) (fun _ _ _ h => h) (Or.inl ⟨by kernel_rfl, fun w hw => by (go_simp <;> with_reducible rfl)⟩) hC0 ?_
      go_simp
      refine Rgt.ready (i := 10) (by kernel_rfl) rfl (by kernel_rfl) (fun K hK => ?_)
      go_simp
      refine hK _ _ hC0 ?_
      clear hK K
      refine Rgt.done (by kernel_rfl) ?_ _
      have HB6 := Lib.hid (Kit.step HB5.out (HC2.out _ hC0))
      clear hC0
      go_wp2_with fail
      go_ret
      exact ⟨rfl, HB6.out⟩
end Go.Proofs.YtjcmihiajpgnjaaDoor
