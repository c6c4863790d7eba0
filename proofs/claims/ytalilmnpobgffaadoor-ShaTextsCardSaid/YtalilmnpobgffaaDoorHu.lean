/- A hash: Sum, Of: the code's. -/
import Derived.Test.YtalilmnpobgffaaDoorHo
namespace Go.Proofs.YtalilmnpobgffaaDoor
open Go.RowKit
set_option linter.unusedVariables false
set_option linter.unusedSimpArgs false
theorem dg_info : (Tryd.prog.info? 28).map (·.size) = some 32 := by kernel_rfl
theorem dg_under : Tryd.prog.underlying 28 = some (.array 32 5) := by kernel_rfl
theorem dg_zero (w : World) : Sem.run Tryd.prog (zeroValue 28) w = .ok (.agg (bytesV (List.replicate 32 0)).toArray) w := by kernel_rfl
theorem hash_zero (w : World) : Sem.run Tryd.prog (zeroValue 55) w = .ok (.agg (hcs (List.replicate 8 0) (List.replicate 64 0) 0).toArray) w := by kernel_rfl
theorem hash_str : ∃ fs, Tryd.prog.underlying 55 = some (.struct fs) := by
  have h := hash_under
  split at h
  · exact ⟨_, by assumption⟩
  · cases h
theorem hcs_one (st : List UInt32) (rs : List UInt8) (n : Nat) : (hcs st rs n).toArray.all (·.oneCell') = true := by
  refine all_oneCell_toArray fun v hv => ?_
  simp only [hcs, List.mem_append] at hv
  rcases hv with h | h | h
  · exact u32V_one _ v h
  · exact bytesV_one _ v h
  · simp at h; subst h; rfl
/-- the first m figures of the digest -/
def dgp (l : List UInt32) (m : Nat) : List UInt8 := (List.range 32).map fun q => if q < m then UInt8.ofNat ((Da.wi l (q / 4)).toNat / 2 ^ (24 - 8 * (q % 4))) else 0
theorem dgp_length (l : List UInt32) (m : Nat) : (dgp l m).length = 32 := by simp [dgp]
theorem dgp_zero (l : List UInt32) : dgp l 0 = List.replicate 32 0 := by
  refine List.ext_getElem (by simp [dgp]) fun j h1 h2 => ?_
  rw [List.getElem_replicate]; simp only [dgp, List.getElem_map, Nat.not_lt_zero, if_false]
theorem dgp_end (l : List UInt32) : dgp l 32 = Da.digs l := by
  unfold dgp Da.digs
  refine List.map_congr_left fun q hq => ?_
  rw [if_pos (by simpa using hq)]
theorem dgp_step (l : List UInt32) (m : Nat) : (dgp l m).set m (UInt8.ofNat ((Da.wi l (m / 4)).toNat / 2 ^ (24 - 8 * (m % 4)))) = dgp l (m + 1) := by
  refine List.ext_getElem (by simp [dgp]) fun j h1 h2 => ?_
  simp only [dgp, List.getElem_set, List.getElem_map, List.getElem_range]
  by_cases e : m = j
  · subst e; simp
  · rw [if_neg e]
    by_cases e2 : j < m
    · rw [if_pos e2, if_pos (by omega)]
    · rw [if_neg e2, if_neg (by omega)]
def Su1 (st : List UInt32) (g g2 : Nat) (w : World) (i : Value) (wr : World) : Prop :=
  ∃ k : Nat, k ≤ 8 ∧ i = .int .i64 k ∧ Arr wr g2 28 (bytesV (dgp st (4 * k))) ∧ Arr wr g 28 (bytesV (List.replicate 32 0)) ∧ Below w.heap.size w wr
def Su2 (st : List UInt32) (g g2 k : Nat) (w : World) (i : Value) (wr : World) : Prop :=
  ∃ j : Nat, j ≤ 4 ∧ i = .int .i64 j ∧ Arr wr g2 28 (bytesV (dgp st (4 * k + j))) ∧ Arr wr g 28 (bytesV (List.replicate 32 0)) ∧ Below w.heap.size w wr
/-- where the code's lists lie, and that they lie ahead -/
structure Cds (W : World) : Prop where
  cubes : Var W 23 Da.cubes
  begins : Var W 2 Da.begins
theorem Cds.later {W W' : World} (h : Cds W) (hb : Below W.heap.size W W') : Cds W' := ⟨h.cubes.later hb, h.begins.later hb⟩
theorem Cds.kept {W W' : World} {b : Nat} (h : Cds W) (hg : W.grownBy W' (some b)) (hb : 23 ≠ b ∧ 2 ≠ b) : Cds W' :=
  ⟨h.cubes.kept hg (fun e => hb.1 (by cases e; rfl)), h.begins.kept hg (fun e => hb.2 (by cases e; rfl))⟩
theorem Cds.ne {W : World} (h : Cds W) {b : Nat} (hb : W.heap.size ≤ b) : 23 ≠ b ∧ 2 ≠ b := by
  have h1 := h.cubes.lt
  have h2 := h.begins.lt
  omega
set_option maxRecDepth 100000 in
set_option maxHeartbeats 1000000 in
theorem sum_of (Z Y : Array Value) (hZ : Z = (bytesV (List.replicate 32 0)).toArray) (hY : Y = (hcs (List.replicate 8 0) (List.replicate 64 0) 0).toArray) (hzs : ∀ w, Sem.run Tryd.prog (zeroValue 28) w = .ok (.agg Z) w) (hys : ∀ w, Sem.run Tryd.prog (zeroValue 55) w = .ok (.agg Y) w)
    (b : Nat) (p : List UInt8) (w : World) (h : Hash w b p) (hV : Cds w) (hl : p.length ≤ 900000) :
    Calls Tryd.prog 10 #[.pointer (some ⟨b, 0, none⟩)] w fun e w' => e = .returned (.agg (bytesV (Da.sha p)).toArray) ∧ Below w.heap.size w w' := by
  obtain ⟨st, rs, h⟩ := h
  obtain ⟨fs, hfs⟩ := hash_str
  obtain ⟨g, hg⟩ : ∃ g, w.heap.size = g := ⟨_, rfl⟩
  obtain ⟨H, hH⟩ : ∃ H, (hcs st rs p.length).toArray = H := ⟨_, rfl⟩
  obtain ⟨W1, hW1⟩ : ∃ W1, w.alloc (Obj.cells Z 28) = W1 := ⟨_, rfl⟩
  have hb1 : Below w.heap.size w W1 := by rw [← hW1]; exact (Below.refl _ _).alloc (Nat.le_refl _) _
  have hs1 : W1.heap.size = g + 1 := by rw [← hW1, World.size_alloc, hg]
  have hR1 : Arr W1 g 28 (bytesV (List.replicate 32 0)) := by rw [← hW1, hZ, ← hg]; exact Arr.made _ _ _
  have hA1 : Arr W1 b 55 (hcs st rs p.length) := h.arr.later hb1 h.arr.lt
  obtain ⟨W2, hW2⟩ : ∃ W2, W1.alloc (Obj.cells Y 55) = W2 := ⟨_, rfl⟩
  have hA2 : Arr W2 (g + 1) 55 (hcs (List.replicate 8 0) (List.replicate 64 0) 0) := by rw [← hW2, hY, ← hs1]; exact Arr.made _ _ _
  have hb2 : Below W1.heap.size W1 W2 := by rw [← hW2]; exact (Below.refl _ _).alloc (Nat.le_refl _) _
  obtain ⟨W3, hW3⟩ : ∃ W3, W2.setRow (g + 1) H = W3 := ⟨_, rfl⟩
  have hb3 : Below W1.heap.size W1 W3 := by rw [← hW3]; exact hb2.trans (below_row (by omega))
  have hA3 : Arr W3 (g + 1) 55 (hcs st rs p.length) := by rw [← hW3, ← hH]; exact setRow_heap _ _ _ _ _ _ hA2
  have hs3 : g + 1 + 1 ≤ W3.heap.size := hA3.lt
  have hbl : b ≤ g := by have := h.arr.lt; omega
  have HLD : Hid (W1.heap[b]? = some (.cells H 55 (0, 0))) := Lib.hid (by rw [← hH]; exact hA1)
  have HSZ : Hid ((Tryd.prog.info? 55).map (·.size) = some H.size) := Lib.hid (by rw [hash_info, ← hH]; simp [hcs_length _ h.slen h.rlen])
  have HST : Hid (W2.heap[g + 1]? = some (.cells Y 55 (0, 0))) := Lib.hid (by rw [hY]; exact hA2)
  have HYS : Hid (Y.size = H.size) := Lib.hid (by rw [hY, ← hH]; simp [hcs_length _ h.slen h.rlen]; rfl)
  have HOC : Hid (H.all (·.oneCell') = true) := Lib.hid (by rw [← hH]; exact hcs_one _ _ _)
  have hH3 : Hash W3 (g + 1) p := ⟨st, rs, hA3, h.slen, h.rlen, h.ok⟩
  have hcnt : W3.cell? ⟨b, 72, none⟩ = some (.int .i64 (p.length : Int)) := by rw [(hA1.later hb3 hA1.lt).cell]; exact hcs_count _ h.slen h.rlen
  have HH3 := Lib.hid hH3
  have HV3 : Hid (Cds W3) := Lib.hid ((hV.later hb1).later hb3)
  have HCN := Lib.hid (hV.ne (b := g + 1) (by omega))
  have HB3 : Hid (Below w.heap.size w W3) := Lib.hid (Kit.step hb1 hb3)
  have HR3 : Hid (Arr W3 g 28 (bytesV (List.replicate 32 0))) := Lib.hid (hR1.later hb3 hR1.lt)
  have HW1 := Lib.hid hW1
  have HW2 := Lib.hid hW2
  have HW3 := Lib.hid hW3
  have HS1 := Lib.hid hs1
  have HS3 := Lib.hid hs3
  have HG := Lib.hid hg
  have HZ := Lib.hid hZ
  clear h hV hH hW1 hb1 hs1 hR1 hA1 hW2 hA2 hb2 hW3 hb3 hA3 hs3 hH3 hZ hY
  go_enter Tryd.func10, Tryd.ntmps10
  go_upto_region 1 with fail
  rw [HW1.out]
  apply wp_region_lit
  (refine wpList_plain rfl (fun K hK => ?_); go_simp; refine hK _ _ ?_; clear hK K)
  (refine wpList_plain rfl (fun K hK => ?_); go_simp; refine hK _ _ ?_; clear hK K)
  refine wpList_load_row rfl 55 (.tmp 9) rfl b rfl 55 H (0, 0) _ HLD.out hfs rfl HSZ.out ?_
  (refine wpList_plain rfl (fun K hK => ?_); go_simp; refine hK _ _ ?_; clear hK K)
  rw [HW2.out, HS1.out]
  refine wpList_store_rowTo rfl 55 (.tmp 3) (.tmp 10) rfl rfl (g + 1) H rfl rfl 55 Y HST.out HSZ.out HYS.out HOC.out ?_
  rw [HW3.out]
  go_wp2_with fail
  refine (end_any p.length (by omega) W3).mono ?_
  rintro e W4 ⟨ge, rfl, hge, hre, hb4⟩
  go_wp2_with fail
  refine (put_any (g + 1) p (Da.pad p.length) (some ⟨ge, 0, none⟩) (Da.pad p.length).length W4 (by obtain ⟨s1, r1, h1⟩ := HH3.out; exact ⟨s1, r1, h1.arr.later hb4 h1.arr.lt, h1.slen, h1.rlen, h1.ok⟩) hre (fun _ ad e => by cases e; show ge ≠ g + 1; have := HS3.out; omega) HCN.out (HV3.out.later hb4).cubes (HV3.out.later hb4).begins (by rw [Da.pad_length]; have := Da.zn_le p.length; omega)).mono ?_
  rintro e W5 ⟨rfl, ⟨st', rs', h5⟩, hg5⟩
  have hfe : p ++ Da.pad p.length = Da.full p := rfl
  have hfn : Da.full p ≠ [] := fun h0 => by
    have := Da.full_length p
    rw [h0] at this
    simp at this
  rw [hfe] at h5
  have hok := h5.ok hfn
  have hdg := hok.sha
  obtain ⟨g2, hg2⟩ : ∃ g2, W5.heap.size = g2 := ⟨_, rfl⟩
  have hsz5 : W3.heap.size ≤ g2 := by have := hb4.size; have := hg5.size; omega
  obtain ⟨W6, hW6⟩ : ∃ W6, W5.alloc (Obj.cells Z 28) = W6 := ⟨_, rfl⟩
  have hb6 : Below W5.heap.size W5 W6 := by rw [← hW6]; exact (Below.refl _ _).alloc (Nat.le_refl _) _
  have hA6 : Arr W6 g2 28 (bytesV (dgp st' (4 * 0))) := by rw [← hW6, HZ.out, ← hg2, Nat.mul_zero, dgp_zero]; exact Arr.made _ _ _
  have hR6 : Arr W6 g 28 (bytesV (List.replicate 32 0)) := by
    have h3 := HR3.out.later hb4 HR3.out.lt
    exact (h3.kept hg5 (fun e => by cases e)).later hb6 (h3.kept hg5 (fun e => by cases e)).lt
  have hB6 : Below w.heap.size w W6 := by
    have h4 : Below w.heap.size w W4 := Kit.step HB3.out hb4
    have h5 : Below w.heap.size w W5 := below_grown h4 hg5 (by have := HG.out; omega) h4.size
    exact Kit.step h5 hb6
  have hl5 : W6.rangeAt (g + 1) 0 (u32V st') := (h5.arr.later hb6 h5.arr.lt).range 0 _ (hcs_state _ h5.slen)
  obtain ⟨D, hD⟩ : ∃ D, (u32V st').toArray = D := ⟨_, rfl⟩
  have HL5 := Lib.hid hl5
  have HL6 : Hid ((Tryd.prog.info? 50).map (·.size) = some (u32V st').length) := Lib.hid (by rw [w8_info]; simp [h5.slen])
  have HSL := Lib.hid h5.slen
  have HDG := Lib.hid hdg
  have HA6 := Lib.hid hA6
  have HR6 := Lib.hid hR6
  have HB6 := Lib.hid hB6
  have HW6 := Lib.hid hW6
  have HG2 := Lib.hid hg2
  have HSZ5 := Lib.hid hsz5
  have HDE := Lib.hid hD
  clear hge hre hb4 h5 hg5 hfe hfn hok hdg hg2 hsz5 hW6 hb6 hA6 hR6 hB6 hl5 hD HH3 HV3 HCN HB3 HR3 HW1 HW2 HW3 HLD HST
  go_upto_region 4 with fail
  rw [HW6.out, HG2.out]
  apply wp_region_lit
  (refine wpList_plain rfl (fun K hK => ?_); go_simp; refine hK _ _ ?_; clear hK K)
  refine wpList_load_mid rfl 50 (.tmp 17) rfl (g + 1) 0 rfl (u32V st') _ HL5.out w8_under rfl HL6.out ?_
  rw [HDE.out]
  go_wp2_with fail
  clear HL5 HL6 HW6 hys HZ
  have hgg : g + 2 ≤ g2 := by have := HSZ5.out; have := HS3.out; omega
  go_loopw [19] (fun i wr => Su1 st' g g2 w i wr) (fun i _ => 8 - (intOf i).toNat)
  case atStart => exact ⟨0, Nat.zero_le _, rfl, HA6.out, HR6.out, HB6.out⟩
  case round =>
    rename World => X1
    obtain ⟨k, hk, rfl, hA1, hR1, hB1⟩ := hrel
    by_cases hlt : k < 8
    · have hd1 : decide ((k : Int) < 8) = true := by simpa using (by omega : (k : Int) < 8)
      obtain ⟨x, hx⟩ : ∃ x, Da.wi st' k = x := ⟨_, rfl⟩
      have hIX : ∀ W, (Instr.index 50 (.agg D) (.int .i64 (k : Int))).run Tryd.prog W = .ok (.int .u32 (x.toNat : Int)) W := run_index_one _ _ 8 D k _ w8_under (by kernel_rfl) (fun W => by kernel_rfl) hlt (by rw [← HDE.out, List.getElem?_toArray, ← hx]; exact u32V_get _ _ (by rw [HSL.out]; exact hlt))
      have HX := Lib.hid hx
      have HA1 := Lib.hid hA1
      have HR1 := Lib.hid hR1
      have HB1 := Lib.hid hB1
      clear hA1 hR1 hB1 hx
      go_wp2_with fail
      go_loopw [23] (fun i wr => Su2 st' g g2 k w i wr) (fun i _ => 4 - (intOf i).toNat)
      case atStart => exact ⟨0, Nat.zero_le _, rfl, HA1.out, HR1.out, HB1.out⟩
      case round =>
        rename World => X2
        obtain ⟨j, hj, rfl, hA2, hR2, hB2⟩ := hrel
        by_cases hlj : j < 4
        · have hd2 : decide ((j : Int) < 4) = true := by simpa using (by omega : (j : Int) < 4)
          obtain ⟨s, hs⟩ : ∃ s, 24 - 8 * j = s := ⟨_, rfl⟩
          have hsh : (24 : Int) - 8 * (j : Int) = (s : Int) := by omega
          have hs31 : s ≤ 24 := by omega
          obtain ⟨q, hq⟩ : ∃ q, 4 * k + j = q := ⟨_, rfl⟩
          have hqi : (4 : Int) * (k : Int) + (j : Int) = (q : Int) := by omega
          have hql : q < 32 := by omega
          obtain ⟨y, hy⟩ : ∃ y, (dgp st' q).getD q 0 = y := ⟨_, rfl⟩
          rw [hq] at hA2
          have hce : X2.cell? ⟨g2, q, none⟩ = some (.int .u8 (y.toNat : Int)) := by rw [hA2.cell, ← hy]; exact bytesV_get _ _ (by rw [dgp_length]; exact hql)
          have hfr := hA2.frozen q
          have HST := Lib.hid (dgp_step st' q)
          rw [show q / 4 = k by omega, show q % 4 = j by omega, HX.out, hs] at HST
          have HA2 := Lib.hid hA2
          have HR2 := Lib.hid hR2
          have HB2 := Lib.hid hB2
          have HQ := Lib.hid hq
          clear hA2 hR2 hB2 hy hq hs
          go_wp2_with fail
          refine ⟨⟨j + 1, by omega, by go_num, ?_, ?_, ?_⟩, by simp [intOf]; omega⟩
          · rw [← Nat.add_assoc, HQ.out, show ((x.toNat : Int) / 2 ^ s % 256) = ((UInt8.ofNat (x.toNat / 2 ^ s)).toNat : Int) from by rw [UInt8.toNat_ofNat', Int.natCast_emod, Int.natCast_ediv, Int.natCast_pow]; rfl, ← HST.out, ← bytesV_set']
            exact HA2.out.set q _
          · exact HR2.out.ne HA2.out (by omega) _ _
          · exact HA2.out.below HB2.out (by have := HG.out; omega) _ _
        · obtain rfl : j = 4 := by omega
          rw [show (((4 : Nat) : Int)) = 4 from rfl]
          rw [show 4 * k + 4 = 4 * (k + 1) by omega] at hA2
          have HA2 := Lib.hid hA2
          have HR2 := Lib.hid hR2
          have HB2 := Lib.hid hB2
          clear hA2 hR2 hB2
          go_wp2_with fail
          exact ⟨⟨k + 1, by omega, by go_num, HA2.out, HR2.out, HB2.out⟩, by simp [intOf]; omega⟩
    · obtain rfl : k = 8 := by omega
      rw [show (((8 : Nat) : Int)) = 8 from rfl]
      rw [show 4 * 8 = 32 from rfl, dgp_end, HDG.out] at hA1
      obtain ⟨F, hF⟩ : ∃ F, (bytesV (Da.sha p)).toArray = F := ⟨_, rfl⟩
      have HRS : Hid ((Tryd.prog.info? 28).map (·.size) = some F.size) := Lib.hid (by rw [dg_info, ← hF]; simp [Da.sha_length])
      have HRO : Hid (F.all (·.oneCell') = true) := Lib.hid (by rw [← hF]; exact all_oneCell_toArray (bytesV_one _))
      have HRZ : Hid ((bytesV (List.replicate 32 0)).toArray.size = F.size) := Lib.hid (by rw [← hF]; simp [Da.sha_length])
      have HL1 : Hid (X1.heap[g2]? = some (.cells F 28 (0, 0))) := Lib.hid (by rw [← hF]; exact hA1)
      have HL2 : Hid (X1.heap[g]? = some (.cells (bytesV (List.replicate 32 0)).toArray 28 (0, 0))) := Lib.hid hR1
      have HGW : Hid ((X1.setRow g F).heap[g]? = some (.cells F 28 (0, 0))) := Lib.hid (setRow_heap _ _ _ _ _ _ hR1)
      have HBW : Hid (Below w.heap.size w (X1.setRow g F)) := Lib.hid (hB1.trans (below_row (Nat.le_of_eq HG.out)))
      have HFE := Lib.hid hF
      clear hF hA1 hR1 hB1 hzs
      go_wp2_with (first | refine wpList_load_row rfl 28 (.tmp 4) rfl g2 rfl 28 F (0, 0) _ HL1.out dg_under rfl HRS.out ?_ | refine wpList_store_row rfl 28 (.tmp 2) (.tmp 39) rfl g F rfl rfl 28 (bytesV (List.replicate 32 0)).toArray HL2.out HRS.out HRZ.out HRO.out ?_)
      refine bodyPost_ret (results_cell_row rfl _ _ g 28 F (0, 0) _ rfl HGW.out dg_under rfl HRS.out) rfl ?_
      exact ⟨by rw [HFE.out], HBW.out⟩
theorem hsum_any (b : Nat) (p : List UInt8) (w : World) (h : Hash w b p) (hV : Cds w) (hl : p.length ≤ 900000) :
    Calls Tryd.prog 10 #[.pointer (some ⟨b, 0, none⟩)] w fun e w' => e = .returned (.agg (bytesV (Da.sha p)).toArray) ∧ Below w.heap.size w w' := sum_of _ _ rfl rfl dg_zero hash_zero b p w h hV hl
end Go.Proofs.YtalilmnpobgffaaDoor
