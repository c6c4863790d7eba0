/- A path's bytes, and back; digests of arrays. -/
import Derived.Test.YtjcmihiajpgnjaaDoorPk4
namespace Go.Proofs.YtjcmihiajpgnjaaDoor
open Go.RowKit
set_option linter.unusedVariables false
set_option linter.unusedSimpArgs false
theorem oper_exec {P : Program} {o : Oper} {a : Act} {w : World} {K : Act → World → Prop} {Q : Exit → Act → World → Prop} {v : Value} (h : (execOp a.eval o).run P w = .ok (.value v) w) (hk : K (a.put o.dst v) w) : o.wp P a w K Q := by
  unfold Oper.wp
  rw [h]
  exact hk
theorem exec_arrayAt {P : Program} {o : Oper} {a : Act} {w : World} {T e : TypeId} {x : Operand} {n L c : Nat} {ad : Option Addr} (ho : o.op = .sliceToArrayPointer T x) (hx : a.eval x = .slice ad L c) (hu : P.underlying T = some (.array n e)) (hn : n ≤ L) :
    (execOp a.eval o).run P w = .ok (.value (.pointer ad)) w := by
  unfold execOp
  simp only [ho, hx, Instr.arrayAt, Sem.run_bind, run_underlying hu, Result.andThen_ok]
  rw [if_neg (Nat.not_lt.2 hn)]
  simp [go_sem]
theorem own_empty {W : World} {base g sz : Nat} {T : TypeId} (hg : W.heap[g]? = some (.cells #[] T (0, 0))) (hb : base ≤ g) : W.ownsRow base T sz (.slice (some ⟨g, 0, none⟩) 0 0) 0 [] :=
  ⟨by simp, .inr ⟨g, 0, #[], rfl, hb, hg, Nat.le_refl _, by unfold maxLen; decide, by simp, by simp⟩⟩
theorem Da.take_step {ds : List (List UInt8)} {k : Nat} (h : k < ds.length) : (ds.take (k + 1)).flatten = (ds.take k).flatten ++ bi ds k := flat_step ds k h
def BtI (ds : List (List UInt8)) (w : World) (v iv : Value) (wr : World) : Prop := ∃ k : Nat, k ≤ ds.length ∧ iv = .int .i64 (k : Int) ∧ wr.ownsRow w.heap.size 5 1 v (k * 32) (bytesV (ds.take k).flatten) ∧ Below w.heap.size w wr
def DtI (ds : List (List UInt8)) (w : World) (v iv : Value) (wr : World) : Prop := ∃ k : Nat, k ≤ ds.length ∧ iv = .int .i64 (k : Int) ∧ wr.ownsRow w.heap.size 38 32 v k (bytesV (ds.take k).flatten) ∧ Below w.heap.size w wr
set_option maxRecDepth 100000 in
set_option maxHeartbeats 2000000 in
theorem pbytes_of (Z : Array Value) (hZ : Z.size = 32) (hzs : ∀ w, Sem.run Tryd.prog (zeroValue 38) w = .ok (.agg Z) w) (ds : List (List UInt8)) (o : Option Addr) (n c : Nat) (hn : ds.length = n) (h5 : n ≤ 1000) (w : World) (hR : DgIs w o ds c) :
    Calls Tryd.prog 26 #[.slice o n c] w fun e w' => ∃ v, e = .returned v ∧ RowV ds.flatten v w' ∧ Below w.heap.size w w' := by
  have hcl := hR.le
  have hca := hR.cap
  rw [hn] at hcl
  unfold maxLen at hca
  have HR := Lib.hid hR
  have HN := Lib.hid hn
  have HZ := Lib.hid hZ
  obtain ⟨i0, hi0, hz0, hz1, hz2⟩ := info_parts info_u8
  have hw32 : IntKind.i64.wrap ((n : Int) * 32) = (n : Int) * 32 := by rw [IntKind.wrap_i64]; omega
  clear hR hn hZ
  go_enter Tryd.func26, Tryd.ntmps26
  go_upto_region 1 with fail
  apply wp_region_lit
  (refine wpList_plain rfl (fun K hK => ?_); go_simp; refine hK _ _ ?_; clear hK K)
  (refine wpList_plain rfl (fun K hK => ?_); go_simp; refine hK _ _ ?_; clear hK K)
  (refine wpList_plain rfl (fun K hK => ?_); go_simp; refine hK _ _ ?_; clear hK K)
  refine wpList_make_own _ rfl (.const (.int .i64 0)) (.tmp 8) 40 rfl w.heap.size 5 i0 _ 1 Tryd.underlying40 hi0 hz0 hz1 .i64 .i64 ((n : Int) * 32) (n * 32) rfl rfl (by omega) (by rw [hz2]; omega) (by unfold maxLen; omega) (Nat.le_refl _) ?_
  intro W1 hown hgr
  have hb1 : Below w.heap.size w W1 := ⟨hgr.os, hgr.tape, hgr.output, hgr.size, fun k hk => hgr.block k hk (by simp)⟩
  have HOWN := Lib.hid hown
  have HB1 := Lib.hid hb1
  clear hown hgr hb1
  go_wp2_with fail
  go_loopw [3, 12] (fun v iv wr => BtI ds w v iv wr) (fun _ iv _ => n - (intOf iv).toNat)
  case atStart => exact ⟨0, Nat.zero_le _, rfl, HOWN.out, HB1.out⟩
  case round =>
    obtain ⟨k, hk, rfl, hv, hb⟩ := hrel
    rw [HN.out] at hk
    by_cases hlt : k < n
    · have hk0 : (0 : Int) ≤ (k : Int) := by omega
      have hk1 : (k : Int) < (n : Int) := by omega
      obtain ⟨b1, off1, rfl, hb1, hrng⟩ := (HR.out.later hb).at_ k (by have := HN.out; omega)
      have hel := HR.out.all.at_ (i := k) (by have := HN.out; omega)
      have HST := Lib.hid (Da.take_step (ds := ds) (k := k) (by have := HN.out; omega))
      obtain ⟨e, he⟩ : ∃ e, bi ds k = e := ⟨_, rfl⟩
      rw [he] at hrng hel HST
      obtain ⟨D, hD⟩ : ∃ D, (bytesV e).toArray = D := ⟨_, rfl⟩
      have HRS : Hid ((Tryd.prog.info? 38).map (·.size) = some (bytesV e).length) := Lib.hid (by rw [dg_info]; simp [hel])
      have HDS : Hid ((Tryd.prog.info? 38).map (·.size) = some D.size) := Lib.hid (by rw [dg_info, ← hD]; simp [hel])
      have HDO : Hid (D.all (·.oneCell') = true) := Lib.hid (by rw [← hD]; exact all_oneCell_toArray (bytesV_one _))
      have HDZ : Hid (Z.size = D.size) := Lib.hid (by rw [HZ.out, ← hD]; simp [hel])
      have HEL := Lib.hid hel
      have HD := Lib.hid hD
      have HRNG := Lib.hid hrng
      obtain ⟨p, hp⟩ : ∃ p, wr.heap.size = p := ⟨_, rfl⟩
      obtain ⟨Y, hY⟩ : ∃ Y, (wr.alloc (.cells Z 38)).setRow p D = Y := ⟨_, rfl⟩
      have hbY : Below wr.heap.size wr Y := by rw [← hY]; exact (new12 wr _).trans (below_row (Nat.le_of_eq hp))
      have hA : Arr Y p 38 (bytesV e) := by
        rw [← hY, ← hD, ← hp]
        exact setRow_heap _ _ _ _ _ _ (World.alloc_heap_new wr _)
      have HOWN := Lib.hid (own_later12 hv hbY)
      have HBY := Lib.hid (Kit.step hb hbY)
      have HA := Lib.hid hA
      have HP := Lib.hid hp
      have HY := Lib.hid hY
      have HNEW : Hid ((wr.alloc (.cells Z 38)).heap[p]? = some (.cells Z 38 (0, 0))) := Lib.hid (by rw [← hp]; exact World.alloc_heap_new wr _)
      clear hrng hel he hD hp hY hbY hA hv hb hb1
      go_upto_region 4 with fail
      apply wp_region_lit
      (refine wpList_plain rfl (fun K hK => ?_); go_simp; refine hK _ _ ?_; clear hK K)
      refine wpList_load_mid rfl 38 (.tmp 14) rfl b1 (off1 + k * 32) rfl (bytesV e) _ HRNG.out dg_under rfl HRS.out ?_
      rw [HD.out]
      (refine wpList_plain rfl (fun K hK => ?_); go_simp; refine hK _ _ ?_; clear hK K)
      rw [HP.out]
      refine wpList_store_row rfl 38 (.tmp 5) (.tmp 15) rfl p D rfl rfl 38 Z HNEW.out HDS.out HDZ.out HDO.out ?_
      rw [HY.out]
      have hrow := HA.out.row (by rw [HEL.out]; unfold maxLen; decide)
      rw [HEL.out] at hrow
      have HROW := Lib.hid hrow
      have hEl := HEL.out
      clear hrow
      go_upto_region 5 with fail
      go_wp2_with (at_builtin; refine append_row rfl (.tmp 16) (.tmp 17) rfl w.heap.size _ (k * 32) (ds.take k).flatten rfl HOWN.out (some ⟨p, 0, none⟩) 32 32 e rfl hEl.symm HROW.out (by omega) HBY.out.size ?_)
      intro v2 w4 hv2 hg2
      rw [← HST.out] at hv2
      have HV4 := Lib.hid hv2
      have HB4 := Lib.hid (Below.grown HBY.out hg2 HBY.out.size (fun k e => (World.ownsRow.lt HOWN.out k e).1))
      clear hv2 hg2
      go_wp2_with fail
      go_roundw
      case rel => exact ⟨k + 1, by have := HN.out; omega, by go_num, by have := HV4.out; rwa [show k * 32 + 32 = (k + 1) * 32 by omega] at this, HB4.out⟩
      case measure => simp [intOf]; omega
    · obtain rfl : k = n := by omega
      rw [List.take_of_length_le (by rw [HN.out]; exact Nat.le_refl _)] at hv
      have HRV := Lib.hid (owns_rv hv (by rw [Da.flat_len HR.out.all, HN.out]))
      have HB2 := Lib.hid hb
      clear hv hb
      go_wp2_with fail
      go_ret
      exact ⟨_, rfl, HRV.out, HB2.out⟩
theorem pbytes_any (ds : List (List UInt8)) (o : Option Addr) (n c : Nat) (hn : ds.length = n) (h5 : n ≤ 1000) (w : World) (hR : DgIs w o ds c) :
    Calls Tryd.prog 26 #[.slice o n c] w fun e w' => ∃ v, e = .returned v ∧ RowV ds.flatten v w' ∧ Below w.heap.size w w' := pbytes_of (bytesV (List.replicate 32 0)).toArray (by simp) dg_zero ds o n c hn h5 w hR
set_option maxRecDepth 100000 in
set_option maxHeartbeats 2000000 in
theorem digs_of (Z : Array Value) (hZ : Z.size = 32) (hzs : ∀ w, Sem.run Tryd.prog (zeroValue 37) w = .ok (.agg Z) w) (ds : List (List UInt8)) (o : Option Addr) (n c : Nat) (hn : ds.length = n) (h5 : n ≤ 1000) (w : World) (hR : DgIs w o ds c) :
    Calls Tryd.prog 19 #[.slice o n c] w fun e w' => ∃ o' c', e = .returned (.slice o' n c') ∧ DgIs w' o' ds c' ∧ Below w.heap.size w w' := by
  have hcl := hR.le
  have hca := hR.cap
  rw [hn] at hcl
  unfold maxLen at hca
  have HR := Lib.hid hR
  have HN := Lib.hid hn
  have HZ := Lib.hid hZ
  obtain ⟨W1, hW1⟩ : ∃ W1, w.alloc (.cells #[] 38) = W1 := ⟨_, rfl⟩
  have hb1 : Below w.heap.size w W1 := by rw [← hW1]; exact new12 _ _
  have hown : W1.ownsRow w.heap.size 38 32 (.slice (some ⟨w.heap.size, 0, none⟩) 0 0) 0 [] := own_empty (by rw [← hW1]; exact World.alloc_heap_new w _) (Nat.le_refl _)
  have HOWN := Lib.hid hown
  have HB1 := Lib.hid hb1
  have HW1 := Lib.hid hW1
  clear hR hn hZ hown hb1 hW1
  go_enter Tryd.func19, Tryd.ntmps19
  go_upto_region 2 with fail
  rw [HW1.out]
  go_wp2_with fail
  go_loopw [3, 9] (fun v iv wr => DtI ds w v iv wr) (fun _ iv _ => n - (intOf iv).toNat)
  case atStart => exact ⟨0, Nat.zero_le _, rfl, HOWN.out, HB1.out⟩
  case round =>
    obtain ⟨k, hk, rfl, hv, hb⟩ := hrel
    rw [HN.out] at hk
    by_cases hlt : k < n
    · have hk0 : (0 : Int) ≤ (k : Int) := by omega
      have hk1 : (k : Int) < (n : Int) := by omega
      obtain ⟨b1, off1, rfl, hb1, hrng⟩ := (HR.out.later hb).at_ k (by have := HN.out; omega)
      have hel := HR.out.all.at_ (i := k) (by have := HN.out; omega)
      have HST := Lib.hid (Da.take_step (ds := ds) (k := k) (by have := HN.out; omega))
      obtain ⟨e, he⟩ : ∃ e, bi ds k = e := ⟨_, rfl⟩
      rw [he] at hrng hel HST
      obtain ⟨D, hD⟩ : ∃ D, (bytesV e).toArray = D := ⟨_, rfl⟩
      have HRS : Hid ((Tryd.prog.info? 37).map (·.size) = some (bytesV e).length) := Lib.hid (by rw [d32_info]; simp [hel])
      have HDS : Hid ((Tryd.prog.info? 37).map (·.size) = some D.size) := Lib.hid (by rw [d32_info, ← hD]; simp [hel])
      have HDO : Hid (D.all (·.oneCell') = true) := Lib.hid (by rw [← hD]; exact all_oneCell_toArray (bytesV_one _))
      have HDZ : Hid (Z.size = D.size) := Lib.hid (by rw [HZ.out, ← hD]; simp [hel])
      have HEL := Lib.hid hel
      have HD := Lib.hid hD
      have HRNG := Lib.hid hrng
      obtain ⟨p, hp⟩ : ∃ p, wr.heap.size = p := ⟨_, rfl⟩
      obtain ⟨Y, hY⟩ : ∃ Y, (wr.alloc (.cells Z 37)).setRow p D = Y := ⟨_, rfl⟩
      have hbY : Below wr.heap.size wr Y := by rw [← hY]; exact (new12 wr _).trans (below_row (Nat.le_of_eq hp))
      have hA : Arr Y p 37 (bytesV e) := by
        rw [← hY, ← hD, ← hp]
        exact setRow_heap _ _ _ _ _ _ (World.alloc_heap_new wr _)
      have HOWN := Lib.hid (own_later12 hv hbY)
      have HBY := Lib.hid (Kit.step hb hbY)
      have HA := Lib.hid hA
      have HP := Lib.hid hp
      have HY := Lib.hid hY
      have HNEW : Hid ((wr.alloc (.cells Z 37)).heap[p]? = some (.cells Z 37 (0, 0))) := Lib.hid (by rw [← hp]; exact World.alloc_heap_new wr _)
      clear hrng hel he hD hp hY hbY hA hv hb hb1
      go_upto_region 4 with fail
      apply wp_region_lit
      (refine wpList_plain rfl (fun K hK => ?_); go_simp; refine hK _ _ ?_; clear hK K)
      refine wpList_load_mid rfl 37 (.tmp 11) rfl b1 (off1 + k * 32) rfl (bytesV e) _ HRNG.out d32_under rfl HRS.out ?_
      rw [HD.out]
      (refine wpList_plain rfl (fun K hK => ?_); go_simp; refine hK _ _ ?_; clear hK K)
      rw [HP.out]
      refine wpList_store_row rfl 37 (.tmp 5) (.tmp 12) rfl p D rfl rfl 37 Z HNEW.out HDS.out HDZ.out HDO.out ?_
      rw [HY.out]
      have hDs : D.size = 32 := by rw [← HD.out]; simp [HEL.out]
      have hbs := dg_slice_run (tS := 25) Tryd.underlying25 dgI_code D hDs Y
      have hba := new12 Y (.cells D 38)
      have hrow : (Y.alloc (.cells D 38)).rangeAt Y.heap.size 0 (bytesV e) := by rw [← HD.out]; exact (Arr.made Y 38 (bytesV e)).rng
      have hb3 := Kit.step HBY.out hba
      obtain ⟨g2, cap2, W3, hrun, hown3, hgr3, hat⟩ := dg_append_run (tS := 25) Tryd.underlying25 dgI_code 25 _ w.heap.size _ k _ (own_later12 HOWN.out hba) Y.heap.size e HEL.out hrow (by omega) hb3.size
      have hbw3 : Below w.heap.size w W3 := Below.grown hb3 hgr3 hb3.size (fun k e => (own_blk (own_later12 HOWN.out hba) k e).1)
      rw [← bytesV_app, ← HST.out] at hown3
      have HA2 : Hid (Y.heap[p]? = some (.cells D 37 (0, 0))) := Lib.hid (by rw [← HD.out]; exact HA.out)
      have HRUN := Lib.hid hrun
      have HBS := Lib.hid hbs
      have HO3 := Lib.hid hown3
      have HB3 := Lib.hid hbw3
      clear hbs hba hrow hb3 hrun hown3 hgr3 hat hbw3 hDs
      go_upto_region 5 with fail
      apply wp_region_lit
      (refine wpList_plain rfl (fun K hK => ?_); go_simp; refine hK _ _ ?_; clear hK K)
      refine wpList_load_row rfl 37 (.tmp 5) rfl p rfl 37 D (0, 0) _ HA2.out d32_under rfl HDS.out ?_
      refine wpList_plain rfl (fun K hK => oper_slice 25 1 _ rfl #[(0, .agg D)] (by first | rfl | simp [Act.eval, Act.put]) _ _ HBS.out (hK _ _ ?_))
      clear hK K
      refine wpList_plain rfl (fun K hK => oper_append (.tmp 13) (.tmp 15) 25 rfl _ _ rfl rfl _ _ HRUN.out (hK _ _ ?_))
      clear hK K
      go_wp2_with fail
      go_roundw
      case rel => exact ⟨k + 1, by have := HN.out; omega, by go_num, HO3.out, HB3.out⟩
      case measure => simp [intOf]; omega
    · obtain rfl : k = n := by omega
      rw [List.take_of_length_le (by rw [HN.out]; exact Nat.le_refl _)] at hv
      obtain ⟨hnn, o', c', rfl, hdg⟩ := own_dg hv HR.out.all
      clear hnn
      have HDG := Lib.hid hdg
      have HB2 := Lib.hid hb
      clear hv hb hdg
      go_wp2_with fail
      go_ret
      exact ⟨_, _, rfl, HDG.out, HB2.out⟩
theorem digs_any (ds : List (List UInt8)) (o : Option Addr) (n c : Nat) (hn : ds.length = n) (h5 : n ≤ 1000) (w : World) (hR : DgIs w o ds c) :
    Calls Tryd.prog 19 #[.slice o n c] w fun e w' => ∃ o' c', e = .returned (.slice o' n c') ∧ DgIs w' o' ds c' ∧ Below w.heap.size w w' := digs_of (bytesV (List.replicate 32 0)).toArray (by simp) d32_zero ds o n c hn h5 w hR
theorem pparse_size (b : List UInt8) (o : Option Addr) (L c : Nat) (hb : b.length = L) (hL : L ≤ 100000) (hm : L % 32 ≠ 0) (A : Nat → Addr) (w : World) (hc7 : w.cell? ⟨7, 0, none⟩ = some (.iface 137 (.pointer (some (A 7))))) :
    Calls Tryd.prog 27 #[.slice o L c] w fun e w' => e = .returned (.tuple #[.slice none 0 0, errP A 8]) ∧ Below w.heap.size w w' := by
  have hd : ((L : Int) % 32 != 0) = true := by simp; omega
  clear hm hb
  go_enter Tryd.func27, Tryd.ntmps27
  go_upto_region 2 with fail
  go_quiet (fail)
  go_wp2_with fail
  go_ret2
  first | exact ⟨rfl, Kit.dn' _ _⟩ | exact ⟨rfl, (Below.refl _ _).drew⟩ | exact ⟨rfl, by assumption⟩
theorem pparse_long (b : List UInt8) (o : Option Addr) (L c : Nat) (hb : b.length = L) (hL : L ≤ 100000) (hm : L % 32 = 0) (hl : 320 < L) (A : Nat → Addr) (w : World) (hc2 : w.cell? ⟨2, 0, none⟩ = some (.iface 137 (.pointer (some (A 2))))) :
    Calls Tryd.prog 27 #[.slice o L c] w fun e w' => e = .returned (.tuple #[.slice none 0 0, errP A 3]) ∧ Below w.heap.size w w' := by
  obtain ⟨K, rfl⟩ : ∃ K, L = K * 32 := ⟨L / 32, by omega⟩
  have hd : (((K * 32 : Nat) : Int) % 32 != 0) = false := by simp
  have hq : ((K * 32 : Nat) : Int) / 32 = (K : Int) := by omega
  have hg : decide ((K : Int) > 10) = true := decide_eq_true (by omega)
  have hg2 : decide (10 < (K : Int)) = true := decide_eq_true (by omega)
  obtain ⟨L, hLL⟩ : ∃ L, K * 32 = L := ⟨_, rfl⟩
  rw [hLL] at hd hq ⊢
  have HL : Hid (L ≤ 100000) := Lib.hid (by omega)
  have hL1 : L ≤ 100000 := HL.out
  clear hm hb hLL hl hL
  go_enter Tryd.func27, Tryd.ntmps27
  go_upto_region 5 with fail
  go_quiet (fail)
  go_wp2_with fail
  go_ret2
  first | exact ⟨rfl, Kit.dn' _ _⟩ | exact ⟨rfl, (Below.refl _ _).drew⟩ | exact ⟨rfl, by assumption⟩
theorem Da.chunks (b : List UInt8) (K : Nat) (h : b.length = K * 32) : ∃ ds : List (List UInt8), ds.length = K ∧ Da.all32 ds ∧ ds.flatten = b := by
  induction K generalizing b with
  | zero => exact ⟨[], rfl, Da.all32.nil, by simp; exact List.eq_nil_of_length_eq_zero (by omega)⟩
  | succ K ih =>
    obtain ⟨ds, h1, h2, h3⟩ := ih (b.drop 32) (by rw [List.length_drop]; omega)
    refine ⟨b.take 32 :: ds, by simp [h1], fun d hd => ?_, by rw [List.flatten_cons, h3, List.take_append_drop]⟩
    rcases List.mem_cons.1 hd with rfl | hd
    · rw [List.length_take]; omega
    · exact h2 d hd
def PsI (b : List UInt8) (K g : Nat) (w : World) (iv : Value) (wr : World) : Prop := ∃ (j : Nat) (xs : List Value), j ≤ K ∧ iv = .int .i64 (j : Int) ∧ Arr wr g 38 xs ∧ xs.length = K * 32 ∧ xs.take (j * 32) = (bytesV b).take (j * 32) ∧ Below w.heap.size w wr
set_option maxRecDepth 100000 in
set_option maxHeartbeats 2000000 in
theorem pparse_any (b : List UInt8) (o : Option Addr) (K c : Nat) (hb : b.length = K * 32) (hK : K ≤ 10) (w : World) (hR : RowIs w o (bytesV b) c) :
    Calls Tryd.prog 27 #[.slice o (K * 32) c] w fun e w' => ∃ o' c' ds, e = .returned (.tuple #[.slice o' K c', .nilIface]) ∧ ds.flatten = b ∧ ds.length = K ∧ DgIs w' o' ds c' ∧ Below w.heap.size w w' := by
  have hd : (((K * 32 : Nat) : Int) % 32 != 0) = false := by simp
  have hq : ((K * 32 : Nat) : Int) / 32 = (K : Int) := by omega
  have hg : decide ((K : Int) > 10) = false := decide_eq_false (by omega)
  have hg2 : decide (10 < (K : Int)) = false := decide_eq_false (by omega)
  have hcl := hR.le
  have hca := hR.cap
  rw [bytesV_length, hb] at hcl
  unfold maxLen at hca
  obtain ⟨L, hLL⟩ : ∃ L, K * 32 = L := ⟨_, rfl⟩
  rw [hLL] at hd hq hcl ⊢
  have HLL := Lib.hid hLL
  have hL1 : L ≤ 320 := by omega
  have HR := Lib.hid hR
  have HB := Lib.hid hb
  obtain ⟨i0, hi0, hz0, hz1, hz2⟩ := dgI_parts dgI_code
  clear hR hb hLL
  go_enter Tryd.func27, Tryd.ntmps27
  go_upto_region 6 with fail
  apply wp_region_lit
  (refine wpList_plain rfl (fun K hK => ?_); go_simp; refine hK _ _ ?_; clear hK K)
  refine wpList_make_full _ rfl (.tmp 18) (.tmp 18) 25 rfl w.heap.size 38 i0 _ 32 Tryd.underlying25 hi0 hz0 hz1 .i64 .i64 (K : Int) (K : Int) K rfl rfl rfl rfl (by rw [hz2]; omega) (by unfold maxLen; omega) (Nat.le_refl _) ?_
  intro W1 hown hgr
  have hb1 : Below w.heap.size w W1 := ⟨hgr.os, hgr.tape, hgr.output, hgr.size, fun k hk => hgr.block k hk (by simp)⟩
  obtain ⟨g, hgg⟩ : ∃ g, w.heap.size = g := ⟨_, rfl⟩
  have hA1 : ∃ xs, Arr W1 g 38 xs ∧ xs.length = K * 32 := by
    rcases hown.2 with ⟨h1, _⟩ | ⟨g', cap, cur, h1, h2, h3, h4, h5, h6, h7⟩
    · cases h1
    · cases h1
      exact ⟨cur.toList, by unfold Arr; rw [← hgg]; simpa using h3, by simpa using h6⟩
  have HA1 := Lib.hid hA1
  have HB1 := Lib.hid hb1
  have HG := Lib.hid hgg
  rw [hgg]
  clear hown hgr hb1 hA1 hgg
  go_wp2_with fail
  go_loopw [22] (fun iv wr => PsI b K g w iv wr) (fun iv _ => K - (intOf iv).toNat)
  case atStart =>
    obtain ⟨xs, h1, h2⟩ := HA1.out
    exact ⟨0, xs, Nat.zero_le _, rfl, h1, h2, by simp, HB1.out⟩
  case round =>
    obtain ⟨j, xs, hj, rfl, hA, hxl, hxt, hbl⟩ := hrel
    by_cases hlt : j < K
    · obtain ⟨J, hJ⟩ : ∃ J, j * 32 = J := ⟨_, rfl⟩
      have hmul : IntKind.i64.wrap ((j : Int) * 32) = (J : Int) := by rw [IntKind.wrap_i64]; omega
      have hmul2 : (j : Int) * 32 = (J : Int) := by omega
      have hJw : IntKind.i64.wrap (J : Int) = (J : Int) := by rw [IntKind.wrap_i64]; omega
      have hLL := HLL.out
      have hbl2 := HB.out
      obtain ⟨b1, off1, rfl, hb1, hc1⟩ := (HR.out.later hbl).cells (by rw [bytesV_length]; omega)
      obtain ⟨ch, hch⟩ : ∃ ch, (b.drop J).take 32 = ch := ⟨_, rfl⟩
      have hcl2 : ch.length = 32 := by rw [← hch, List.length_take, List.length_drop]; omega
      have hrng : wr.rangeAt b1 (off1 + J) (bytesV ch) := fun k v hv => by
        have hk : k < 32 := by
          have := (List.getElem?_eq_some_iff.1 hv).1
          rw [bytesV_length, hcl2] at this
          exact this
        have := hc1 (J + k) v (by
          rw [← hch] at hv
          unfold bytesV at hv ⊢
          rw [List.map_take, List.map_drop, List.getElem?_take_of_lt hk, List.getElem?_drop] at hv
          exact hv)
        rwa [← Nat.add_assoc] at this
      have hth := hA.there J 32 (by omega)
      have hA2 := Arr.sets (bytesV ch) J hA (by rw [bytesV_length, hcl2]; omega)
      have hgr := grown_sets (bytesV ch) J hA
      obtain ⟨Y, hY⟩ : ∃ Y, wr.setCells g J (bytesV ch) = Y := ⟨_, rfl⟩
      rw [hY] at hA2 hgr
      obtain ⟨D, hD⟩ : ∃ D, (bytesV ch).toArray = D := ⟨_, rfl⟩
      have HDS : Hid ((Tryd.prog.info? 38).map (·.size) = some (bytesV ch).length) := Lib.hid (by rw [dg_info]; simp [hcl2])
      have HDS2 : Hid ((Tryd.prog.info? 38).map (·.size) = some D.size) := Lib.hid (by rw [dg_info, ← hD]; simp [hcl2])
      have HDO : Hid (D.all (·.oneCell') = true) := Lib.hid (by rw [← hD]; exact all_oneCell_toArray (bytesV_one _))
      have HTH : Hid (wr.there g J D.size) := Lib.hid (by rw [← hD]; simpa [hcl2] using hth)
      have HFI : Hid (PsI b K g w (.int .i64 ((j + 1 : Nat) : Int)) Y) := Lib.hid ⟨j + 1, _, by omega, rfl, hA2, by rw [laid_length _ _ _ (by rw [bytesV_length, hcl2]; omega)]; exact hxl, by
        unfold laid
        rw [show (j + 1) * 32 = J + 32 by omega, bytesV_length, hcl2]
        rw [hJ] at hxt
        have e1 : (xs.take J).length = J := by rw [List.length_take]; omega
        rw [List.take_append_of_le_length (by rw [List.length_append, e1, bytesV_length, hcl2]; exact Nat.le_refl _), List.take_of_length_le (by rw [List.length_append, e1, bytesV_length, hcl2]; exact Nat.le_refl _), hxt, ← hch]
        unfold bytesV
        rw [List.map_take, List.map_drop, ← List.take_add], Below.grown hbl hgr hbl.size (fun k e => by cases e; exact Nat.le_of_eq HG.out)⟩
      have HRNG := Lib.hid hrng
      have HD := Lib.hid hD
      have HY := Lib.hid hY
      have hj0 : (0 : Int) ≤ (j : Int) := by omega
      have hj1 : (j : Int) < (K : Int) := by omega
      have hJL : J ≤ L := by omega
      have hJ32 : 32 ≤ L - J := by omega
      have hJc : ¬ c = J := by omega
      have hJc2 : J ≤ c := by omega
      have hlt2 : ¬ L < J := by omega
      have hjj : g = g := rfl
      have HJ := Lib.hid hJ
      clear hA hxl hxt hbl hb1 hc1 hch hcl2 hrng hth hA2 hgr hD hY hJ hLL hbl2 hjj
      go_upto_region 10 with fail
      apply wp_region_lit
      (refine wpList_plain rfl (fun K hK => ?_); go_simp; refine hK _ _ ?_; clear hK K)
      (refine wpList_plain rfl (fun K hK => ?_); go_simp; refine hK _ _ ?_; clear hK K)
      (refine wpList_plain rfl (fun K hK => ?_); go_simp; refine hK _ _ ?_; clear hK K)
      (refine wpList_plain rfl (fun K hK => ?_); go_simp; refine hK _ _ ?_; clear hK K)
      (refine wpList_plain rfl (fun K hK => ?_); go_simp; refine hK _ _ ?_; clear hK K)
      (refine wpList_plain rfl (fun K hK => ?_); go_simp; refine hK _ _ ?_; clear hK K)
      refine wpList_plain rfl (fun K hK => oper_exec (exec_arrayAt rfl rfl dg_under hJ32) (hK _ _ ?_))
      clear hK K
      refine wpList_load_mid rfl 38 (.tmp 31) rfl b1 (off1 + J) rfl (bytesV ch) _ HRNG.out dg_under rfl HDS.out ?_
      rw [HD.out]
      (refine wpList_plain rfl (fun K hK => ?_); go_simp; refine hK _ _ ?_; clear hK K)
      rw [HJ.out]
      refine wpList_store_midTo rfl 38 (.tmp 33) (.tmp 32) rfl rfl g J D rfl rfl HTH.out HDS2.out HDO.out ?_
      rw [← HD.out]
      rw [HY.out]
      go_wp2_with fail
      go_roundw
      case rel => exact HFI.out
      case measure => simp [intOf]; omega
    · obtain rfl : j = K := by omega
      have hxs : xs = bytesV b := by
        have h1 : xs.take (j * 32) = xs := List.take_of_length_le (by omega)
        have h2 : (bytesV b).take (j * 32) = bytesV b := List.take_of_length_le (by rw [bytesV_length]; have := HB.out; omega)
        rw [h1, h2] at hxt
        exact hxt
      subst hxs
      obtain ⟨ds, hd1, hd2, hd3⟩ := Da.chunks b j HB.out
      have hdg : DgIs wr (some ⟨g, 0, none⟩) ds j := ⟨Nat.le_of_eq hd1, by unfold maxLen; omega, (fun e => by cases e), hd2, fun h0 => ⟨g, 0, rfl, hA.lt, by rw [hd3]; exact hA.rng⟩⟩
      have HDG := Lib.hid hdg
      have HD1 := Lib.hid hd1
      have HD3 := Lib.hid hd3
      have HBL := Lib.hid hbl
      clear hA hxl hxt hbl hdg hd1 hd2 hd3
      go_wp2_with fail
      go_ret2
      exact ⟨_, _, ds, rfl, HD3.out, HD1.out, HDG.out, HBL.out⟩
end Go.Proofs.YtjcmihiajpgnjaaDoor
