/- A path's bytes, and back; digests of arrays. -/
import Derived.Test.YtfccpfmgkpcnoaaDoorPkx
namespace Go.Proofs.YtfccpfmgkpcnoaaDoor
open Go.RowKit
set_option linter.unusedVariables false
set_option linter.unusedSimpArgs false
theorem oper_exec {P : Program} {o : Oper} {a : Act} {w : World} {K : Act → World → Prop} {Q : Exit → Act → World → Prop} {v : Value} (h : (execOp a.eval o).run P w = .ok (.value v) w) (hk : K (a.put o.dst v) w) : o.wp P a w K Q := by
  unfold Oper.wp
  rw [h]
  exact hk
theorem exec_arrayAt {P : Program} {o : Oper} {a : Act} {w : World} {T e : TypeId} {x : Operand} {n L c : Nat} {ad : Option Addr} (ho : o.op = .sliceToArrayPointer T x) (hx : a.eval x = .slice ad L c) (hu : P.underlying T = some (.array n e)) (hn : n ≤ L) :
    (execOp a.eval o).run P w = .ok (.value (.pointer ad)) w := by
  unfold execOp
  simp only [ho, hx, Instr.arrayAt, Sem.run_bind, run_underlying hu, Result.andThen_ok]
  rw [if_neg (Nat.not_lt.2 hn)]
  simp [go_sem]
theorem own_empty {W : World} {base g sz : Nat} {T : TypeId} (hg : W.heap[g]? = some (.cells #[] T (0, 0))) (hb : base ≤ g) : W.ownsRow base T sz (.slice (some ⟨g, 0, none⟩) 0 0) 0 [] :=
  ⟨by simp, .inr ⟨g, 0, #[], rfl, hb, hg, Nat.le_refl _, by unfold maxLen; decide, by simp, by simp⟩⟩
theorem Da.take_step {ds : List (List UInt8)} {k : Nat} (h : k < ds.length) : (ds.take (k + 1)).flatten = (ds.take k).flatten ++ bi ds k := flat_step ds k h
def BtI (ds : List (List UInt8)) (w : World) (v iv : Value) (wr : World) : Prop := ∃ k : Nat, k ≤ ds.length ∧ iv = .int .i64 (k : Int) ∧ wr.ownsRow w.heap.size 5 1 v (k * 32) (bytesV (ds.take k).flatten) ∧ Below w.heap.size w wr
def DtI (ds : List (List UInt8)) (w : World) (v iv : Value) (wr : World) : Prop := ∃ k : Nat, k ≤ ds.length ∧ iv = .int .i64 (k : Int) ∧ wr.ownsRow w.heap.size 41 32 v k (bytesV (ds.take k).flatten) ∧ Below w.heap.size w wr
set_option maxRecDepth 100000 in
set_option maxHeartbeats 2000000 in
theorem digs_of (Z : Array Value) (hZ : Z.size = 32) (hzs : ∀ w, Sem.run Tryd.prog (zeroValue 40) w = .ok (.agg Z) w) (ds : List (List UInt8)) (o : Option Addr) (n c : Nat) (hn : ds.length = n) (h5 : n ≤ 1000) (w : World) (hR : DgIs w o ds c) :
    Calls Tryd.prog 21 #[.slice o n c] w fun e w' => ∃ o' c', e = .returned (.slice o' n c') ∧ DgIs w' o' ds c' ∧ Below w.heap.size w w' := by
  have hcl := hR.le
  have hca := hR.cap
  rw [hn] at hcl
  unfold maxLen at hca
  have HR := Lib.hid hR
  have HN := Lib.hid hn
  have HZ := Lib.hid hZ
  obtain ⟨W1, hW1⟩ : ∃ W1, w.alloc (.cells #[] 41) = W1 := ⟨_, rfl⟩
  have hb1 : Below w.heap.size w W1 := by rw [← hW1]; exact new12 _ _
  have hown : W1.ownsRow w.heap.size 41 32 (.slice (some ⟨w.heap.size, 0, none⟩) 0 0) 0 [] := own_empty (by rw [← hW1]; exact World.alloc_heap_new w _) (Nat.le_refl _)
  have HOWN := Lib.hid hown
  have HB1 := Lib.hid hb1
  have HW1 := Lib.hid hW1
  clear hR hn hZ hown hb1 hW1
  go_enter Tryd.func21, Tryd.ntmps21
  go_upto_region 2 with fail
  rw [HW1.out]
  go_wp2_with fail
  go_loopw [3, 9] (fun v iv wr => DtI ds w v iv wr) (fun _ iv _ => n - (intOf iv).toNat)
  case atStart => exact ⟨0, Nat.zero_le _, rfl, HOWN.out, HB1.out⟩
  case round =>
    obtain ⟨k, hk, rfl, hv, hb⟩ := hrel
    rw [HN.out] at hk
    by_cases hlt : k < n
    · have hk0 : (0 : Int) ≤ (k : Int) := by omega
      have hk1 : (k : Int) < (n : Int) := by omega
      obtain ⟨b1, off1, rfl, hb1, hrng⟩ := (HR.out.later hb).at_ k (by have := HN.out; omega)
      have hel := HR.out.all.at_ (i := k) (by have := HN.out; omega)
      have HST := Lib.hid (Da.take_step (ds := ds) (k := k) (by have := HN.out; omega))
      obtain ⟨e, he⟩ : ∃ e, bi ds k = e := ⟨_, rfl⟩
      rw [he] at hrng hel HST
      obtain ⟨D, hD⟩ : ∃ D, (bytesV e).toArray = D := ⟨_, rfl⟩
      have HRS : Hid ((Tryd.prog.info? 40).map (·.size) = some (bytesV e).length) := Lib.hid (by rw [d32_info]; simp [hel])
      have HDS : Hid ((Tryd.prog.info? 40).map (·.size) = some D.size) := Lib.hid (by rw [d32_info, ← hD]; simp [hel])
      have HDO : Hid (D.all (·.oneCell') = true) := Lib.hid (by rw [← hD]; exact all_oneCell_toArray (bytesV_one _))
      have HDZ : Hid (Z.size = D.size) := Lib.hid (by rw [HZ.out, ← hD]; simp [hel])
      have HEL := Lib.hid hel
      have HD := Lib.hid hD
      have HRNG := Lib.hid hrng
      obtain ⟨p, hp⟩ : ∃ p, wr.heap.size = p := ⟨_, rfl⟩
      obtain ⟨Y, hY⟩ : ∃ Y, (wr.alloc (.cells Z 40)).setRow p D = Y := ⟨_, rfl⟩
      have hbY : Below wr.heap.size wr Y := by rw [← hY]; exact (new12 wr _).trans (below_row (Nat.le_of_eq hp))
      have hA : Arr Y p 40 (bytesV e) := by
        rw [← hY, ← hD, ← hp]
        exact setRow_heap _ _ _ _ _ _ (World.alloc_heap_new wr _)
      have HOWN := Lib.hid (own_later12 hv hbY)
      have HBY := Lib.hid (Kit.step hb hbY)
      have HA := Lib.hid hA
      have HP := Lib.hid hp
      have HY := Lib.hid hY
      have HNEW : Hid ((wr.alloc (.cells Z 40)).heap[p]? = some (.cells Z 40 (0, 0))) := Lib.hid (by rw [← hp]; exact World.alloc_heap_new wr _)
      clear hrng hel he hD hp hY hbY hA hv hb hb1
      go_upto_region 4 with fail
      apply wp_region_lit
      (refine wpList_plain rfl (fun K hK => ?_); go_simp; refine hK _ _ ?_; clear hK K)
      refine wpList_load_mid rfl 40 (.tmp 11) rfl b1 (off1 + k * 32) rfl (bytesV e) _ HRNG.out d32_under rfl HRS.out ?_
      rw [HD.out]
      (refine wpList_plain rfl (fun K hK => ?_); go_simp; refine hK _ _ ?_; clear hK K)
      rw [HP.out]
      refine wpList_store_row rfl 40 (.tmp 5) (.tmp 12) rfl p D rfl rfl 40 Z HNEW.out HDS.out HDZ.out HDO.out ?_
      rw [HY.out]
      have hDs : D.size = 32 := by rw [← HD.out]; simp [HEL.out]
      have hbs := dg_slice_run (tS := 32) Tryd.underlying32 dgI_code D hDs Y
      have hba := new12 Y (.cells D 41)
      have hrow : (Y.alloc (.cells D 41)).rangeAt Y.heap.size 0 (bytesV e) := by rw [← HD.out]; exact (Arr.made Y 41 (bytesV e)).rng
      have hb3 := Kit.step HBY.out hba
      obtain ⟨g2, cap2, W3, hrun, hown3, hgr3, hat⟩ := dg_append_run (tS := 32) Tryd.underlying32 dgI_code 32 _ w.heap.size _ k _ (own_later12 HOWN.out hba) Y.heap.size e HEL.out hrow (by omega) hb3.size
      have hbw3 : Below w.heap.size w W3 := Below.grown hb3 hgr3 hb3.size (fun k e => (own_blk (own_later12 HOWN.out hba) k e).1)
      rw [← bytesV_app, ← HST.out] at hown3
      have HA2 : Hid (Y.heap[p]? = some (.cells D 40 (0, 0))) := Lib.hid (by rw [← HD.out]; exact HA.out)
      have HRUN := Lib.hid hrun
      have HBS := Lib.hid hbs
      have HO3 := Lib.hid hown3
      have HB3 := Lib.hid hbw3
      clear hbs hba hrow hb3 hrun hown3 hgr3 hat hbw3 hDs
      go_upto_region 5 with fail
      apply wp_region_lit
      (refine wpList_plain rfl (fun K hK => ?_); go_simp; refine hK _ _ ?_; clear hK K)
      refine wpList_load_row rfl 40 (.tmp 5) rfl p rfl 40 D (0, 0) _ HA2.out d32_under rfl HDS.out ?_
      refine wpList_plain rfl (fun K hK => oper_slice 32 1 _ rfl #[(0, .agg D)] (by first | rfl | simp [Act.eval, Act.put]) _ _ HBS.out (hK _ _ ?_))
      clear hK K
      refine wpList_plain rfl (fun K hK => oper_append (.tmp 13) (.tmp 15) 32 rfl _ _ rfl rfl _ _ HRUN.out (hK _ _ ?_))
      clear hK K
      go_wp2_with fail
      go_roundw
      case rel => exact ⟨k + 1, by have := HN.out; omega, by go_num, HO3.out, HB3.out⟩
      case measure => simp [intOf]; omega
    · obtain rfl : k = n := by omega
      rw [List.take_of_length_le (by rw [HN.out]; exact Nat.le_refl _)] at hv
      obtain ⟨hnn, o', c', rfl, hdg⟩ := own_dg hv HR.out.all
      clear hnn
      have HDG := Lib.hid hdg
      have HB2 := Lib.hid hb
      clear hv hb hdg
      go_wp2_with fail
      go_ret
      exact ⟨_, _, rfl, HDG.out, HB2.out⟩
theorem digs_any (ds : List (List UInt8)) (o : Option Addr) (n c : Nat) (hn : ds.length = n) (h5 : n ≤ 1000) (w : World) (hR : DgIs w o ds c) :
    Calls Tryd.prog 21 #[.slice o n c] w fun e w' => ∃ o' c', e = .returned (.slice o' n c') ∧ DgIs w' o' ds c' ∧ Below w.heap.size w w' := digs_of (bytesV (List.replicate 32 0)).toArray (by simp) d32_zero ds o n c hn h5 w hR
theorem Da.chunks (b : List UInt8) (K : Nat) (h : b.length = K * 32) : ∃ ds : List (List UInt8), ds.length = K ∧ Da.all32 ds ∧ ds.flatten = b := by
  induction K generalizing b with
  | zero => exact ⟨[], rfl, Da.all32.nil, by simp; exact List.eq_nil_of_length_eq_zero (by omega)⟩
  | succ K ih =>
    obtain ⟨ds, h1, h2, h3⟩ := ih (b.drop 32) (by rw [List.length_drop]; omega)
    refine ⟨b.take 32 :: ds, by simp [h1], fun d hd => ?_, by rw [List.flatten_cons, h3, List.take_append_drop]⟩
    rcases List.mem_cons.1 hd with rfl | hd
    · rw [List.length_take]; omega
    · exact h2 d hd
def PsI (b : List UInt8) (K g : Nat) (w : World) (iv : Value) (wr : World) : Prop := ∃ (j : Nat) (xs : List Value), j ≤ K ∧ iv = .int .i64 (j : Int) ∧ Arr wr g 41 xs ∧ xs.length = K * 32 ∧ xs.take (j * 32) = (bytesV b).take (j * 32) ∧ Below w.heap.size w wr
end Go.Proofs.YtfccpfmgkpcnoaaDoor
