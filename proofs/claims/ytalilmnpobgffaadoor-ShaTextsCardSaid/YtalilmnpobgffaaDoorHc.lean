/- A chunk's words, the state behind a chunk: the code's. -/
import Derived.Test.YtalilmnpobgffaaDoorHw
import Derived.Test.YtalilmnpobgffaaDoorArr
import Derived.Test.YtalilmnpobgffaaDoorQt
import Derived.StillTailTactics
import Derived.Laws.ResultCell
import Derived.BigRegion
namespace Go.Proofs.YtalilmnpobgffaaDoor
open Go.RowKit
set_option linter.unusedVariables false
theorem w64_info : (Tryd.prog.info? 51).map (·.size) = some 64 := by kernel_rfl
theorem w64_under : Tryd.prog.underlying 51 = some (.array 64 49) := by kernel_rfl
theorem w64_zero (w : World) : Sem.run Tryd.prog (zeroValue 51) w = .ok (.agg (u32V (List.replicate 64 0)).toArray) w := by kernel_rfl
theorem b64_info : (Tryd.prog.info? 53).map (·.size) = some 64 := by kernel_rfl
theorem b64_under : Tryd.prog.underlying 53 = some (.array 64 5) := by kernel_rfl
def Sc1 (bs : List UInt8) (g : Nat) (w : World) (i : Value) (wr : World) : Prop :=
  ∃ k : Nat, k ≤ 64 ∧ i = .int .i64 k ∧ Arr wr (g + 1 + 1) 51 (u32V (Da.fw bs k)) ∧ Arr wr (g + 1) 51 zw ∧ Below w.heap.size w wr
def Sc2 (bs : List UInt8) (g : Nat) (w : World) (i : Value) (wr : World) : Prop :=
  ∃ t : Nat, 16 ≤ t ∧ t ≤ 64 ∧ i = .int .i64 (t : Int) ∧ Arr wr (g + 1 + 1) 51 (u32V (Da.sx bs (t - 16))) ∧ Arr wr (g + 1) 51 zw ∧ Below w.heap.size w wr
set_option maxRecDepth 100000 in
set_option maxHeartbeats 1000000 in
theorem schedule_of (Z : Array Value) (hZ : Z = (u32V (List.replicate 64 0)).toArray) (hzs : ∀ w, Sem.run Tryd.prog (zeroValue 51) w = .ok (.agg Z) w) (bs : List UInt8) (hb : bs.length = 64) (w : World) :
    Calls Tryd.prog 26 #[.agg (bytesV bs).toArray] w fun e w' => e = .returned (.agg (u32V (Da.sx bs 48)).toArray) ∧ Below w.heap.size w w' := by
  obtain ⟨C, hC⟩ : ∃ C, (bytesV bs).toArray = C := ⟨_, rfl⟩
  rw [hC]
  have HC := Lib.hid hC
  have HZ := Lib.hid hZ
  clear hC hZ
  obtain ⟨g, hg⟩ : ∃ g, w.heap.size = g := ⟨_, rfl⟩
  obtain ⟨w3, hw3⟩ : ∃ w3, ((w.alloc (Obj.cells C 53)).alloc (Obj.cells Z 51)).alloc (Obj.cells Z 51) = w3 := ⟨_, rfl⟩
  have hA1 : Arr (w.alloc (Obj.cells C 53)) g 53 (bytesV bs) := by rw [← HC.out, ← hg]; exact Arr.made _ _ _
  have hA2 : Arr w3 g 53 (bytesV bs) := by rw [← hw3]; exact (hA1.alloc _).alloc _
  have hs1 : (w.alloc (Obj.cells C 53)).heap.size = g + 1 := by rw [World.size_alloc, hg]
  have hs2 : ((w.alloc (Obj.cells C 53)).alloc (Obj.cells Z 51)).heap.size = g + 1 + 1 := by rw [World.size_alloc, hs1]
  have hR : Arr w3 (g + 1) 51 zw := by rw [← hw3, HZ.out, ← hs1]; exact (Arr.made _ _ _).alloc _
  have hW : Arr w3 (g + 1 + 1) 51 zw := by rw [← hw3]; rw [HZ.out] at hs2 ⊢; rw [← hs2]; exact Arr.made _ _ _
  have hB : Below w.heap.size w w3 := by
    rw [← hw3]
    exact (((Below.refl _ _).alloc (Nat.le_refl _) _).alloc (by rw [World.size_alloc]; omega) _).alloc (by rw [World.size_alloc, World.size_alloc]; omega) _
  have HL : Hid ((Tryd.prog.info? 53).map (·.size) = some C.size) := Lib.hid (by rw [b64_info, ← HC.out]; simp [hb])
  have HIN : Hid (w3.heap[g]? = some (.cells C 53 (0, 0))) := Lib.hid (by rw [← HC.out]; exact hA2)
  have HW3 := Lib.hid hw3
  have HR := Lib.hid hR
  have HW := Lib.hid hW
  have HB := Lib.hid hB
  have HG := Lib.hid hg
  clear hw3 hA1 hA2 hs1 hs2 hR hW hB
  go_enter Tryd.func26, Tryd.ntmps26
  go_wp2_with (first | rw [HW3.out] | refine wpList_load_row rfl 53 (.tmp 1) rfl g rfl 53 C (0, 0) _ HIN.out b64_under rfl HL.out ?_)
  clear HIN HZ
  go_loopw [8] (fun i wr => Sc1 bs g w i wr) (fun i _ => 64 - (intOf i).toNat)
  case atStart => exact ⟨0, Nat.zero_le _, rfl, by rw [Da.fw_zero]; exact HW.out, HR.out, HB.out⟩
  case round =>
    rename World => W1
    obtain ⟨k, hk, rfl, hW1, hR1, hB1⟩ := hrel
    by_cases hlt : k < 64
    · have hd1 : decide ((k : Int) < 64) = true := by simpa using (by omega : (k : Int) < 64)
      obtain ⟨b, hb'⟩ : ∃ b, bs.getD k 0 = b := ⟨_, rfl⟩
      have hIX : ∀ W, (Instr.index 53 (.agg C) (.int .i64 (k : Int))).run Tryd.prog W = .ok (.int .u8 (b.toNat : Int)) W := run_index_one _ _ 64 C k _ b64_under (by kernel_rfl) (fun W => by kernel_rfl) hlt (by rw [← HC.out, List.getElem?_toArray, ← hb']; exact bytesV_get bs k (by omega))
      obtain ⟨x, hx⟩ : ∃ x, Da.wi (Da.fw bs k) (k / 4) = x := ⟨_, rfl⟩
      have hce : W1.cell? ⟨g + 1 + 1, k / 4, none⟩ = some (.int .u32 (x.toNat : Int)) := by rw [hW1.cell, ← hx]; exact u32V_get _ _ (by rw [Da.fw_length]; omega)
      have hfr := hW1.frozen (k / 4)
      have HST := Lib.hid (Da.fw_step bs k hlt)
      rw [hx, hb'] at HST
      have HW1 := Lib.hid hW1
      have HR1 := Lib.hid hR1
      have HB1 := Lib.hid hB1
      have hx1 := u32_lt x
      have hb1 := UInt8.toNat_lt b
      clear hW1 hR1 hB1 hx hb'
      have HV : Hid (bits .or .u32 ((x.toNat : Int) * 256 % 4294967296) (b.toNat : Int) = ((UInt32.ofNat (x.toNat * 256) ||| UInt32.ofNat b.toNat).toNat : Int)) := Lib.hid (by
        rw [← u32_or, show ((UInt32.ofNat b.toNat).toNat : Int) = (b.toNat : Int) from by rw [UInt32.toNat_ofNat', Nat.mod_eq_of_lt (by omega)], ← u32_shl' x.toNat 8]
        rfl)
      go_wp2_with fail
      refine ⟨⟨k + 1, by omega, by go_num, ?_, ?_, ?_⟩, by simp [intOf]; omega⟩
      · rw [HV.out, ← HST.out, ← u32V_set]
        exact HW1.out.set _ _
      · exact HR1.out.ne HW1.out (by omega) _ _
      · exact HW1.out.below HB1.out (by omega) _ _
    · obtain rfl : k = 64 := by omega
      rw [show (((64 : Nat) : Int)) = 64 from rfl]
      have HW1 := Lib.hid hW1
      have HR1 := Lib.hid hR1
      have HB1 := Lib.hid hB1
      clear hW1 hR1 hB1 HW HR HB HW3 w3
      go_wp2_with fail
      go_loopw [6] (fun i wr => Sc2 bs g w i wr) (fun i _ => 64 - (intOf i).toNat)
      case atStart => exact ⟨16, Nat.le_refl _, by omega, rfl, HW1.out, HR1.out, HB1.out⟩
      case round =>
        rename World => W2
        obtain ⟨t, ht1, ht2, rfl, hW2, hR2, hB2⟩ := hrel
        by_cases hlt : t < 64
        · have hd1 : decide ((t : Int) < 64) = true := by simpa using (by omega : (t : Int) < 64)
          have hce : ∀ j, j < 64 → W2.cell? ⟨g + 1 + 1, j, none⟩ = some (.int .u32 ((Da.wi (Da.sx bs (t - 16)) j).toNat : Int)) := fun j hj => by
            rw [hW2.cell]; exact u32V_get _ _ (by rw [Da.sx_length]; omega)
          have HST : Hid ((Da.sx bs (t - 16)).set t (Da.nw (Da.sx bs (t - 16)) t) = Da.sx bs (t + 1 - 16)) := Lib.hid (by
            have := Da.sx_step bs (t - 16)
            rw [show t - 16 + 16 = t by omega] at this
            rw [this]; congr 1; omega)
          have hfr := hW2.frozen t
          have HW2 := Lib.hid hW2
          have HR2 := Lib.hid hR2
          have HB2 := Lib.hid hB2
          have c1 := hce (t - 2) (by omega)
          have c2 := hce (t - 7) (by omega)
          have c3 := hce (t - 15) (by omega)
          have c4 := hce (t - 16) (by omega)
          have c5 := hce t (by omega)
          have HNW : Hid (Da.nw (Da.sx bs (t - 16)) t = Da.add (Da.add (Da.add (Da.small (Da.wi (Da.sx bs (t - 16)) (t - 2)) 17 19 10) (Da.wi (Da.sx bs (t - 16)) (t - 7))) (Da.small (Da.wi (Da.sx bs (t - 16)) (t - 15)) 7 18 3)) (Da.wi (Da.sx bs (t - 16)) (t - 16))) := Lib.hid rfl
          generalize Da.wi (Da.sx bs (t - 16)) (t - 2) = x1 at c1 HNW
          generalize Da.wi (Da.sx bs (t - 16)) (t - 7) = x2 at c2 HNW
          generalize Da.wi (Da.sx bs (t - 16)) (t - 15) = x3 at c3 HNW
          generalize Da.wi (Da.sx bs (t - 16)) (t - 16) = x4 at c4 HNW
          have S1 : Hid (∀ n, Calls Tryd.prog 34 #[.int .u32 (x1.toNat : Int), .int .i64 17, .int .i64 19, .int .i64 10] (W2.drewN n) fun e w' => e = .returned (.int .u32 ((Da.small x1 17 19 10).toNat : Int)) ∧ ∃ m, w' = (W2.drewN n).drewN m) := Lib.hid fun n => small_any x1 17 19 10 (by omega) (by omega) (by omega) _
          have S3 : Hid (∀ n, Calls Tryd.prog 34 #[.int .u32 (x3.toNat : Int), .int .i64 7, .int .i64 18, .int .i64 3] (W2.drewN n) fun e w' => e = .returned (.int .u32 ((Da.small x3 7 18 3).toNat : Int)) ∧ ∃ m, w' = (W2.drewN n).drewN m) := Lib.hid fun n => small_any x3 7 18 3 (by omega) (by omega) (by omega) _
          generalize Da.small x1 17 19 10 = y1 at S1 HNW
          generalize Da.small x3 7 18 3 = y3 at S3 HNW
          have e1 : IntKind.i64.wrap ((t : Int) - 2) = ((t - 2 : Nat) : Int) := by rw [IntKind.wrap_i64]; omega
          have e2 : IntKind.i64.wrap ((t : Int) - 7) = ((t - 7 : Nat) : Int) := by rw [IntKind.wrap_i64]; omega
          have e3 : IntKind.i64.wrap ((t : Int) - 15) = ((t - 15 : Nat) : Int) := by rw [IntKind.wrap_i64]; omega
          have e4 : IntKind.i64.wrap ((t : Int) - 16) = ((t - 16 : Nat) : Int) := by rw [IntKind.wrap_i64]; omega
          have l1 : ((t - 2 : Nat) : Int) < 64 := by omega
          have l2 : ((t - 7 : Nat) : Int) < 64 := by omega
          have l3 : ((t - 15 : Nat) : Int) < 64 := by omega
          have l4 : ((t - 16 : Nat) : Int) < 64 := by omega
          have l5 : (t : Int) < 64 := by omega
          clear hce hW2 hR2 hB2
          go_wp2_with fail
          refine Qt.region_quiet_tail 23 (by kernel_rfl) (by kernel_rfl) ?_
          simp only [List.take_succ_cons, List.take_zero, List.drop_succ_cons, List.drop_zero]
          repeat (quiet_step ((first | with_reducible exact Calls.quiet_of (S1.out _) | with_reducible exact Calls.quiet_of (S3.out _))))
          refine wpQuiet_nil ?_
          intro _ hw'
          obtain ⟨nq, hw''⟩ := hw'
          subst hw''
          go_wp2_with fail
          go_roundw
          case rel =>
            refine ⟨t + 1, by omega, by omega, by go_num, ?_, ?_, ?_⟩
            · rw [show ((y1.toNat : Int) + x2.toNat + y3.toNat + x4.toNat) % 4294967296 = ((Da.add (Da.add (Da.add y1 x2) y3) x4).toNat : Int) from by simp only [Da.add, UInt32.toNat_add]; omega, ← HNW.out, ← HST.out, ← u32V_set]
              exact (HW2.out.drewN nq).set _ _
            · exact (HR2.out.drewN nq).ne (HW2.out.drewN nq) (by omega) _ _
            · exact (HW2.out.drewN nq).below (Kit.dn HB2.out nq) (by omega) _ _
          case measure => simp [intOf]; omega
        · obtain rfl : t = 64 := by omega
          rw [show (((64 : Nat) : Int)) = 64 from rfl]
          obtain ⟨R, hR⟩ : ∃ R, (u32V (Da.sx bs 48)).toArray = R := ⟨_, rfl⟩
          have HRS : Hid ((Tryd.prog.info? 51).map (·.size) = some R.size) := Lib.hid (by rw [w64_info, ← hR]; simp [Da.sx_length])
          have HRO : Hid (R.all (·.oneCell') = true) := Lib.hid (by rw [← hR]; exact all_oneCell_toArray (u32V_one _))
          have HRZ : Hid (zw.toArray.size = R.size) := Lib.hid (by rw [← hR]; simp [zw, Da.sx_length])
          have HL1 : Hid (W2.heap[g + 1 + 1]? = some (.cells R 51 (0, 0))) := Lib.hid (by rw [← hR]; exact hW2)
          have HL2 : Hid (W2.heap[g + 1]? = some (.cells zw.toArray 51 (0, 0))) := Lib.hid hR2
          have HGW : Hid ((W2.setRow (g + 1) R).heap[g + 1]? = some (.cells R 51 (0, 0))) := Lib.hid (setRow_heap _ _ _ _ _ _ hR2)
          have HBW : Hid (Below w.heap.size w (W2.setRow (g + 1) R)) := Lib.hid (hB2.trans (below_row (by omega)))
          have HRE := Lib.hid hR
          clear hR hW2 hR2 hB2
          go_wp2_with (first | refine wpList_load_row rfl 51 (.tmp 3) rfl (g + 1 + 1) rfl 51 R (0, 0) _ HL1.out w64_under rfl HRS.out ?_ | refine wpList_store_row rfl 51 (.tmp 2) (.tmp 51) rfl (g + 1) R rfl rfl 51 zw.toArray HL2.out HRS.out HRZ.out HRO.out ?_)
          refine bodyPost_ret (results_cell_row rfl _ _ (g + 1) 51 R (0, 0) _ rfl HGW.out w64_under rfl HRS.out) rfl ?_
          exact ⟨by rw [HRE.out], HBW.out⟩
theorem schedule_any (bs : List UInt8) (hb : bs.length = 64) (w : World) :
    Calls Tryd.prog 26 #[.agg (bytesV bs).toArray] w fun e w' => e = .returned (.agg (u32V (Da.sx bs 48)).toArray) ∧ Below w.heap.size w w' := schedule_of _ rfl w64_zero bs hb w
end Go.Proofs.YtalilmnpobgffaaDoor
