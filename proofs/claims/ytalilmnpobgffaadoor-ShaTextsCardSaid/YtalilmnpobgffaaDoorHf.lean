/- sha.Of: the code's. -/
import Derived.Test.YtalilmnpobgffaaDoorHu
import Derived.Test.YtalilmnpobgffaaDoorMt
namespace Go.Proofs.YtalilmnpobgffaaDoor
open Go.RowKit
set_option linter.unusedVariables false
set_option linter.unusedSimpArgs false
def Of1 (bs : List (List UInt8)) (g : Nat) (w : World) (i : Value) (wr : World) : Prop :=
  ∃ k : Nat, k ≤ bs.length ∧ i = .int .i64 k ∧ Hash wr (g + 1) (bs.take k).flatten ∧ Arr wr g 28 (bytesV (List.replicate 32 0)) ∧ Below w.heap.size w wr
theorem flat_step (bs : List (List UInt8)) (k : Nat) (h : k < bs.length) : (bs.take (k + 1)).flatten = (bs.take k).flatten ++ bi bs k := by
  rw [List.take_add_one, List.getElem?_eq_getElem h, List.flatten_append]
  simp [bi, h]
theorem flat_le (bs : List (List UInt8)) (k : Nat) : (bs.take k).flatten.length ≤ bs.flatten.length := by
  have : bs.flatten = (bs.take k).flatten ++ (bs.drop k).flatten := by rw [← List.flatten_append, List.take_append_drop]
  rw [this, List.length_append]; omega
set_option maxRecDepth 100000 in
set_option maxHeartbeats 1000000 in
theorem sof_of (Z : Array Value) (hZ : Z = (bytesV (List.replicate 32 0)).toArray) (hzs : ∀ w, Sem.run Tryd.prog (zeroValue 28) w = .ok (.agg Z) w) (bs : List (List UInt8)) (o : Option Addr) (c : Nat) (w : World)
    (hR : RbIs w o bs c) (hV : Cds w) (hl : bs.flatten.length ≤ 900000) (hn : bs.length ≤ 1000000) :
    Calls Tryd.prog 8 #[.slice o bs.length c] w fun e w' => e = .returned (.agg (bytesV (Da.sha bs.flatten)).toArray) ∧ Below w.heap.size w w' := by
  obtain ⟨g, hg⟩ : ∃ g, w.heap.size = g := ⟨_, rfl⟩
  obtain ⟨W1, hW1⟩ : ∃ W1, w.alloc (Obj.cells Z 28) = W1 := ⟨_, rfl⟩
  have hb1 : Below w.heap.size w W1 := by rw [← hW1]; exact (Below.refl _ _).alloc (Nat.le_refl _) _
  have hs1 : W1.heap.size = g + 1 := by rw [← hW1, World.size_alloc, hg]
  have hR1 : Arr W1 g 28 (bytesV (List.replicate 32 0)) := by rw [← hW1, hZ, ← hg]; exact Arr.made _ _ _
  have HR := Lib.hid hR
  have HV := Lib.hid hV
  have HW1 := Lib.hid hW1
  have HB1 := Lib.hid hb1
  have HR1 := Lib.hid hR1
  have HS1 := Lib.hid hs1
  have HG := Lib.hid hg
  clear hR hV hW1 hb1 hs1 hR1 hg hZ
  go_enter Tryd.func8, Tryd.ntmps8
  go_upto_region 1 with fail
  rw [HW1.out, HG.out]
  go_wp2_with fail
  refine (new_any W1).mono ?_
  rintro e W2 ⟨rfl, hh2, hb2, hs2⟩
  rw [HS1.out] at hh2 hs2 ⊢
  have HH2 := Lib.hid hh2
  have HR2 : Hid (Arr W2 g 28 (bytesV (List.replicate 32 0))) := Lib.hid (HR1.out.later hb2 HR1.out.lt)
  have HB2 : Hid (Below w.heap.size w W2) := Lib.hid (Kit.step HB1.out hb2)
  clear hh2 hb2 hs2 HW1 HB1 HR1
  go_wp2_with fail
  go_loopw [9] (fun i wr => Of1 bs g w i wr) (fun i _ => bs.length - (intOf i).toNat)
  case atStart => exact ⟨0, Nat.zero_le _, rfl, HH2.out, HR2.out, HB2.out⟩
  case round =>
    rename World => X1
    obtain ⟨k, hk, rfl, hH1, hR1, hB1⟩ := hrel
    by_cases hlt : k < bs.length
    · have hd1 : decide ((k : Int) < (bs.length : Int)) = true := by simpa using hlt
      obtain ⟨b1, off1, p1, q1, rfl, hb1, hcell, hrow⟩ := (HR.out.later hB1).cell k hlt
      have hrw := HR.out.cell k hlt
      have PU : Hid (Calls Tryd.prog 11 #[.pointer (some ⟨g + 1, 0, none⟩), .slice p1 (bi bs k).length q1] X1 fun e w' => e = .returned (.pointer (some ⟨g + 1, 0, none⟩)) ∧ Hash w' (g + 1) ((bs.take k).flatten ++ bi bs k) ∧ X1.grownBy w' (some (g + 1))) := Lib.hid (by
        have hcd := HV.out.later hB1
        refine put_any (g + 1) (bs.take k).flatten (bi bs k) p1 q1 X1 hH1 hrow (fun h0 ad e => ?_) (HV.out.ne (by have := HG.out; omega)) hcd.cubes hcd.begins ?_
        · obtain ⟨b2, off2, p2, q2, e2, hb2, hcell2, hrow2⟩ := hrw
          cases e2
          rw [hB1.cell (p := ⟨b1, off1 + k, none⟩) hb2] at hcell
          rw [hcell] at hcell2
          cases hcell2
          obtain ⟨b3, off3, e3, hb3, _⟩ := hrow2.cells (by simpa using h0)
          rw [e] at e3
          cases e3
          show b3 ≠ g + 1
          have := HG.out; omega
        · have := flat_step bs k hlt
          have h2 := flat_le bs (k + 1)
          rw [this, List.length_append] at h2
          omega)
      have HFS := Lib.hid (flat_step bs k hlt)
      have HH1 := Lib.hid hH1
      have HR1 := Lib.hid hR1
      have HB1 := Lib.hid hB1
      clear hH1 hR1 hB1 hrow hrw
      go_wp2_with fail
      refine PU.out.mono ?_
      rintro e X2 ⟨rfl, hh, hgr⟩
      have HX : Hid (Of1 bs g w (.int .i64 ((k : Int) + 1)) X2) := Lib.hid ⟨k + 1, by omega, by go_num, by rw [HFS.out]; exact hh, HR1.out.kept hgr (fun e => by cases e), below_grown HB1.out hgr (by have := HG.out; omega) HB1.out.size⟩
      clear hh hgr PU
      go_wp2_with fail
      exact ⟨HX.out, by simp [intOf]; omega⟩
    · obtain rfl : k = bs.length := by omega
      rw [List.take_length] at hH1
      have SU : Hid (Calls Tryd.prog 10 #[.pointer (some ⟨g + 1, 0, none⟩)] X1 fun e w' => e = .returned (.agg (bytesV (Da.sha bs.flatten)).toArray) ∧ Below X1.heap.size X1 w') := Lib.hid (hsum_any (g + 1) bs.flatten X1 hH1 (HV.out.later hB1) hl)
      obtain ⟨F, hF⟩ : ∃ F, (bytesV (Da.sha bs.flatten)).toArray = F := ⟨_, rfl⟩
      have HRS : Hid ((Tryd.prog.info? 28).map (·.size) = some F.size) := Lib.hid (by rw [dg_info, ← hF]; simp [Da.sha_length])
      have HRO : Hid (F.all (·.oneCell') = true) := Lib.hid (by rw [← hF]; exact all_oneCell_toArray (bytesV_one _))
      have HRZ : Hid ((bytesV (List.replicate 32 0)).toArray.size = F.size) := Lib.hid (by rw [← hF]; simp [Da.sha_length])
      rw [hF] at SU
      have HFE := Lib.hid hF
      have HR1 := Lib.hid hR1
      have HB1 := Lib.hid hB1
      clear hH1 hR1 hB1 hF
      go_wp2_with fail
      refine SU.out.mono ?_
      rintro e X2 ⟨rfl, hb⟩
      have hr2 := HR1.out.later hb HR1.out.lt
      have HL2 : Hid (X2.heap[g]? = some (.cells (bytesV (List.replicate 32 0)).toArray 28 (0, 0))) := Lib.hid hr2
      have HGW : Hid ((X2.setRow g F).heap[g]? = some (.cells F 28 (0, 0))) := Lib.hid (setRow_heap _ _ _ _ _ _ hr2)
      have HBW : Hid (Below w.heap.size w (X2.setRow g F)) := Lib.hid ((Kit.step HB1.out hb).trans (below_row (Nat.le_of_eq HG.out)))
      clear hb hr2 SU
      go_wp2_with (first | refine wpList_store_row rfl 28 (.tmp 2) (.tmp 18) rfl g F rfl rfl 28 (bytesV (List.replicate 32 0)).toArray HL2.out HRS.out HRZ.out HRO.out ?_)
      refine bodyPost_ret (results_cell_row rfl _ _ g 28 F (0, 0) _ rfl HGW.out dg_under rfl HRS.out) rfl ?_
      exact ⟨by rw [HFE.out], HBW.out⟩
theorem sof_any (bs : List (List UInt8)) (o : Option Addr) (c : Nat) (w : World) (hR : RbIs w o bs c) (hV : Cds w) (hl : bs.flatten.length ≤ 900000) (hn : bs.length ≤ 1000000) :
    Calls Tryd.prog 8 #[.slice o bs.length c] w fun e w' => e = .returned (.agg (bytesV (Da.sha bs.flatten)).toArray) ∧ Below w.heap.size w w' := sof_of _ rfl dg_zero bs o c w hR hV hl hn
end Go.Proofs.YtalilmnpobgffaaDoor
