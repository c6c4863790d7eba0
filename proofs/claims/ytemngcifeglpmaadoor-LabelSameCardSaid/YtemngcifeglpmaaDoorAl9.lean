/- The chapter's example of labels. -/
import Derived.Test.YtemngcifeglpmaaDoorLe
namespace Go.Proofs.YtemngcifeglpmaaDoor
open Go.RowKit
set_option linter.unusedVariables false
set_option linter.unusedSimpArgs false
theorem errV_zero (A : Nat → Addr) : errV A 0 = .nilIface := rfl
set_option maxRecDepth 100000 in
set_option maxHeartbeats 1000000 in
theorem alive9_any (A : Nat → Addr) (w : World) (hV : Cds w) (hE : Er.Errs w A) : Calls Tryd.prog 5 #[] w fun e w' => e = .returned (.bool true) ∧ Below w.heap.size w w' := by
  obtain ⟨i0, hi, hz0, hz1, hz2⟩ := info_parts info_u8
  have HV := Lib.hid hV
  have HE := Lib.hid hE
  clear hV hE
  go_enter Tryd.func5, Tryd.ntmps5
  go_wp2_with (at_make; refine wpList_make_full _ rfl _ _ 22 rfl 0 5 i0 (.int .u8 0) 1 Tryd.underlying22 hi hz0 hz1 _ _ _ _ 15 rfl rfl (by omega) (by omega) (by rw [hz2]; omega) (by unfold maxLen; omega) (Nat.zero_le _) ?_)
  intro w1 hown hgrow
  have hb1 : Below w.heap.size w w1 := (Below.refl _ _).grown hgrow (Nat.le_refl _) (fun k h => by cases h)
  obtain ⟨g, hg⟩ : ∃ g, w.heap.size = g := ⟨_, rfl⟩
  rw [hg] at hown
  rw [made_bytes] at hown
  have hA1 := (arr_of_own hown).1
  have hrow := hA1.row (by rw [List.length_replicate]; unfold maxLen; decide)
  rw [List.length_replicate] at hrow
  have LK := lkey_any (List.replicate 15 0) (some ⟨g, 0, none⟩) 15 ⟨#[97]⟩ 0 A w1 hrow (HV.out.later hb1) (HE.out.later hb1).nine (by decide) (by decide)
  rw [show Da.kbad (Da.isMas (List.replicate 15 (0 : UInt8)).length) (Da.isLab (⟨#[97]⟩ : ByteArray).data.toList) (Da.inR 0) = 9 by decide, List.length_replicate] at LK
  have HLK := Lib.hid LK
  have HB1 := Lib.hid hb1
  have HG := Lib.hid hg
  clear hown hgrow hb1 hA1 hrow LK hg
  go_wp2_with (first | rw [HG.out])
  refine HLK.out.mono ?_
  rintro e w2 ⟨x2, rfl, _, hb2⟩
  have HB2 := Lib.hid (Kit.step HB1.out hb2)
  clear hb2 HLK HB1
  go_wp2_with (at_make; refine wpList_make_full _ rfl _ _ 22 rfl 0 5 i0 (.int .u8 0) 1 Tryd.underlying22 hi hz0 hz1 _ _ _ _ 16 rfl rfl (by omega) (by omega) (by rw [hz2]; omega) (by unfold maxLen; omega) (Nat.zero_le _) ?_)
  intro w3 hown hgrow
  have hb3 : Below w2.heap.size w2 w3 := (Below.refl _ _).grown hgrow (Nat.le_refl _) (fun k h => by cases h)
  obtain ⟨g2, hg2⟩ : ∃ g2, w2.heap.size = g2 := ⟨_, rfl⟩
  rw [hg2] at hown
  rw [made_bytes] at hown
  have hA3 := (arr_of_own hown).1
  have hrow := hA3.row (by rw [List.length_replicate]; unfold maxLen; decide)
  rw [List.length_replicate] at hrow
  have hB3 := Kit.step HB2.out hb3
  have LK := lkey_any (List.replicate 16 0) (some ⟨g2, 0, none⟩) 16 ⟨#[97]⟩ 0 A w3 hrow (HV.out.later hB3) (HE.out.later hB3).nine (by decide) (by decide)
  rw [show Da.kbad (Da.isMas (List.replicate 16 (0 : UInt8)).length) (Da.isLab (⟨#[97]⟩ : ByteArray).data.toList) (Da.inR 0) = 0 by decide, List.length_replicate, errV_zero] at LK
  have HLK := Lib.hid LK
  have HB3 := Lib.hid hB3
  have HG2 := Lib.hid hg2
  clear hown hgrow hb3 hB3 hA3 hrow LK hg2 HB2
  go_wp2_with (first | rw [HG2.out])
  refine HLK.out.mono ?_
  rintro e w4 ⟨x4, rfl, hr4, hb4⟩
  have HB4 := Lib.hid (Kit.step HB3.out hb4)
  have hr5 : RowV (Da.keyL (List.replicate 16 0) [97] 0) x4 w4 := hr4
  obtain ⟨o4, c4, rfl, _⟩ := hr5
  rw [Da.keyL_length]
  have NM := Lib.hid (Er.num_any A 9 (by decide) w4 (HE.out.later HB4.out))
  have hn : ∀ W, (binOp .eql 26 .nilIface .nilIface).run Tryd.prog W = .ok (.bool true) W := fun W => by kernel_rfl
  clear hr4 hb4 HLK HB3
  go_wp2_with fail
  refine NM.out.mono ?_
  rintro e w5 ⟨rfl, hb5⟩
  have HB5 := Lib.hid (Kit.step HB4.out hb5)
  clear hb5 NM HB4
  go_wp2_with fail
  go_ret
  exact ⟨rfl, HB5.out⟩
end Go.Proofs.YtemngcifeglpmaaDoor
