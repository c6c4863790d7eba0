/- The chapter's example. -/
import Derived.Test.YtjcmihiajpgnjaaDoorPh13
namespace Go.Proofs.YtjcmihiajpgnjaaDoor
open Go.RowKit
set_option linter.unusedVariables false
set_option linter.unusedSimpArgs false
theorem Da.ups10 : Da.ups 1 0 = [] := Da.ups_one 0 (by omega)
theorem Da.ups20 : (Da.ups 2 0).length = 1 := by
  have h : Da.spl 2 = 1 := by decide +kernel
  rw [Da.ups_left (by omega) (by rw [h]; omega), h, Da.ups10]; rfl
theorem eql_nil13 (v : World) : (binOp .eql 27 .nilIface .nilIface).run Tryd.prog v = .ok (.bool true) v := by kernel_rfl
set_option maxHeartbeats 2000000 in
theorem alive13_any (w : World) (hV : Cds w) : Calls Tryd.prog 8 #[] w fun e w' => e = .returned (.bool true) ∧ Below w.heap.size w w' := by
  have hr1 := zrow12 1 w
  have hb1 := new12 w (.cells #[.int .u8 1] 5)
  obtain ⟨W1, hW1⟩ : ∃ W1, w.alloc (.cells #[.int .u8 1] 5) = W1 := ⟨_, rfl⟩
  rw [show (((1 : UInt8).toNat : Int)) = 1 from rfl, hW1] at hr1
  rw [hW1] at hb1
  have hp1 := one_part hr1
  have hb2 := new12 W1 (.cells #[.slice (some ⟨w.heap.size, 0, none⟩) 1 1] 40)
  rw [show ([1] : List UInt8).length = 1 from rfl] at hp1
  obtain ⟨W2, hW2⟩ : ∃ W2, W1.alloc (.cells #[.slice (some ⟨w.heap.size, 0, none⟩) 1 1] 40) = W2 := ⟨_, rfl⟩
  rw [hW2] at hp1 hb2
  have hB2 := Kit.step hb1 hb2
  have MK := pmake_any [[1]] _ 1 1 0 rfl W2 hp1 (hV.later hB2) (by omega) (by omega) (fun i h => by
    have : i = 0 := by simpa using h
    subst this
    simp [bi])
  rw [Da.ups10, List.length_nil] at MK
  have HMK := Lib.hid MK
  have HW1 := Lib.hid hW1
  have HW2 := Lib.hid hW2
  have HB2 := Lib.hid hB2
  have HV := Lib.hid hV
  have he := eql_nil13
  clear hr1 hb1 hW1 hp1 hb2 hW2 MK hB2 hV
  go_enter Tryd.func8, Tryd.ntmps8
  go_upto_region 1 with fail
  apply wp_region_lit
  (refine wpList_plain rfl (fun K hK => ?_); go_simp; refine hK _ _ ?_; clear hK K)
  rw [HW1.out]
  (refine wpList_plain rfl (fun K hK => ?_); go_simp; refine hK _ _ ?_; clear hK K)
  rw [HW2.out]
  (refine wpList_plain rfl (fun K hK => ?_); go_simp)
  refine HMK.out.mono ?_
  rintro e W3 ⟨o3, c3, rfl, hdg3, hb3⟩
  refine hK _ _ ?_
  have hB3 := Kit.step HB2.out hb3
  have HB3 := Lib.hid hB3
  have hr4 := zrow12 1 W3
  have hb4 := new12 W3 (.cells #[.int .u8 1] 5)
  obtain ⟨W4, hW4⟩ : ∃ W4, W3.alloc (.cells #[.int .u8 1] 5) = W4 := ⟨_, rfl⟩
  rw [show (((1 : UInt8).toNat : Int)) = 1 from rfl, hW4] at hr4
  rw [hW4] at hb4
  have hr5 := zrow12 2 W4
  have hb5 := new12 W4 (.cells #[.int .u8 2] 5)
  obtain ⟨W5, hW5⟩ : ∃ W5, W4.alloc (.cells #[.int .u8 2] 5) = W5 := ⟨_, rfl⟩
  rw [show (((2 : UInt8).toNat : Int)) = 2 from rfl, hW5] at hr5
  rw [hW5] at hb5
  have hp5 := two_parts (hr4.later hb5) hr5
  rw [show ([1] : List UInt8).length = 1 from rfl, show ([2] : List UInt8).length = 1 from rfl] at hp5
  have hb6 := new12 W5 (.cells #[.slice (some ⟨W3.heap.size, 0, none⟩) 1 1, .slice (some ⟨W4.heap.size, 0, none⟩) 1 1] 40)
  obtain ⟨W6, hW6⟩ : ∃ W6, W5.alloc (.cells #[.slice (some ⟨W3.heap.size, 0, none⟩) 1 1, .slice (some ⟨W4.heap.size, 0, none⟩) 1 1] 40) = W6 := ⟨_, rfl⟩
  rw [hW6] at hp5 hb6
  have hB6 := Kit.step (Kit.step (Kit.step HB3.out hb4) hb5) hb6
  have MK2 := pmake_any [[1], [2]] _ 2 2 0 rfl W6 hp5 (HV.out.later hB6) (by omega) (by omega) (fun i h => by
    have : i = 0 ∨ i = 1 := by simp at h; omega
    rcases this with rfl | rfl <;> simp [bi])
  rw [Da.ups20] at MK2
  have PL := plen_any 2 0 (by omega) (by omega)
  rw [Da.ups20] at PL
  have HPL := Lib.hid PL
  have HMK2 := Lib.hid MK2
  have HW4 := Lib.hid hW4
  have HW5 := Lib.hid hW5
  have HW6 := Lib.hid hW6
  have HB6 := Lib.hid hB6
  clear hK K hdg3 hb3 hB3 hr4 hb4 hW4 hr5 hb5 hW5 hp5 hb6 hW6 hB6 MK2 PL HMK HW1 HW2
  go_upto_region 2 with fail
  apply wp_region_lit
  (refine wpList_plain rfl (fun K hK => ?_); go_simp; refine hK _ _ ?_; clear hK K)
  rw [HW4.out]
  (refine wpList_plain rfl (fun K hK => ?_); go_simp; refine hK _ _ ?_; clear hK K)
  rw [HW5.out]
  (refine wpList_plain rfl (fun K hK => ?_); go_simp; refine hK _ _ ?_; clear hK K)
  rw [HW6.out]
  (refine wpList_plain rfl (fun K hK => ?_); go_simp)
  refine HMK2.out.mono ?_
  rintro e W7 ⟨o7, c7, rfl, hdg7, hb7⟩
  refine hK _ _ ?_
  clear hK K
  have HB7 := Lib.hid (Kit.step HB6.out hb7)
  have HPL7 := Lib.hid (HPL.out W7)
  clear hb7 hdg7 HMK2 HPL
  go_wp2_with fail
  refine HPL7.out.mono ?_
  rintro e W8 ⟨rfl, hb8⟩
  have HB8 := Lib.hid (Kit.step HB7.out hb8)
  clear hb8
  go_wp2_with fail
  go_ret
  exact ⟨rfl, HB8.out⟩
end Go.Proofs.YtjcmihiajpgnjaaDoor
