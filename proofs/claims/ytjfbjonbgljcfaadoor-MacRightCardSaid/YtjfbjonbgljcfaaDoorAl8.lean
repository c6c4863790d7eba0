/- The chapter's example: the mac of no bytes by no key. -/
import Derived.Test.YtjfbjonbgljcfaaDoorMe
import Derived.Test.YtjfbjonbgljcfaaDoorApa
import Derived.Lib.SmallJoins
namespace Go.Proofs.YtjfbjonbgljcfaaDoor.Da
set_option maxRecDepth 100000 in
theorem hmac_nil : (hmac [] []).take 4 = [182, 19, 103, 154] := by decide +kernel
end Go.Proofs.YtjfbjonbgljcfaaDoor.Da
namespace Go.Proofs.YtjfbjonbgljcfaaDoor
open Go.RowKit
set_option linter.unusedVariables false
set_option linter.unusedSimpArgs false
set_option maxRecDepth 100000 in
set_option maxHeartbeats 1000000 in
theorem alive8_of (Z : Array Value) (hZ : Z = (bytesV (List.replicate 32 0)).toArray) (hzs : ∀ w, Sem.run Tryd.prog (zeroValue 31) w = .ok (.agg Z) w)
    (w : World) (hV : Cds w) : Calls Tryd.prog 5 #[] w fun e w' => e = .returned (.bool true) ∧ Below w.heap.size w w' := by
  have MO := Lib.hid (mof_any [] none 0 [] none 0 w (RowIs.empty none 0 (Nat.zero_le _) (fun _ => rfl)) (RbIs.empty none 0 (Nat.zero_le _) (fun _ => rfl)) hV (by decide) (by decide) (by decide))
  obtain ⟨h, hh⟩ : ∃ h, Da.hmac [] [] = h := ⟨_, rfl⟩
  have h4 : h.take 4 = [182, 19, 103, 154] := by rw [← hh]; exact Da.hmac_nil
  have hhl : h.length = 32 := by rw [← hh]; exact Da.hmac_length _ _
  rw [show ([] : List (List UInt8)).flatten = [] from rfl, hh] at MO
  obtain ⟨D, hD⟩ : ∃ D, (bytesV h).toArray = D := ⟨_, rfl⟩
  rw [hD] at MO
  have HDS : Hid ((Tryd.prog.info? 31).map (·.size) = some D.size) := Lib.hid (by rw [dg_info, ← hD]; simp [hhl])
  have HDO : Hid (D.all (·.oneCell') = true) := Lib.hid (by rw [← hD]; exact all_oneCell_toArray (bytesV_one _))
  have HDZ : Hid (Z.size = D.size) := Lib.hid (by rw [hZ, ← hD]; simp [hhl])
  have HD := Lib.hid hD
  have HHL := Lib.hid hhl
  have H4 := Lib.hid h4
  have HV := Lib.hid hV
  clear hD hhl h4 hV hh hZ
  go_enter Tryd.func5, Tryd.ntmps5
  go_upto_region 1 with fail
  apply wp_region_lit
  (refine wpList_plain rfl (fun K hK => ?_); go_simp)
  refine MO.out.mono ?_
  rintro e W1 ⟨rfl, hb1⟩
  refine hK _ _ ?_
  clear hK K MO
  obtain ⟨W2, hW2⟩ : ∃ W2, W1.alloc (.cells Z 31) = W2 := ⟨_, rfl⟩
  obtain ⟨W3, hW3⟩ : ∃ W3, W2.setRow W1.heap.size D = W3 := ⟨_, rfl⟩
  have hA2 : Arr W2 W1.heap.size 31 Z.toList := by rw [← hW2]; exact Arr.made _ _ _
  have hA3 : Arr W3 W1.heap.size 31 (bytesV h) := by rw [← hW3, ← HD.out]; exact setRow_heap _ _ _ _ _ _ hA2
  have hb3 : Below W1.heap.size W1 W3 := by rw [← hW3, ← hW2]; exact ((Below.refl _ _).alloc (Nat.le_refl _) _).trans (below_row (Nat.le_refl _))
  have hB3 := Kit.step hb1 hb3
  have hrow := (hA3.row (by rw [HHL.out]; unfold maxLen; decide)).pre 4 (by rw [HHL.out]; decide)
  rw [HHL.out, H4.out] at hrow
  have hcv : (convert 22 9 (.slice (some ⟨W1.heap.size, 0, none⟩) 4 32)).run Tryd.prog W3 = .ok (.string ⟨#[182, 19, 103, 154]⟩) W3 :=
    run_string hrow Tryd.underlying22 Tryd.underlying5 Tryd.underlying9 32
  have MK := Lib.hid (kmake_any [] none 0 W3 (RowIs.empty none 0 (Nat.zero_le _) (fun _ => rfl)) (HV.out.later hB3) (by decide))
  have HA2 : Hid (W2.heap[W1.heap.size]? = some (.cells Z 31 (0, 0))) := Lib.hid hA2
  have HB3 := Lib.hid hB3
  have HW2 := Lib.hid hW2
  have HW3 := Lib.hid hW3
  clear hW2 hW3 hA2 hA3 hb3 hB3 hb1 hrow
  (refine wpList_plain rfl (fun K hK => ?_); go_simp; refine hK _ _ ?_; clear hK K)
  rw [HW2.out]
  refine wpList_store_row rfl 31 (.tmp 1) (.tmp 2) rfl W1.heap.size D rfl rfl 31 Z HA2.out HDS.out HDZ.out HDO.out ?_
  rw [HW3.out]
  go_wp2_with fail
  refine MK.out.mono ?_
  rintro e W4 ⟨rfl, _, hb4⟩
  have HB4 := Lib.hid (Kit.step HB3.out hb4)
  clear hb4 MK
  go_wp2_with fail
  go_ret
  exact ⟨rfl, HB4.out⟩
theorem alive8_any (w : World) (hV : Cds w) : Calls Tryd.prog 5 #[] w fun e w' => e = .returned (.bool true) ∧ Below w.heap.size w w' := alive8_of _ rfl dg_zero w hV
end Go.Proofs.YtjfbjonbgljcfaaDoor
