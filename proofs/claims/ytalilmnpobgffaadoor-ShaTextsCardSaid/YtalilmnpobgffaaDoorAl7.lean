/- The chapter's example. -/
import Derived.Test.YtalilmnpobgffaaDoorHx
import Derived.Lib.SmallJoins
namespace Go.Proofs.YtalilmnpobgffaaDoor
open Go.RowKit
set_option linter.unusedVariables false
set_option linter.unusedSimpArgs false
theorem abc_hex : (⟨(hexL Da.abc).toArray⟩ : ByteArray) = ⟨#[98, 97, 55, 56, 49, 54, 98, 102, 56, 102, 48, 49, 99, 102, 101, 97, 52, 49, 52, 49, 52, 48, 100, 101, 53, 100, 97, 101, 50, 50, 50, 51, 98, 48, 48, 51, 54, 49, 97, 51, 57, 54, 49, 55, 55, 97, 57, 99, 98, 52, 49, 48, 102, 102, 54, 49, 102, 50, 48, 48, 49, 53, 97, 100]⟩ := by
  have : hexL Da.abc = [98, 97, 55, 56, 49, 54, 98, 102, 56, 102, 48, 49, 99, 102, 101, 97, 52, 49, 52, 49, 52, 48, 100, 101, 53, 100, 97, 101, 50, 50, 50, 51, 98, 48, 48, 51, 54, 49, 97, 51, 57, 54, 49, 55, 55, 97, 57, 99, 98, 52, 49, 48, 102, 102, 54, 49, 102, 50, 48, 48, 49, 53, 97, 100] := by decide +kernel
  rw [this]
theorem str_self (s : ByteArray) : (s.toList == s.toList) = true := by simp
set_option maxRecDepth 100000 in
set_option maxHeartbeats 1000000 in
theorem alive7_any (w : World) (hV : Cds w) : Calls Tryd.prog 5 #[] w fun e w' => e = .returned (.bool true) ∧ Below w.heap.size w w' := by
  obtain ⟨W1, hW1⟩ : ∃ W1, w.alloc (.cells #[.int .u8 97, .int .u8 98, .int .u8 99] 5 (3, 4)) = W1 := ⟨_, rfl⟩
  have hcv : (convert 24 24 (.slice (some ⟨w.heap.size, 0, none⟩) 3 3)).run Tryd.prog (w.alloc (.cells #[.int .u8 97, .int .u8 98, .int .u8 99] 5)) = .ok (.slice (some ⟨w.heap.size, 0, none⟩) 3 3) W1 := by
    rw [← hW1]
    exact Joins.run_convert_bytes_const_at w 24 5 #[.int .u8 97, .int .u8 98, .int .u8 99] 3 3 w.heap.size rfl Tryd.underlying24 Tryd.underlying5
  have hR1 : RowIs W1 (some ⟨w.heap.size, 0, none⟩) (bytesV [97, 98, 99]) 3 :=
    ⟨by simp, by unfold maxLen; decide, fun h => by (cases h), fun h0 => ⟨w.heap.size, 0, rfl, by rw [← hW1, World.size_alloc]; omega, fun i v hv => by
      rw [Nat.zero_add, cell_of_row W1 w.heap.size i _ _ _ (by rw [← hW1]; exact World.alloc_heap_new _ _), ← hv]
      exact List.getElem?_toArray⟩⟩
  obtain ⟨W2, hW2⟩ : ∃ W2, W1.alloc (.cells #[.slice (some ⟨w.heap.size, 0, none⟩) 3 3] 24) = W2 := ⟨_, rfl⟩
  have hb1 : Below w.heap.size w W1 := by rw [← hW1]; exact (Below.refl _ _).alloc (Nat.le_refl _) _
  have hb2 : Below W1.heap.size W1 W2 := by rw [← hW2]; exact (Below.refl _ _).alloc (Nat.le_refl _) _
  have hA2 : Arr W2 W1.heap.size 24 [.slice (some ⟨w.heap.size, 0, none⟩) 3 3] := by rw [← hW2]; exact Arr.made _ _ _
  have hR : RbIs W2 (some ⟨W1.heap.size, 0, none⟩) [[97, 98, 99]] 1 :=
    ⟨[.slice (some ⟨w.heap.size, 0, none⟩) 3 3], ⟨by simp, by unfold maxLen; decide, fun h => by (cases h), fun h0 => ⟨W1.heap.size, 0, rfl, hA2.lt, fun i v hv => by rw [Nat.zero_add, hA2.cell]; exact hv⟩⟩,
      Els.one ⟨some ⟨w.heap.size, 0, none⟩, 3, rfl, hR1.later hb2⟩⟩
  have HB : Hid (Below w.heap.size w W2) := Lib.hid (Kit.step hb1 hb2)
  have SO : Hid (Calls Tryd.prog 8 #[.slice (some ⟨W1.heap.size, 0, none⟩) 1 1] W2 fun e w' => e = .returned (.agg (bytesV Da.abc).toArray) ∧ Below W2.heap.size W2 w') := Lib.hid (by
    have := sof_any [[97, 98, 99]] (some ⟨W1.heap.size, 0, none⟩) 1 W2 hR ((hV.later hb1).later hb2) (by decide) (by decide)
    rw [show ([[97, 98, 99]] : List (List UInt8)).flatten = [97, 98, 99] from rfl, Da.abc_ok] at this
    exact this)
  have HX : Hid (∀ v, Calls Tryd.prog 14 #[.agg (bytesV Da.abc).toArray] v fun e w' => e = .returned (.string ⟨#[98, 97, 55, 56, 49, 54, 98, 102, 56, 102, 48, 49, 99, 102, 101, 97, 52, 49, 52, 49, 52, 48, 100, 101, 53, 100, 97, 101, 50, 50, 50, 51, 98, 48, 48, 51, 54, 49, 97, 51, 57, 54, 49, 55, 55, 97, 57, 99, 98, 52, 49, 48, 102, 102, 54, 49, 102, 50, 48, 48, 49, 53, 97, 100]⟩) ∧ Below v.heap.size v w') := Lib.hid fun v => by
    have := hex_any Da.abc (by decide) v
    rw [abc_hex] at this
    exact this
  obtain ⟨D, hD⟩ : ∃ D, (bytesV Da.abc).toArray = D := ⟨_, rfl⟩
  rw [hD] at SO HX
  have HW1 := Lib.hid hW1
  have HW2 := Lib.hid hW2
  have HHV := Lib.hid hV
  clear hW1 hR1 hb1 hb2 hA2 hR hV hD hW2
  go_enter Tryd.func5, Tryd.ntmps5
  go_wp2_with (first | rw [HW2.out] | (go_at_call 8; refine SO.out.mono ?_; rintro e W3 ⟨rfl, hb3⟩) | (go_at_call 14; refine (HX.out _).mono ?_; rintro e W4 ⟨rfl, hb4⟩))
  go_ret
  exact ⟨rfl, Kit.step (Kit.step HB.out hb3) hb4⟩
end Go.Proofs.YtalilmnpobgffaaDoor
