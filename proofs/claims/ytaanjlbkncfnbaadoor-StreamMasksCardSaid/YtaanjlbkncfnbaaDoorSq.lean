/- The code's Mask. -/
import Derived.Test.YtaanjlbkncfnbaaDoorSm
namespace Go.Proofs.YtaanjlbkncfnbaaDoor
open Go.RowKit
set_option linter.unusedVariables false
set_option linter.unusedSimpArgs false
theorem Da.mbs_one (n : Int) (b : List UInt8) : Da.mbs n [b] = Da.mb b n := by
  unfold Da.mbs
  split
  · rename_i h; rw [h]; rfl
  · rfl
/-- what Mask answers beside its error -/
def Da.mk1 (k : List UInt8) (n : Int) (b : List UInt8) : List UInt8 := if Da.mb b n = 0 then Da.mk8 k n b else []
set_option maxRecDepth 100000 in
theorem mask_any (k : List UInt8) (o : Option Addr) (c : Nat) (n : Int) (b : List UInt8) (ob : Option Addr) (cb : Nat) (A : Nat → Addr) (w : World) (hK : RowIs w o (bytesV k) c) (hB : RowIs w ob (bytesV b) cb) (hV : Cds w) (hE : Er.E10 w A) (hl : k.length ≤ 900000) (hn1 : -9223372036854775808 ≤ n) (hn2 : n ≤ 9223372036854775807) :
    Calls Tryd.prog 10 #[.slice o k.length c, .int .i64 n, .slice ob b.length cb] w fun e w' => ∃ x, e = .returned (.tuple #[x, errV A (Da.mb b n)]) ∧ RowV (Da.mk1 k n b) x w' ∧ Below w.heap.size w w' := by
  obtain ⟨W1, hW1⟩ : ∃ W1, w.alloc (.cells #[.slice ob b.length cb] 22) = W1 := ⟨_, rfl⟩
  have hb1 : Below w.heap.size w W1 := by rw [← hW1]; exact (Below.refl _ _).alloc (Nat.le_refl _) _
  obtain ⟨g, hg⟩ : ∃ g, w.heap.size = g := ⟨_, rfl⟩
  have hr1 : RbIs W1 (some ⟨g, 0, none⟩) [b] 1 := by rw [← hW1, ← hg]; exact one_part hB
  have MS := masks_any k o c n [b] (some ⟨g, 0, none⟩) 1 A W1 (hK.later hb1) hr1 (hV.later hb1) (hE.later hb1) hl (by simp) hn1 hn2
  rw [Da.mbs_one, show ([b] : List (List UInt8)).length = 1 from rfl] at MS
  have HMS := Lib.hid MS
  have HG := Lib.hid hg
  have HW1 := Lib.hid hW1
  have HB1 := Lib.hid hb1
  clear hK hB hV hE hr1 MS hg hW1 hb1
  go_enter Tryd.func10, Tryd.ntmps10
  go_wp2_with (first | rw [HW1.out, HG.out])
  refine HMS.out.mono ?_
  rintro e W2 ⟨x, rfl, hx, hb2⟩
  have HB2 := Lib.hid (Kit.step HB1.out hb2)
  have HX := Lib.hid hx
  clear hb2 hx HMS
  by_cases h0 : Da.mb b n = 0
  · have hnn := neq_nil W2
    obtain ⟨ox, cx, rfl, hrx⟩ := HX.out
    have hlen : (Da.mkR k n [b]).length = 1 := by unfold Da.mkR; rw [if_pos (by rw [Da.mbs_one]; exact h0), Da.mkL_length]; rfl
    obtain ⟨bb, off, q, cq, rfl, _, hc, hrow⟩ := hrx.cell 0 (by omega)
    have hbi : bi (Da.mkR k n [b]) 0 = Da.mk8 k n b := by unfold Da.mkR; rw [if_pos (by rw [Da.mbs_one]; exact h0)]; rfl
    rw [hbi] at hc hrow
    rw [Nat.add_zero] at hc
    have HROW : Hid (RowV (Da.mk1 k n b) (.slice q (Da.mk8 k n b).length cq) W2) := Lib.hid (by unfold Da.mk1; rw [if_pos h0]; exact ⟨q, cq, rfl, hrow⟩)
    obtain ⟨L, hL⟩ : ∃ L, (Da.mk8 k n b).length = L := ⟨_, rfl⟩
    rw [hL] at HROW hc
    have H0 := Lib.hid h0
    rw [hlen, h0, errV_nil]
    clear hrx hrow hbi hlen h0 hL
    go_wp2_with fail
    refine bodyPost_ret (results_tmp2 rfl _ _ _) rfl ?_
    exact ⟨_, by rw [H0.out]; rfl, HROW.out, HB2.out⟩
  · obtain ⟨a1, ha1⟩ := errV_succ A _ h0
    have HR : Hid (RowV (Da.mk1 k n b) (.slice none 0 0) W2) := Lib.hid (by unfold Da.mk1; rw [if_neg h0]; exact RowV.nil _)
    have HA1 := Lib.hid ha1
    rw [ha1]
    clear ha1 h0
    go_wp2_with fail
    refine bodyPost_ret (results_tmp2 rfl _ _ _) rfl ?_
    exact ⟨_, by rw [HA1.out]; rfl, HR.out, HB2.out⟩
end Go.Proofs.YtaanjlbkncfnbaaDoor
