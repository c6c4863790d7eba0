/- Contracts of Scale and Low. Contract of Shift. -/
import Derived.Test.YtgifbpjmblemhaaDoorRr
import Derived.Test.YtgifbpjmblemhaaDoorApw
namespace Go.Proofs.YtgifbpjmblemhaaDoor
open Go.RowKit
set_option linter.unusedVariables false
set_option linter.unusedSimpArgs false
theorem mix_scale (p : List UInt8) (a : UInt8) : mix (List.replicate p.length 0) 0 p a = scaleL p a := by
  refine list_ext (by simp [scaleL]) fun i hi => ?_
  rw [co_mix _ _ _ _ _ (by simpa using hi), co_scaleL, zeros_co, UInt8.zero_xor]
  unfold Gf.ps
  rw [if_pos (Nat.zero_le _), Nat.sub_zero]
theorem scale_mul (p : List UInt8) (a : UInt8) : tr (scaleL p a) = tr (mulL p [a]) := tr_congr fun k => by
  rw [co_scaleL, co_mulL']
  show _ = Gf.sm _ k ^^^ Gf.gm (co p k) (co [a] (k - k))
  rw [Gf.sm_zero, UInt8.zero_xor, Nat.sub_self]
  · rfl
  · intro i hi
    rw [co_ge (z := [a]) (by simp; omega), Gf.gm_zero]
/-- how many coefficients Low leaves -/
def lowN (n : Int) (len : Nat) : Nat := if n < 0 then 0 else if (len : Int) < n then len else n.toNat
theorem lowN_le (n : Int) (len : Nat) : lowN n len ≤ len := by
  unfold lowN
  split
  · omega
  · split <;> omega
theorem low_any (p : List UInt8) (n : Int) (o : Option Addr) (c : Nat) (w : World) (hP : RowIs w o (bytesV p) c) (hl : p.length ≤ 1000000) :
    Calls Tryd.prog 78 #[.slice o p.length c, .int .i64 n] w (Rows (tr (p.take (lowN n p.length))) w) := by
  have h1 := hP.le
  have h2 := hP.cap
  simp only [bytesV_length] at h1
  unfold maxLen at h2
  have hlow := lowN_le n p.length
  have hlen : (p.take (lowN n p.length)).length = lowN n p.length := by simp; omega
  have hcal := trim_any (p.take (lowN n p.length)) o c w (hP.take _) (by omega)
  rw [hlen] at hcal
  have HCAL := Lib.hid hcal
  clear hP hcal hlen
  by_cases hn : n < 0
  · have e : lowN n p.length = 0 := by unfold lowN; rw [if_pos hn]
    rw [e] at HCAL ⊢
    clear e hlow
    go_enter Tryd.func78, Tryd.ntmps78
    go_wp2_with fail
    refine HCAL.out.mono ?_; rintro e w1 ⟨x, rfl, hr, hb⟩
    have HR := Lib.hid hr
    have HB := Lib.hid hb
    clear hr hb HCAL
    go_wp2_with fail
    go_ret
    exact ⟨x, rfl, HR.out, HB.out⟩
  · by_cases hm : (p.length : Int) < n
    · have e : lowN n p.length = p.length := by unfold lowN; rw [if_neg hn, if_pos hm]
      rw [e] at HCAL ⊢
      have hn0 : ¬ (0 : Int) > n := by omega
      have hn2 : ¬ n < 0 := hn
      clear e hlow
      go_enter Tryd.func78, Tryd.ntmps78
      go_wp2_with fail
      refine HCAL.out.mono ?_; rintro e w1 ⟨x, rfl, hr, hb⟩
      have HR := Lib.hid hr
      have HB := Lib.hid hb
      clear hr hb HCAL
      go_wp2_with fail
      go_ret
      exact ⟨x, rfl, HR.out, HB.out⟩
    · obtain ⟨k, rfl⟩ := Int.eq_ofNat_of_zero_le (show 0 ≤ n by omega)
      have e : lowN (k : Int) p.length = k := by unfold lowN; rw [if_neg hn, if_neg hm]; rfl
      rw [e] at HCAL ⊢
      have hk : k ≤ p.length := by omega
      clear e hlow hn
      go_enter Tryd.func78, Tryd.ntmps78
      go_wp2_with fail
      refine HCAL.out.mono ?_; rintro e w1 ⟨x, rfl, hr, hb⟩
      have HR := Lib.hid hr
      have HB := Lib.hid hb
      clear hr hb HCAL
      go_wp2_with fail
      go_ret
      exact ⟨x, rfl, HR.out, HB.out⟩
end Go.Proofs.YtgifbpjmblemhaaDoor
namespace Go.Proofs.YtgifbpjmblemhaaDoor
open Go.RowKit
set_option linter.unusedVariables false
set_option linter.unusedSimpArgs false
/-- by how much Shift shifts -/
def shN (n : Int) : Nat := if n < 0 then 0 else if 1000 < n then 1000 else n.toNat
theorem shift_tr (p : List UInt8) (k m : Nat) (hm : m = k + p.length) : tr (splice (List.replicate m 0) k p) = tr (shiftL p k) := tr_congr fun i => by
  rw [co_splice _ _ _ _ (by simp; omega), co_shiftL, zeros_co]
  unfold Gf.ps
  by_cases h : k ≤ i
  · rw [if_pos h]
    by_cases h2 : i < k + p.length
    · rw [if_pos ⟨h, h2⟩]
    · rw [if_neg (fun g => h2 g.2), co_ge (by omega)]
  · rw [if_neg h, if_neg (fun g => h g.1)]
set_option maxRecDepth 100000 in
set_option maxHeartbeats 1000000 in
theorem shift_some (n : Int) (o : Option Addr) (c : Nat) (w : World) (p : List UInt8) (hP : RowIs w o (bytesV p) c) (hl : p.length ≤ 1000000) (hp0 : ¬ p.length = 0) :
    Calls Tryd.prog 53 #[.slice o p.length c, .int .i64 n] w (Rows (tr (shiftL p (shN n))) w) := by
  obtain ⟨i0, hi, hz0, hz1, hz2⟩ := info_parts info_u8
  have h1 := hP.le
  have h2 := hP.cap
  simp only [bytesV_length] at h1
  unfold maxLen at h2
  have HP := Lib.hid hP
  have HPOS : Hid (∀ w1, Below w.heap.size w w1 → 0 < (bytesV p).length → ∃ ad, o = some ad ∧ ∀ j v, (bytesV p)[j]? = some v → w1.cell? (ad.add j) = some v) := Lib.hid fun w1 hb h0 => by
    have hr := HP.out.later hb
    obtain ⟨b, off, rfl, _, _⟩ := hr.cells h0
    exact ⟨_, rfl, hr.adds _ rfl⟩
  clear hP
  by_cases hn : n < 0
  · have e : shN n = 0 := by unfold shN; rw [if_pos hn]
    rw [e]
    clear e
    go_enter Tryd.func53, Tryd.ntmps53
    go_wp2_with (at_make; refine wpList_make_full _ rfl _ _ 22 rfl 0 5 i0 (.int .u8 0) 1 Tryd.underlying22 hi hz0 hz1 _ _ _ _ (p.length) rfl rfl (by omega) (by omega) (by rw [hz2]; omega) (by unfold maxLen; omega) (Nat.zero_le _) ?_)
    intro w1 hown hgrow
    have hb1 : Below w.heap.size w w1 := (Below.refl _ _).grown hgrow (Nat.le_refl _) (fun k h => by cases h)
    have HB1 := Lib.hid hb1
    have HF1 := Lib.hid ((buf_made hown).full (by simp) : Full w1 w.heap.size (List.replicate (p.length) 0))
    clear hown hgrow hb1
    go_wp2_with (refine wpList_copy_splice rfl (.tmp 16) (.tmp 17) 22 22 rfl 5 Tryd.underlying22 (by rw [hi]; simp [hz1]) _ _ _ _ _ _ rfl rfl w.heap.size 0 (bytesV (List.replicate (p.length) 0)) 5 HF1.out (bytesV p) (by simp only [bytesV_length]; exact (Nat.min_eq_left (by omega)).symm) (fun h0 => ⟨rfl, HPOS.out _ HB1.out h0⟩) (by rw [bytesV_length, bytesV_length, List.length_replicate]; omega) (bytesV_one p) w.heap.size w HB1.out (Nat.le_refl _) ?_)
    intro w2 hfull2 hb2
    have hl : (splice (List.replicate (p.length) (0 : UInt8)) 0 p).length = p.length := by rw [length_splice _ _ _ (by simp only [List.length_replicate]; omega)]; simp
    have hbuf : Buf w2 w.heap.size (p.length) (splice (List.replicate (p.length) 0) 0 p) := by
      have h : Full w2 w.heap.size (splice (List.replicate (p.length) 0) 0 p) := by unfold Full; rw [← splice_bytes]; exact hfull2
      have := h.buf (by rw [hl]; unfold maxLen; omega)
      rw [hl] at this
      exact this
    have hcut := cut_any _ _ _ w2 hbuf.row
    rw [hl, shift_tr _ _ _ (by omega)] at hcut
    have HB2 := Lib.hid hb2
    clear hfull2 hb2 hbuf hl
    have HCUT := Lib.hid hcut
    clear hcut
    go_wp2_with fail
    refine HCUT.out.mono ?_; rintro e w3 ⟨rfl, hb3, hr3⟩
    have HB3 := Lib.hid (Kit.step HB2.out hb3)
    have HR3 := Lib.hid hr3
    clear hb3 hr3 HCUT
    go_wp2_with fail
    go_ret
    exact ⟨_, rfl, ⟨_, _, rfl, HR3.out⟩, HB3.out⟩
  · by_cases hm : 1000 < n
    · have e : shN n = 1000 := by unfold shN; rw [if_neg hn, if_pos hm]
      rw [e]
      clear e
      have hn0 : ¬ (0 : Int) > n := by omega
      go_enter Tryd.func53, Tryd.ntmps53
      go_wp2_with (at_make; refine wpList_make_full _ rfl _ _ 22 rfl 0 5 i0 (.int .u8 0) 1 Tryd.underlying22 hi hz0 hz1 _ _ _ _ (1000 + p.length) rfl rfl (by omega) (by omega) (by rw [hz2]; omega) (by unfold maxLen; omega) (Nat.zero_le _) ?_)
      intro w1 hown hgrow
      have hb1 : Below w.heap.size w w1 := (Below.refl _ _).grown hgrow (Nat.le_refl _) (fun k h => by cases h)
      have HB1 := Lib.hid hb1
      have HF1 := Lib.hid ((buf_made hown).full (by simp) : Full w1 w.heap.size (List.replicate (1000 + p.length) 0))
      clear hown hgrow hb1
      go_wp2_with (refine wpList_copy_splice rfl (.tmp 16) (.tmp 17) 22 22 rfl 5 Tryd.underlying22 (by rw [hi]; simp [hz1]) _ _ _ _ _ _ rfl rfl w.heap.size 1000 (bytesV (List.replicate (1000 + p.length) 0)) 5 HF1.out (bytesV p) (by simp only [bytesV_length]; exact (Nat.min_eq_left (by omega)).symm) (fun h0 => ⟨rfl, HPOS.out _ HB1.out h0⟩) (by rw [bytesV_length, bytesV_length, List.length_replicate]; omega) (bytesV_one p) w.heap.size w HB1.out (Nat.le_refl _) ?_)
      intro w2 hfull2 hb2
      have hl : (splice (List.replicate (1000 + p.length) (0 : UInt8)) 1000 p).length = 1000 + p.length := by rw [length_splice _ _ _ (by simp only [List.length_replicate]; omega)]; simp
      have hbuf : Buf w2 w.heap.size (1000 + p.length) (splice (List.replicate (1000 + p.length) 0) 1000 p) := by
        have h : Full w2 w.heap.size (splice (List.replicate (1000 + p.length) 0) 1000 p) := by unfold Full; rw [← splice_bytes]; exact hfull2
        have := h.buf (by rw [hl]; unfold maxLen; omega)
        rw [hl] at this
        exact this
      have hcut := cut_any _ _ _ w2 hbuf.row
      rw [hl, shift_tr _ _ _ (by omega)] at hcut
      have HB2 := Lib.hid hb2
      clear hfull2 hb2 hbuf hl
      have HCUT := Lib.hid hcut
      clear hcut
      go_wp2_with fail
      refine HCUT.out.mono ?_; rintro e w3 ⟨rfl, hb3, hr3⟩
      have HB3 := Lib.hid (Kit.step HB2.out hb3)
      have HR3 := Lib.hid hr3
      clear hb3 hr3 HCUT
      go_wp2_with fail
      go_ret
      exact ⟨_, rfl, ⟨_, _, rfl, HR3.out⟩, HB3.out⟩
    · obtain ⟨k, rfl⟩ := Int.eq_ofNat_of_zero_le (show 0 ≤ n by omega)
      have e : shN (k : Int) = k := by unfold shN; rw [if_neg hn, if_neg hm]; rfl
      rw [e]
      have hk : k ≤ 1000 := by omega
      clear e hn
      go_enter Tryd.func53, Tryd.ntmps53
      go_wp2_with (at_make; refine wpList_make_full _ rfl _ _ 22 rfl 0 5 i0 (.int .u8 0) 1 Tryd.underlying22 hi hz0 hz1 _ _ _ _ (k + p.length) rfl rfl (by omega) (by omega) (by rw [hz2]; omega) (by unfold maxLen; omega) (Nat.zero_le _) ?_)
      intro w1 hown hgrow
      have hb1 : Below w.heap.size w w1 := (Below.refl _ _).grown hgrow (Nat.le_refl _) (fun k h => by cases h)
      have HB1 := Lib.hid hb1
      have HF1 := Lib.hid ((buf_made hown).full (by simp) : Full w1 w.heap.size (List.replicate (k + p.length) 0))
      clear hown hgrow hb1
      go_wp2_with (refine wpList_copy_splice rfl (.tmp 16) (.tmp 17) 22 22 rfl 5 Tryd.underlying22 (by rw [hi]; simp [hz1]) _ _ _ _ _ _ rfl rfl w.heap.size k (bytesV (List.replicate (k + p.length) 0)) 5 HF1.out (bytesV p) (by simp only [bytesV_length]; exact (Nat.min_eq_left (by omega)).symm) (fun h0 => ⟨rfl, HPOS.out _ HB1.out h0⟩) (by rw [bytesV_length, bytesV_length, List.length_replicate]; omega) (bytesV_one p) w.heap.size w HB1.out (Nat.le_refl _) ?_)
      intro w2 hfull2 hb2
      have hl : (splice (List.replicate (k + p.length) (0 : UInt8)) k p).length = k + p.length := by rw [length_splice _ _ _ (by simp only [List.length_replicate]; omega)]; simp
      have hbuf : Buf w2 w.heap.size (k + p.length) (splice (List.replicate (k + p.length) 0) k p) := by
        have h : Full w2 w.heap.size (splice (List.replicate (k + p.length) 0) k p) := by unfold Full; rw [← splice_bytes]; exact hfull2
        have := h.buf (by rw [hl]; unfold maxLen; omega)
        rw [hl] at this
        exact this
      have hcut := cut_any _ _ _ w2 hbuf.row
      rw [hl, shift_tr _ _ _ (by omega)] at hcut
      have HB2 := Lib.hid hb2
      clear hfull2 hb2 hbuf hl
      have HCUT := Lib.hid hcut
      clear hcut
      go_wp2_with fail
      refine HCUT.out.mono ?_; rintro e w3 ⟨rfl, hb3, hr3⟩
      have HB3 := Lib.hid (Kit.step HB2.out hb3)
      have HR3 := Lib.hid hr3
      clear hb3 hr3 HCUT
      go_wp2_with fail
      go_ret
      exact ⟨_, rfl, ⟨_, _, rfl, HR3.out⟩, HB3.out⟩
set_option maxRecDepth 100000 in
set_option maxHeartbeats 1000000 in
theorem shift_none (n : Int) (o : Option Addr) (c : Nat) (w : World) (h2 : c ≤ 9223372036854775807) :
    Calls Tryd.prog 53 #[.slice o 0 c, .int .i64 n] w (Rows (tr (shiftL [] (shN n))) w) := by
  obtain ⟨i0, hi, hz0, hz1, hz2⟩ := info_parts info_u8
  by_cases hn : n < 0
  · have e : shN n = 0 := by unfold shN; rw [if_pos hn]
    rw [e]
    clear e
    go_enter Tryd.func53, Tryd.ntmps53
    go_wp2_with (at_make; refine wpList_make_full _ rfl _ _ 22 rfl 0 5 i0 (.int .u8 0) 1 Tryd.underlying22 hi hz0 hz1 _ _ _ _ (0) rfl rfl (by omega) (by omega) (by rw [hz2]; omega) (by unfold maxLen; omega) (Nat.zero_le _) ?_)
    intro w1 hown hgrow
    have hb1 : Below w.heap.size w w1 := (Below.refl _ _).grown hgrow (Nat.le_refl _) (fun k h => by cases h)
    have HB1 := Lib.hid hb1
    have hbuf := buf_made hown
    have hcut := cut_any _ _ _ w1 hbuf.row
    rw [List.length_replicate, show List.replicate (0) (0 : UInt8) = shiftL [] (0) by simp [shiftL]] at hcut
    have HB2 := Lib.hid hb1
    clear hown hgrow hb1 hbuf
    go_wp2_with (refine wpList_copy_nothing rfl (.tmp 16) (.tmp 17) 22 22 rfl 5 Tryd.underlying22 (by rw [hi]; simp [hz1]) _ _ _ _ _ _ rfl rfl rfl ?_)
    have HCUT := Lib.hid hcut
    clear hcut
    go_wp2_with fail
    refine HCUT.out.mono ?_; rintro e w3 ⟨rfl, hb3, hr3⟩
    have HB3 := Lib.hid (Kit.step HB2.out hb3)
    have HR3 := Lib.hid hr3
    clear hb3 hr3 HCUT
    go_wp2_with fail
    go_ret
    exact ⟨_, rfl, ⟨_, _, rfl, HR3.out⟩, HB3.out⟩
  · by_cases hm : 1000 < n
    · have e : shN n = 1000 := by unfold shN; rw [if_neg hn, if_pos hm]
      rw [e]
      clear e
      have hn0 : ¬ (0 : Int) > n := by omega
      go_enter Tryd.func53, Tryd.ntmps53
      go_wp2_with (at_make; refine wpList_make_full _ rfl _ _ 22 rfl 0 5 i0 (.int .u8 0) 1 Tryd.underlying22 hi hz0 hz1 _ _ _ _ (1000) rfl rfl (by omega) (by omega) (by rw [hz2]; omega) (by unfold maxLen; omega) (Nat.zero_le _) ?_)
      intro w1 hown hgrow
      have hb1 : Below w.heap.size w w1 := (Below.refl _ _).grown hgrow (Nat.le_refl _) (fun k h => by cases h)
      have HB1 := Lib.hid hb1
      have hbuf := buf_made hown
      have hcut := cut_any _ _ _ w1 hbuf.row
      rw [List.length_replicate, show List.replicate (1000) (0 : UInt8) = shiftL [] (1000) by simp [shiftL]] at hcut
      have HB2 := Lib.hid hb1
      clear hown hgrow hb1 hbuf
      go_wp2_with (refine wpList_copy_nothing rfl (.tmp 16) (.tmp 17) 22 22 rfl 5 Tryd.underlying22 (by rw [hi]; simp [hz1]) _ _ _ _ _ _ rfl rfl rfl ?_)
      have HCUT := Lib.hid hcut
      clear hcut
      go_wp2_with fail
      refine HCUT.out.mono ?_; rintro e w3 ⟨rfl, hb3, hr3⟩
      have HB3 := Lib.hid (Kit.step HB2.out hb3)
      have HR3 := Lib.hid hr3
      clear hb3 hr3 HCUT
      go_wp2_with fail
      go_ret
      exact ⟨_, rfl, ⟨_, _, rfl, HR3.out⟩, HB3.out⟩
    · obtain ⟨k, rfl⟩ := Int.eq_ofNat_of_zero_le (show 0 ≤ n by omega)
      have e : shN (k : Int) = k := by unfold shN; rw [if_neg hn, if_neg hm]; rfl
      rw [e]
      have hk : k ≤ 1000 := by omega
      clear e hn
      go_enter Tryd.func53, Tryd.ntmps53
      go_wp2_with (at_make; refine wpList_make_full _ rfl _ _ 22 rfl 0 5 i0 (.int .u8 0) 1 Tryd.underlying22 hi hz0 hz1 _ _ _ _ (k) rfl rfl (by omega) (by omega) (by rw [hz2]; omega) (by unfold maxLen; omega) (Nat.zero_le _) ?_)
      intro w1 hown hgrow
      have hb1 : Below w.heap.size w w1 := (Below.refl _ _).grown hgrow (Nat.le_refl _) (fun k h => by cases h)
      have HB1 := Lib.hid hb1
      have hbuf := buf_made hown
      have hcut := cut_any _ _ _ w1 hbuf.row
      rw [List.length_replicate, show List.replicate (k) (0 : UInt8) = shiftL [] (k) by simp [shiftL]] at hcut
      have HB2 := Lib.hid hb1
      clear hown hgrow hb1 hbuf
      go_wp2_with (refine wpList_copy_nothing rfl (.tmp 16) (.tmp 17) 22 22 rfl 5 Tryd.underlying22 (by rw [hi]; simp [hz1]) _ _ _ _ _ _ rfl rfl rfl ?_)
      have HCUT := Lib.hid hcut
      clear hcut
      go_wp2_with fail
      refine HCUT.out.mono ?_; rintro e w3 ⟨rfl, hb3, hr3⟩
      have HB3 := Lib.hid (Kit.step HB2.out hb3)
      have HR3 := Lib.hid hr3
      clear hb3 hr3 HCUT
      go_wp2_with fail
      go_ret
      exact ⟨_, rfl, ⟨_, _, rfl, HR3.out⟩, HB3.out⟩
theorem shift_any (p : List UInt8) (n : Int) (o : Option Addr) (c : Nat) (w : World) (hP : RowIs w o (bytesV p) c) (hl : p.length ≤ 1000000) :
    Calls Tryd.prog 53 #[.slice o p.length c, .int .i64 n] w (Rows (tr (shiftL p (shN n))) w) := by
  by_cases h0 : p.length = 0
  · obtain rfl : p = [] := List.eq_nil_of_length_eq_zero h0
    exact shift_none n o c w (by have := hP.cap; unfold maxLen at this; omega)
  · exact shift_some n o c w p hP hl h0
end Go.Proofs.YtgifbpjmblemhaaDoor
