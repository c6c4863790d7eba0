/- Contracts of Add and Mul. -/
import Derived.Test.YthbmbobjalgafaaDoorFu
namespace Go.Proofs.YthbmbobjalgafaaDoor
open Go.RowKit
set_option linter.unusedVariables false
theorem mul_poly_any (p q : List UInt8) (o o2 : Option Addr) (c c2 : Nat) (w : World) (hP : RowIs w o (bytesV p) c) (hQ : RowIs w o2 (bytesV q) c2) (hl : p.length + q.length ≤ 1000000) :
    Calls Tryd.prog 14 #[.slice o p.length c, .slice o2 q.length c2] w fun e w' => ∃ g cap, e = .returned (.slice (some ⟨g, 0, none⟩) (tr (mulL p q)).length cap) ∧ w.heap.size ≤ g ∧ Below w.heap.size w w' ∧ RowIs w' (some ⟨g, 0, none⟩) (bytesV (tr (mulL p q))) cap := by
  have HP := Lib.hid hP
  have HQ := Lib.hid hQ
  clear hP hQ
  go_enter Tryd.func14, Tryd.ntmps14
  go_wp2_with fail
  refine (make_any _).mono ?_; rintro e w1 ⟨n, C, hC, rfl, hw1⟩
  have hT1 : TabAt w1 w.heap.size C := by rw [hw1]; exact TabAt.made hC
  have hb1 : Below w.heap.size w w1 := by rw [hw1]; exact made_below
  have HB1 := Lib.hid hb1
  have HM := Lib.hid (multiply_any p q o o2 c c2 w.heap.size C w1 (HP.out.later hb1) (HQ.out.later hb1) hT1 hl)
  clear hC hT1 hb1 hw1
  go_wp2_with fail
  refine HM.out.mono ?_; rintro e w2 ⟨g, cap, rfl, hg, hb, hr⟩
  have HB2 := Lib.hid (Kit.step HB1.out hb)
  have HR := Lib.hid hr
  have hg2 := HB1.out.size
  clear hb HM hr
  go_wp2_with fail
  go_ret
  exact ⟨g, cap, rfl, by omega, HB2.out, HR.out⟩
def AddAt (w0 : World) (g n : Nat) (ys q : List UInt8) (i : Value) (wr : World) : Prop :=
  ∃ k : Nat, k ≤ q.length ∧ i = .int .i64 k ∧ Buf wr g n (mix ys 0 (q.take k) 1) ∧ Only g w0 wr
set_option maxRecDepth 100000 in
set_option maxHeartbeats 1000000 in
theorem add_poly_any (p q : List UInt8) (o o2 : Option Addr) (c c2 : Nat) (w : World) (hP : RowIs w o (bytesV p) c) (hQ : RowIs w o2 (bytesV q) c2) (hl1 : p.length ≤ 1000000) (hl2 : q.length ≤ 1000000) :
    Calls Tryd.prog 13 #[.slice o p.length c, .slice o2 q.length c2] w fun e w' => ∃ g cap, e = .returned (.slice (some ⟨g, 0, none⟩) (tr (addL p q)).length cap) ∧ w.heap.size ≤ g ∧ Below w.heap.size w w' ∧ RowIs w' (some ⟨g, 0, none⟩) (bytesV (tr (addL p q))) cap := by
  obtain ⟨i0, hi, hz0, hz1, hz2⟩ := info_parts info_u8
  have h1 := hP.le
  have h2 := hP.cap
  have h3 := hQ.le
  have h4 := hQ.cap
  simp only [bytesV_length] at h1 h3
  unfold maxLen at h2 h4
  have HP := Lib.hid hP
  have HQ := Lib.hid hQ
  clear hP hQ
  have HPOS : Hid (∀ w1, Below w.heap.size w w1 → 0 < (bytesV p).length → ∃ ad, o = some ad ∧ ∀ j v, (bytesV p)[j]? = some v → w1.cell? (ad.add j) = some v) := Lib.hid fun w1 hb h0 => by
    have hr := HP.out.later hb
    obtain ⟨b, off, rfl, _, _⟩ := hr.cells h0
    exact ⟨_, rfl, hr.adds _ rfl⟩
  by_cases hpq : p.length < q.length
  · have hpi : (p.length : Int) < q.length := by omega
    go_enter Tryd.func13, Tryd.ntmps13
    go_wp2_with (at_make; go_loud (refine wpList_make_full _ rfl _ _ 22 rfl 0 5 i0 (.int .u8 0) 1 Tryd.underlying22 hi hz0 hz1 _ _ _ _ q.length rfl rfl (by omega) (by omega) (by rw [hz2]; omega) (by unfold maxLen; omega) (Nat.zero_le _) ?_))
    intro w1 hown hgrow
    have hb1 : Below w.heap.size w w1 := (Below.refl _ _).grown hgrow (Nat.le_refl _) (fun k h => by cases h)
    have hfull : Full w1 w.heap.size (List.replicate q.length 0) := (buf_made hown).full (by simp)
    have hP1 := HP.out.later hb1
    have hQ1 := HQ.out.later hb1
    have HB1 := Lib.hid hb1
    have HF1 := Lib.hid hfull
    have HP1 := Lib.hid hP1
    have HQ1 := Lib.hid hQ1
    clear hown hgrow hb1 hfull hP1 hQ1
    go_wp2_with (refine wpList_copy_splice rfl (.tmp 14) (.tmp 15) 22 22 rfl 5 Tryd.underlying22 (by rw [hi]; simp [hz1]) _ _ _ _ _ _ rfl rfl w.heap.size 0 (bytesV (List.replicate q.length 0)) 5 HF1.out (bytesV p) (by simp only [bytesV_length]; exact (Nat.min_eq_left (by omega)).symm) (fun h0 => ⟨rfl, HPOS.out _ HB1.out h0⟩) (by rw [bytesV_length, bytesV_length, List.length_replicate]; omega) (bytesV_one p) w.heap.size w HB1.out (Nat.le_refl _) ?_)
    intro w2 hfull2 hb2
    have hbuf : Buf w2 w.heap.size q.length (splice (List.replicate q.length 0) 0 p) := by
      have h : Full w2 w.heap.size (splice (List.replicate q.length 0) 0 p) := by unfold Full; rw [← splice_bytes]; exact hfull2
      have hl : (splice (List.replicate q.length (0 : UInt8)) 0 p).length = q.length := by rw [length_splice _ _ _ (by simp only [List.length_replicate]; omega)]; simp
      have := h.buf (by rw [hl]; unfold maxLen; omega)
      rw [hl] at this
      exact this
    have hmixl : (splice (List.replicate q.length (0 : UInt8)) 0 p).length = q.length := by rw [length_splice _ _ _ (by simp only [List.length_replicate]; omega)]; simp
    have hQ2 := HQ.out.later hb2
    obtain ⟨ys, hys⟩ : ∃ ys, splice (List.replicate q.length (0 : UInt8)) 0 p = ys := ⟨_, rfl⟩
    rw [hys] at hbuf hmixl
    have HAP := Lib.hid (HQ.out.apart (g := w.heap.size) (Nat.le_refl _))
    have HYS := Lib.hid hys
    have HBUF := Lib.hid hbuf
    have HQ2 := Lib.hid hQ2
    have HB2 := Lib.hid hb2
    clear hfull2 hb2 hbuf hQ2 hys
    go_wp2_with fail
    go_loopw [6, 7, 19] (fun _ _ i wr => AddAt w2 w.heap.size q.length ys q i wr) (fun _ _ i _ => q.length - (intOf i).toNat)
    case atStart => exact ⟨0, Nat.zero_le _, rfl, by rw [mix_zero]; exact HBUF.out, Only.refl _ _⟩
    case round =>
      obtain ⟨k, hk, rfl, hb, ho⟩ := hrel
      by_cases hlt : k < q.length
      · obtain ⟨b1, off1, rfl, hb1, hcell⟩ := (ho.row HQ2.out HAP.out).cells (by simp; omega)
        have hc1 : wr.cell? ⟨b1, off1 + k, none⟩ = some (.int .u8 ((co q k).toNat : Int)) := hcell k _ (bytesV_get q k hlt)
        have hc2 := hb.cell (0 + k) (by simp; omega)
        have hf2 := hb.frozen (0 + k)
        have HMX := Lib.hid (mix_step ys 0 q 1 k hlt (by omega))
        rw [Gf.gm_one] at HMX
        have hst := hb.store (0 + k) (co (mix ys 0 (q.take k) 1) (0 + k) ^^^ co q k)
        rw [Nat.zero_add] at HMX hc2 hf2 hst
        rw [HMX.out] at hst
        generalize co (mix ys 0 (q.take k) 1) k = s at *
        generalize co q k = x at *
        have hx := UInt8.toNat_lt x
        have hs := UInt8.toNat_lt s
        have AC : Hid (∀ v : World, Calls Tryd.prog 26 #[.int .u8 (s.toNat : Int), .int .u8 (x.toNat : Int)] v fun e w' => e = .returned (.int .u8 ((s ^^^ x).toNat : Int)) ∧ w' = v) := Lib.hid fun v => add_u8 s x v
        generalize s ^^^ x = r at *
        have HS := Lib.hid hst
        have HO := Lib.hid ho
        have hki : (k : Int) < q.length := by omega
        clear hcell hb ho hst HMX
        go_wp2_with (go_at_call 26; refine (AC.out _).mono ?_; rintro e w' ⟨rfl, rfl⟩)
        go_roundw
        case rel => exact ⟨k + 1, by omega, by go_num, HS.out.1, HO.out.trans HS.out.2⟩
        case measure => simp [intOf]; omega
      · obtain rfl : k = q.length := by omega
        have hall : q.take q.length = q := List.take_length
        rw [hall] at hb
        have e3 : tr (mix ys 0 q 1) = tr (addL p q) := tr_congr fun i => by
          rw [co_addL]
          by_cases hi2 : i < q.length
          · rw [co_mix _ _ _ _ _ (by omega), ← HYS.out, co_splice _ _ _ _ (by simp only [List.length_replicate]; omega), zeros_co]
            unfold Gf.ps
            rw [if_pos (Nat.zero_le _)]
            dsimp only
            rw [Gf.gm_one, Nat.sub_zero]
            congr 1
            split
            · rfl
            · exact (co_ge (by omega)).symm
          · rw [co_ge (by simp; omega), co_ge (by omega), co_ge (by omega)]; rfl
        have hcut := cut_any _ _ _ wr hb.row
        rw [mix_length, hmixl, e3] at hcut
        have HCUT := Lib.hid hcut
        have HBW : Hid (Below w.heap.size w wr) := Lib.hid (HB2.out.trans (ho.below (Nat.le_refl _) HB2.out.size))
        clear hcut e3 hall hb ho
        go_wp2_with fail
        refine HCUT.out.mono ?_; rintro e w3 ⟨rfl, hb3, hr3⟩
        have HB3 := Lib.hid (Kit.step HBW.out hb3)
        have HR3 := Lib.hid hr3
        clear hb3 hr3 HCUT
        go_wp2_with fail
        go_ret
        exact ⟨w.heap.size, q.length, rfl, Nat.le_refl _, HB3.out, HR3.out⟩
  · have hpi : ¬ (p.length : Int) < q.length := by omega
    go_enter Tryd.func13, Tryd.ntmps13
    go_wp2_with (at_make; go_loud (refine wpList_make_full _ rfl _ _ 22 rfl 0 5 i0 (.int .u8 0) 1 Tryd.underlying22 hi hz0 hz1 _ _ _ _ p.length rfl rfl (by omega) (by omega) (by rw [hz2]; omega) (by unfold maxLen; omega) (Nat.zero_le _) ?_))
    intro w1 hown hgrow
    have hb1 : Below w.heap.size w w1 := (Below.refl _ _).grown hgrow (Nat.le_refl _) (fun k h => by cases h)
    have hfull : Full w1 w.heap.size (List.replicate p.length 0) := (buf_made hown).full (by simp)
    have hP1 := HP.out.later hb1
    have hQ1 := HQ.out.later hb1
    have HB1 := Lib.hid hb1
    have HF1 := Lib.hid hfull
    have HP1 := Lib.hid hP1
    have HQ1 := Lib.hid hQ1
    clear hown hgrow hb1 hfull hP1 hQ1
    go_wp2_with (refine wpList_copy_splice rfl (.tmp 14) (.tmp 15) 22 22 rfl 5 Tryd.underlying22 (by rw [hi]; simp [hz1]) _ _ _ _ _ _ rfl rfl w.heap.size 0 (bytesV (List.replicate p.length 0)) 5 HF1.out (bytesV p) (by simp only [bytesV_length]; exact (Nat.min_eq_left (by omega)).symm) (fun h0 => ⟨rfl, HPOS.out _ HB1.out h0⟩) (by rw [bytesV_length, bytesV_length, List.length_replicate]; omega) (bytesV_one p) w.heap.size w HB1.out (Nat.le_refl _) ?_)
    intro w2 hfull2 hb2
    have hbuf : Buf w2 w.heap.size p.length (splice (List.replicate p.length 0) 0 p) := by
      have h : Full w2 w.heap.size (splice (List.replicate p.length 0) 0 p) := by unfold Full; rw [← splice_bytes]; exact hfull2
      have hl : (splice (List.replicate p.length (0 : UInt8)) 0 p).length = p.length := by rw [length_splice _ _ _ (by simp only [List.length_replicate]; omega)]; simp
      have := h.buf (by rw [hl]; unfold maxLen; omega)
      rw [hl] at this
      exact this
    have hmixl : (splice (List.replicate p.length (0 : UInt8)) 0 p).length = p.length := by rw [length_splice _ _ _ (by simp only [List.length_replicate]; omega)]; simp
    have hQ2 := HQ.out.later hb2
    obtain ⟨ys, hys⟩ : ∃ ys, splice (List.replicate p.length (0 : UInt8)) 0 p = ys := ⟨_, rfl⟩
    rw [hys] at hbuf hmixl
    have HAP := Lib.hid (HQ.out.apart (g := w.heap.size) (Nat.le_refl _))
    have HYS := Lib.hid hys
    have HBUF := Lib.hid hbuf
    have HQ2 := Lib.hid hQ2
    have HB2 := Lib.hid hb2
    clear hfull2 hb2 hbuf hQ2 hys
    go_wp2_with fail
    go_loopw [6, 7, 19] (fun _ _ i wr => AddAt w2 w.heap.size p.length ys q i wr) (fun _ _ i _ => q.length - (intOf i).toNat)
    case atStart => exact ⟨0, Nat.zero_le _, rfl, by rw [mix_zero]; exact HBUF.out, Only.refl _ _⟩
    case round =>
      obtain ⟨k, hk, rfl, hb, ho⟩ := hrel
      by_cases hlt : k < q.length
      · obtain ⟨b1, off1, rfl, hb1, hcell⟩ := (ho.row HQ2.out HAP.out).cells (by simp; omega)
        have hc1 : wr.cell? ⟨b1, off1 + k, none⟩ = some (.int .u8 ((co q k).toNat : Int)) := hcell k _ (bytesV_get q k hlt)
        have hc2 := hb.cell (0 + k) (by simp; omega)
        have hf2 := hb.frozen (0 + k)
        have HMX := Lib.hid (mix_step ys 0 q 1 k hlt (by omega))
        rw [Gf.gm_one] at HMX
        have hst := hb.store (0 + k) (co (mix ys 0 (q.take k) 1) (0 + k) ^^^ co q k)
        rw [Nat.zero_add] at HMX hc2 hf2 hst
        rw [HMX.out] at hst
        generalize co (mix ys 0 (q.take k) 1) k = s at *
        generalize co q k = x at *
        have hx := UInt8.toNat_lt x
        have hs := UInt8.toNat_lt s
        have AC : Hid (∀ v : World, Calls Tryd.prog 26 #[.int .u8 (s.toNat : Int), .int .u8 (x.toNat : Int)] v fun e w' => e = .returned (.int .u8 ((s ^^^ x).toNat : Int)) ∧ w' = v) := Lib.hid fun v => add_u8 s x v
        generalize s ^^^ x = r at *
        have HS := Lib.hid hst
        have HO := Lib.hid ho
        have hki : (k : Int) < p.length := by omega
        clear hcell hb ho hst HMX
        go_wp2_with (go_at_call 26; refine (AC.out _).mono ?_; rintro e w' ⟨rfl, rfl⟩)
        go_roundw
        case rel => exact ⟨k + 1, by omega, by go_num, HS.out.1, HO.out.trans HS.out.2⟩
        case measure => simp [intOf]; omega
      · obtain rfl : k = q.length := by omega
        have hall : q.take q.length = q := List.take_length
        rw [hall] at hb
        have e3 : tr (mix ys 0 q 1) = tr (addL p q) := tr_congr fun i => by
          rw [co_addL]
          by_cases hi2 : i < p.length
          · rw [co_mix _ _ _ _ _ (by omega), ← HYS.out, co_splice _ _ _ _ (by simp only [List.length_replicate]; omega), zeros_co]
            unfold Gf.ps
            rw [if_pos (Nat.zero_le _)]
            dsimp only
            rw [Gf.gm_one, Nat.sub_zero]
            congr 1
            split
            · rfl
            · exact (co_ge (by omega)).symm
          · rw [co_ge (by simp; omega), co_ge (by omega), co_ge (by omega)]; rfl
        have hcut := cut_any _ _ _ wr hb.row
        rw [mix_length, hmixl, e3] at hcut
        have HCUT := Lib.hid hcut
        have HBW : Hid (Below w.heap.size w wr) := Lib.hid (HB2.out.trans (ho.below (Nat.le_refl _) HB2.out.size))
        clear hcut e3 hall hb ho
        go_wp2_with fail
        refine HCUT.out.mono ?_; rintro e w3 ⟨rfl, hb3, hr3⟩
        have HB3 := Lib.hid (Kit.step HBW.out hb3)
        have HR3 := Lib.hid hr3
        clear hb3 hr3 HCUT
        go_wp2_with fail
        go_ret
        exact ⟨w.heap.size, p.length, rfl, Nat.le_refl _, HB3.out, HR3.out⟩
end Go.Proofs.YthbmbobjalgafaaDoor
