/- Ints, SameInts, KeptInts. -/
import Derived.Test.YtgchfijeiggimaaGreatDoorDf
import Derived.Test.YtgchfijeiggimaaGreatDoorSl
namespace Go.Proofs.YtgchfijeiggimaaGreatDoor
open Go.ChangeShapes Go.WideShapes Go.ChangeAt Go.RowKit
set_option linter.unusedVariables false
set_option linter.unusedSimpArgs false
def marksI : List Int := [-91, -92, -93, -94]
def MarkedI (W : World) (B : Nat) (z : List Int) : Prop := W.heap[B]? = some (.cells (intsV (z ++ marksI)).toArray 3 (0, 0))
theorem MarkedI.later {W W' : World} {B : Nat} {z : List Int} (h : MarkedI W B z) (hb : Below W.heap.size W W') : MarkedI W' B z := by
  unfold MarkedI at *
  rw [hb.block B (Array.getElem?_eq_some_iff.1 h).1]; exact h
theorem MarkedI.cell {W : World} {B : Nat} {z : List Int} (h : MarkedI W B z) (i : Nat) : W.cell? ⟨B, i, none⟩ = (intsV (z ++ marksI))[i]? := by
  rw [cell_of_row _ _ i _ _ _ h]
  simp
theorem MarkedI.row {W : World} {B : Nat} {z : List Int} (h : MarkedI W B z) (hl : z.length ≤ 1000) : RowIs W (some ⟨B, 0, none⟩) (intsV z) (z.length + 4) :=
  ⟨by simp, by unfold maxLen; omega, fun h => (by cases h), fun h0 => ⟨B, 0, rfl, (Array.getElem?_eq_some_iff.1 h).1, fun i v hv => by
    rw [Nat.zero_add, h.cell]
    have hi := (List.getElem?_eq_some_iff.1 hv).1
    unfold intsV at *
    rw [List.map_append, List.getElem?_append_left hi]; exact hv⟩⟩
def IntsEnd (w : World) (z : List Int) (e : Ending) (w' : World) : Prop :=
  ∃ B, e = .returned (.slice (some ⟨B, 0, none⟩) z.length (z.length + 4)) ∧ Below w.heap.size w w' ∧ w.heap.size ≤ B ∧ MarkedI w' B z
theorem intsEnd_of {w w1 : World} {z : List Int} {g : Nat} (hown : w1.ownsRow w.heap.size 3 1 (.slice (some ⟨g, 0, none⟩) (z.length + 4) (z.length + 4)) (z.length + 4) (intsV z ++ intsV marksI)) (hg : w.heap.size ≤ g) (hb : Below w.heap.size w w1) :
    IntsEnd w z (.returned (.slice (some ⟨g, 0, none⟩) z.length (z.length + 4))) w1 := by
  refine ⟨g, rfl, hb, hg, ?_⟩
  obtain ⟨hl, hx⟩ := hown
  rcases hx with ⟨h, _⟩ | ⟨g', cap, cur, h, _, hh, _, _, hcur, htake⟩
  · cases h
  · injection h with h1 h2 h3
    injection h1 with h1
    injection h1 with h1
    subst h1; subst h3
    unfold MarkedI
    rw [hh]
    have e : cur.toList = intsV z ++ intsV marksI := by
      rw [← htake, List.take_of_length_le (by simp [hcur])]
    have e2 : cur = (intsV (z ++ marksI)).toArray := by
      apply Array.ext'
      rw [e]; simp [intsV]
    rw [e2]
set_option maxHeartbeats 1000000 in
theorem ints_any (z : List Int) (o : Option Addr) (c : Nat) (w : World) (h : RowIs w o (intsV z) c) (hz : z.length ≤ 1000) :
    Calls Tryz.prog 6 #[.slice o z.length c] w (IntsEnd w z) := by
  obtain ⟨i0, hi, hz0, hz1, hz2⟩ := info_parts info_int
  have hm := h.cap
  have hle := h.le
  simp only [intsV_length] at hle
  unfold maxLen at hm
  have hnone : o = none → z.length = 0 ∧ c = 0 := fun e => ⟨by have := h.nil e; omega, h.nil e⟩
  have HN := Lib.hid hnone
  have HR := Lib.hid h
  clear h hnone
  go_enter Tryz.func6, Tryz.ntmps6
  go_wp2_with (at_make; refine wpList_make_own _ rfl _ _ 23 rfl w.heap.size 3 i0 (.int .i64 0) 1 Tryz.underlying23 hi hz0 hz1 _ _ _ (z.length + 4) rfl rfl (by omega) (by rw [hz2]; omega) (by unfold maxLen; omega) (Nat.le_refl _) ?_)
  intro w0 hown0 hgrow0
  have hb0 : Below w.heap.size w w0 := (Below.refl _ _).grown hgrow0 (Nat.le_refl _) (fun k h => by cases h)
  have HB0 := Lib.hid hb0
  have HR0 := Lib.hid (HR.out.later hb0)
  clear hgrow0 hb0
  go_wp2_with (at_builtin; refine wpList_append_fits_any _ rfl (.tmp 7) (.tmp 8) 23 rfl w.heap.size 3 i0 1 Tryz.underlying23 hi hz1 w.heap.size 0 (z.length + 4) [] rfl hown0 o z.length c (intsV z) rfl (by simp) HN.out HR0.out.adds (intsV_one z) (by omega) ?_)
  intro w1 hown1 hgrow1
  have hb1 : Below w.heap.size w w1 := HB0.out.grown hgrow1 HB0.out.size (fun k h => by cases h; exact Nat.le_refl _)
  have HB1 := Lib.hid hb1
  clear hgrow1 hb1 hown0
  go_wp2_with (at_builtin; refine wpList_append_fits _ rfl (.tmp 9) (.tmp 10) 23 rfl w.heap.size 3 i0 1 Tryz.underlying23 hi hz1 w.heap.size z.length (z.length + 4) (intsV z) rfl (hown1.alloc _) ⟨w1.heap.size, 0, none⟩ 4 4 (intsV marksI) rfl (by rfl) ?c1 (intsV_one marksI) (by omega) ?_)
  case c1 =>
    intro j u hj
    rw [add_plain]
    have hlt := (List.getElem?_eq_some_iff.1 hj).1
    match j, hlt with
    | 0, _ | 1, _ | 2, _ | 3, _ => simp [intsV, marksI] at hj; subst hj; simp
    | n + 4, h => exact absurd (show n + 4 < 4 from by simpa [intsV, marksI] using h) (by omega)
  intro w2 hown2 hgrow2
  have hb2 : Below w.heap.size w w2 := (HB1.out.alloc HB1.out.size _).grown hgrow2 (by have := HB1.out.size; simp; omega) (fun k h => by cases h; exact Nat.le_refl _)
  have HB2 := Lib.hid hb2
  have HO := Lib.hid hown2
  clear hgrow2 hb2 hown1 hown2
  go_wp2
  go_ret
  exact intsEnd_of HO.out (Nat.le_refl _) HB2.out
def SiAt2 (n : Nat) (w : World) (i : Value) (wr : World) : Prop := ∃ k : Nat, k ≤ n ∧ i = .int .i64 k ∧ Kit.Dn w wr
/-- two lists that are the same -/
theorem same_ints (z : List Int) (o o2 : Option Addr) (c c2 : Nat) (w : World) (h1 : RowIs w o (intsV z) c) (h2 : RowIs w o2 (intsV z) c2) (hz : z.length ≤ 1000) (hr : ∀ k, k < z.length → -9223372036854775808 ≤ z.getD k 0 ∧ z.getD k 0 ≤ 9223372036854775807) :
    Calls Tryz.prog 10 #[.slice o z.length c, .slice o2 z.length c2] w fun e w' => e = .returned (.bool true) ∧ Kit.Dn w w' := by
  have hc1 := h1.cap
  have hc2 := h2.cap
  unfold maxLen at hc1 hc2
  have H1 := Lib.hid h1
  have H2 := Lib.hid h2
  have HR := Lib.hid hr
  clear h1 h2 hr
  go_enter Tryz.func10, Tryz.ntmps10
  go_wp2_with fail
  go_loopw [5, 13] (fun _ i wr => SiAt2 z.length w i wr) (fun _ i _ => z.length - (intOf i).toNat)
  case atStart => exact ⟨0, Nat.zero_le _, rfl, Kit.Dn.refl _⟩
  case round =>
    obtain ⟨k, hk, rfl, hd⟩ := hrel
    have HD := Lib.hid hd
    by_cases hlt : k < z.length
    · obtain ⟨b1, off1, rfl, _, hcell1⟩ := (H1.out.later hd.below).cells (by simp; omega)
      obtain ⟨b2, off2, rfl, _, hcell2⟩ := (H2.out.later hd.below).cells (by simp; omega)
      have hp1 : wr.cell? ⟨b1, off1 + k, none⟩ = some (.int .i64 (z.getD k 0)) := hcell1 k _ (intsV_get z k hlt)
      have hp2 : wr.cell? ⟨b2, off2 + k, none⟩ = some (.int .i64 (z.getD k 0)) := hcell2 k _ (intsV_get z k hlt)
      have hkr := HR.out k hlt
      have hk0 : (0 : Int) ≤ (k : Int) := by omega
      have hk1 : (k : Int) < (z.length : Int) := by omega
      generalize z.getD k 0 = p at *
      clear hcell1 hcell2 hd
      go_wp2_with fail
      go_quiet (fail)
      go_wp2_with fail
      go_roundw
      case rel => exact ⟨k + 1, by omega, by go_num, HD.out.add _⟩
      case measure => simp [intOf]; omega
    · obtain rfl : k = z.length := by omega
      go_wp2
      go_ret
      exact ⟨rfl, hd⟩
def KiAt (w : World) (i : Value) (wr : World) : Prop := ∃ k : Nat, k ≤ 4 ∧ i = .int .i64 k ∧ Kit.Dn w wr
theorem marksI_get (k : Nat) (hk : k < 4) : marksI.getD k 0 = -91 - k := by
  match k, hk with
  | 0, _ | 1, _ | 2, _ | 3, _ => rfl
  | n + 4, h => omega
theorem kept_ints (z : List Int) (B : Nat) (o : Option Addr) (c : Nat) (w : World) (hM : MarkedI w B z) (hR : RowIs w o (intsV z) c) (hz : z.length ≤ 1000) (hr : ∀ k, k < z.length → -9223372036854775808 ≤ z.getD k 0 ∧ z.getD k 0 ≤ 9223372036854775807) :
    Calls Tryz.prog 12 #[.slice (some ⟨B, 0, none⟩) z.length (z.length + 4), .slice o z.length c] w fun e w' => e = .returned (.bool true) ∧ Kit.Dn w w' := by
  have HSI := Lib.hid (same_ints z (some ⟨B, 0, none⟩) o (z.length + 4) c w (hM.row hz) hR hz hr)
  have HM := Lib.hid hM
  have hcc := hR.cap
  unfold maxLen at hcc
  clear hM hR hr
  have hlt : ¬ ((z.length + 4 : Int) < z.length + 4) := by omega
  go_enter Tryz.func12, Tryz.ntmps12
  go_wp2_with fail
  refine HSI.out.mono ?_; rintro e w1 ⟨rfl, hd1⟩
  have HD1 := Lib.hid hd1
  clear hd1 HSI
  go_wp2_with fail
  go_loopw [6] (fun i wr => KiAt w i wr) (fun i _ => 4 - (intOf i).toNat)
  case atStart => exact ⟨0, by decide, rfl, HD1.out⟩
  case round =>
    obtain ⟨k, hk, rfl, hd⟩ := hrel
    by_cases hk6 : k < 4
    · have hc : wr.cell? ⟨B, z.length + k, none⟩ = some (.int .i64 (-91 - k)) := by
        rw [(HM.out.later hd.below).cell, intsV_get _ _ (by simp [marksI]; omega), ← marksI_get k hk6]
        have e : (z ++ marksI)[z.length + k]? = marksI[k]? := by rw [List.getElem?_append_right (by omega)]; congr 1; omega
        simp [List.getD_eq_getElem?_getD, e]
      have HD := Lib.hid hd
      clear hd
      go_wp2
      go_roundw
      case rel => exact ⟨k + 1, by omega, by go_num, HD.out⟩
      case measure => simp [intOf]; omega
    · obtain rfl : k = 4 := by omega
      go_wp2
      go_ret
      exact ⟨rfl, hd⟩
end Go.Proofs.YtgchfijeiggimaaGreatDoor
