/- Contract of Slope. -/
import Derived.Test.YtgchfijeiggimaaDoorAp
namespace Go.Proofs.YtgchfijeiggimaaDoor
open Go.RowKit
set_option linter.unusedVariables false
/-- the derivative's first 2k coefficients -/
def slk (p : List UInt8) (k : Nat) : List UInt8 := tab (fun j => if j % 2 = 0 ∧ j < 2 * k then co p (j + 1) else 0) p.length
theorem slk_zero (p : List UInt8) : slk p 0 = List.replicate p.length 0 := by
  refine list_ext (by simp [slk]) fun i hi => ?_
  rw [zeros_co, slk, co_tab _ _ _ (by simpa [slk] using hi), if_neg (by omega)]
theorem slk_step (p : List UInt8) (k : Nat) (hk : 2 * k < p.length) : (slk p k).set (2 * k) (co p (2 * k + 1)) = slk p (k + 1) := by
  refine list_ext (by simp [slk]) fun i hi => ?_
  have hi2 : i < p.length := by simpa [slk] using hi
  rw [co_set, slk, slk, co_tab _ _ _ hi2, co_tab _ _ _ hi2]
  by_cases e : 2 * k = i
  · rw [if_pos ⟨e, by simpa using hk⟩, if_pos ⟨by omega, by omega⟩, e]
  · rw [if_neg (fun h => e h.1)]
    by_cases h : i % 2 = 0 ∧ i < 2 * k
    · rw [if_pos h, if_pos ⟨h.1, by omega⟩]
    · rw [if_neg h, if_neg (fun g => h ⟨g.1, by omega⟩)]
theorem slk_end (p : List UInt8) (k : Nat) (hk : p.length ≤ 2 * k + 1) : slk p k = slopeL p := by
  refine list_ext (by simp [slk, slopeL]) fun i hi => ?_
  have hi2 : i < p.length := by simpa [slk] using hi
  rw [co_slopeL, slk, co_tab _ _ _ hi2]
  unfold Gf.pd
  by_cases h : i % 2 = 0
  · rw [if_pos h]
    by_cases h2 : i < 2 * k
    · rw [if_pos ⟨h, h2⟩]
    · rw [if_neg (fun g => h2 g.2), co_ge (by omega)]
  · rw [if_neg h, if_neg (fun g => h g.1)]
def SpAt (p : List UInt8) (w1 : World) (g : Nat) (i : Value) (wr : World) : Prop :=
  ∃ k : Nat, 2 * k ≤ p.length + 1 ∧ i = .int .i64 (2 * (k : Int) + 1) ∧ Buf wr g p.length (slk p k) ∧ Only g w1 wr
set_option maxRecDepth 100000 in
theorem slope_any (p : List UInt8) (o : Option Addr) (c : Nat) (w : World) (hP : RowIs w o (bytesV p) c) (hl1 : p.length ≤ 1000000) :
    Calls Tryd.prog 34 #[.slice o p.length c] w fun e w' => ∃ g cap, e = .returned (.slice (some ⟨g, 0, none⟩) (tr (slopeL p)).length cap) ∧ w.heap.size ≤ g ∧ Below w.heap.size w w' ∧ RowIs w' (some ⟨g, 0, none⟩) (bytesV (tr (slopeL p))) cap := by
  obtain ⟨i0, hi, hz0, hz1, hz2⟩ := info_parts info_u8
  have h1 := hP.le
  have h2 := hP.cap
  simp only [bytesV_length] at h1
  unfold maxLen at h2
  have HP := Lib.hid hP
  have HAP := Lib.hid (hP.apart (g := w.heap.size) (Nat.le_refl _))
  clear hP
  go_enter Tryd.func34, Tryd.ntmps34
  go_wp2_with (at_make; refine wpList_make_full _ rfl _ _ 22 rfl 0 5 i0 (.int .u8 0) 1 Tryd.underlying22 hi hz0 hz1 _ _ _ _ p.length rfl rfl (by omega) (by omega) (by rw [hz2]; omega) (by unfold maxLen; omega) (Nat.zero_le _) ?_)
  intro w1 hown hgrow
  have hb1 : Below w.heap.size w w1 := (Below.refl _ _).grown hgrow (Nat.le_refl _) (fun k h => by cases h)
  have hbuf : Buf w1 w.heap.size p.length (slk p 0) := by rw [slk_zero]; exact buf_made hown
  have hP1 := HP.out.later hb1
  have HB1 := Lib.hid hb1
  have HBUF := Lib.hid hbuf
  have HP1 := Lib.hid hP1
  clear hown hgrow hb1 hbuf hP1
  go_wp2_with fail
  go_loopw [4] (fun i wr => SpAt p w1 w.heap.size i wr) (fun i _ => p.length - (intOf i).toNat)
  case atStart => exact ⟨0, by omega, rfl, HBUF.out, Only.refl _ _⟩
  case round =>
    obtain ⟨k, hk, rfl, hb, ho⟩ := hrel
    by_cases hlt : 2 * k + 1 < p.length
    · obtain ⟨b1, off1, rfl, hb1, hcell⟩ := (ho.row HP1.out HAP.out).cells (by simp; omega)
      obtain ⟨i, hi2⟩ : ∃ i, i = 2 * k + 1 := ⟨_, rfl⟩
      have hii : 2 * (k : Int) + 1 = (i : Int) := by omega
      have hil : i < p.length := by omega
      have hi0 : 1 ≤ i := by omega
      have hc1 : wr.cell? ⟨b1, off1 + i, none⟩ = some (.int .u8 ((co p i).toNat : Int)) := hcell i _ (bytesV_get p i hil)
      have hc2 := hb.cell (i - 1) (by simp [slk]; omega)
      have hf2 := hb.frozen (i - 1)
      have hst := hb.store (i - 1) (co p i)
      rw [show (slk p k).set (i - 1) (co p i) = slk p (k + 1) by rw [← slk_step p k (by omega), hi2]; rfl] at hst
      generalize co (slk p k) (i - 1) = s at *
      generalize co p i = x at *
      have hx := UInt8.toNat_lt x
      have HS := Lib.hid hst
      have HO := Lib.hid ho
      have HI := Lib.hid hii
      have hn1 : (0 : Int) ≤ (i : Int) - 1 := by omega
      have hn2 : ((i : Int) - 1).toNat = i - 1 := by omega
      have hsl : (slk p k).length = p.length := by simp [slk]
      rw [hii]
      clear hcell hb ho hst hii hi2
      go_wp2_with fail
      go_roundw
      case rel =>
        have := HI.out
        exact ⟨k + 1, by omega, by go_num, HS.out.1, HO.out.trans HS.out.2⟩
      case measure => simp [intOf]; omega
    · have HE := Lib.hid (slk_end p k (by omega))
      have hsl : (slk p k).length = p.length := by simp [slk]
      have hcut := cut_any _ _ _ wr hb.row
      rw [hsl, HE.out] at hcut
      have HCUT := Lib.hid hcut
      have HBW : Hid (Below w.heap.size w wr) := Lib.hid (HB1.out.trans (ho.below (Nat.le_refl _) HB1.out.size))
      clear hcut hb ho hsl
      go_wp2_with fail
      refine HCUT.out.mono ?_; rintro e w3 ⟨rfl, hb3, hr3⟩
      have HB3 := Lib.hid (Kit.step HBW.out hb3)
      have HR3 := Lib.hid hr3
      clear hb3 hr3 HCUT
      go_wp2_with fail
      go_ret
      exact ⟨w.heap.size, p.length, rfl, Nat.le_refl _, HB3.out, HR3.out⟩
theorem slope_rv {p : List UInt8} {x : Value} {v : World} (hp : RowV p x v) (hl : p.length ≤ 1000000) : Calls Tryd.prog 34 #[x] v (Rows (tr (slopeL p)) v) := by
  obtain ⟨o, c, rfl, hp⟩ := hp
  exact (slope_any p o c v hp hl).mono fun e w ⟨g, cap, h1, h2, h3, h4⟩ => ⟨_, h1, ⟨_, _, rfl, h4⟩, h3⟩
end Go.Proofs.YtgchfijeiggimaaDoor
