/- The document's registers of a length, and the least length of one. -/
import Derived.Test.YtgchfijeiggimaaGreatDoorSv
namespace Go.Proofs.YtgchfijeiggimaaGreatDoor
open Go.RowKit
set_option linter.unusedVariables false
set_option linter.unusedSimpArgs false
theorem Mat.rin {W : World} {B gO capO N R : Nat} {Gb Gc : Nat → Nat} {m : Nat → Nat → UInt8} (h : Mat W B gO capO N R Gb Gc m) : RIn W gO N R m :=
  ⟨h.lt.2, fun i hi => ⟨_, _, h.hdr i hi, by
    have := (h.row i hi).1.row
    exact this⟩⟩
def RgAt (s : List UInt8) (L : Nat) (w : World) (v iv : Value) (wr : World) : Prop :=
  ∃ k i : Nat, i = L + k ∧ i ≤ s.length ∧ iv = .int .i64 i ∧ Cpy wr w.heap.size (L + 1) k v (Gf.regM (co s) L) ∧ Below w.heap.size w wr
/-- a row of the equations, so far -/
def eqL (s : List UInt8) (L i t : Nat) : List UInt8 := tab (fun b => if b < t then co s (i - (b + 1)) else 0) (L + 1)
theorem eqL_step (s : List UInt8) (L i t : Nat) (h : t < L) : (eqL s L i t).set t (co s (i - (t + 1))) = eqL s L i (t + 1) := list_ext (by simp [eqL]) fun b hb => by
  simp [eqL] at hb
  unfold eqL
  rw [co_set, co_tab _ _ _ hb, co_tab _ _ _ hb]
  by_cases e : t = b
  · subst e
    rw [if_pos ⟨rfl, by rw [tab_length]; exact hb⟩, if_pos (by omega)]
  · rw [if_neg (fun h => e h.1)]
    by_cases e2 : b < t
    · rw [if_pos e2, if_pos (by omega)]
    · rw [if_neg e2, if_neg (by omega)]
theorem eqL_full (s : List UInt8) (L k : Nat) : (eqL s L (L + k) L).set L (co s (L + k)) = tab (Gf.regM (co s) L k) (L + 1) := list_ext (by simp [eqL]) fun b hb => by
  simp [eqL] at hb
  unfold eqL
  rw [co_set, co_tab _ _ _ hb, co_tab _ _ _ hb]
  unfold Gf.regM
  by_cases e : L = b
  · subst e
    rw [if_pos ⟨rfl, by rw [tab_length]; exact hb⟩, if_neg (by omega)]
  · rw [if_neg (fun h => e h.1), if_pos (by omega), if_pos (by omega)]
def RhAt (s : List UInt8) (L i : Nat) (w : World) (jv : Value) (wr : World) : Prop :=
  ∃ t j : Nat, j = t + 1 ∧ t ≤ L ∧ jv = .int .i64 j ∧ Buf wr w.heap.size (L + 1) (eqL s L i t) ∧ Below w.heap.size w wr
set_option maxRecDepth 100000 in
set_option maxHeartbeats 8000000 in
theorem register_any (s : List UInt8) (L : Nat) (o : Option Addr) (c : Nat) (w : World) (hS : RowIs w o (bytesV s) c) (hL : L ≤ s.length) (hl : s.length ≤ 1000) :
    Calls Tryz.prog 22 #[.slice o s.length c, .int .i64 L] w (SolTo (Gf.regM (co s) L) (s.length - L) L w) := by
  have h1 := hS.le
  have h2 := hS.cap
  simp only [bytesV_length] at h1
  unfold maxLen at h2
  have HS := Lib.hid hS
  have HC0 := Lib.hid (Cpy.start w w.heap.size (L + 1) (Gf.regM (co s) L) (Nat.le_refl _))
  have HB0 : Hid (Below w.heap.size w (w.alloc (.cells #[] 22))) := Lib.hid ((Below.refl _ _).alloc (Nat.le_refl _) _)
  obtain ⟨i0, hi, hz0, hz1, hz2⟩ := info_parts info_u8
  obtain ⟨N, hN⟩ : ∃ N, L + 1 = N := ⟨_, rfl⟩
  have hNi : (L : Int) + 1 = (N : Int) := by omega
  have HN := Lib.hid hN
  have hN0 : N ≤ 1001 := by omega
  clear hS hN
  go_enter Tryz.func22, Tryz.ntmps22
  go_wp2_with fail
  go_loopw [6, 7] (fun v iv wr => RgAt s L w v iv wr) (fun _ iv _ => s.length - (intOf iv).toNat)
  case atStart => exact ⟨0, L, rfl, hL, rfl, HC0.out, HB0.out⟩
  case round =>
    clear HC0 HB0
    obtain ⟨k, i, hik, hi2, rfl, ⟨gO, capO, Gb, Gc, rfl, hmat⟩, hb⟩ := hrel
    have HM := Lib.hid hmat
    have HB := Lib.hid hb
    have HIK := Lib.hid hik
    have hcO := hmat.cap
    unfold maxLen at hcO
    have hcO1 := hcO.1
    have hcO2 := hcO.2
    clear hmat hb hcO
    by_cases hlt : i < s.length
    · have hd1 : decide ((i : Int) < (s.length : Int)) = true := decide_eq_true (by omega)
      have hkL : k ≤ 1000 := by omega
      have hiL : L ≤ i := by omega
      clear hik
      go_wp2_with (at_make; refine wpList_make_full _ rfl _ _ 22 rfl 0 5 i0 (.int .u8 0) 1 Tryz.underlying22 hi hz0 hz1 _ _ _ _ N rfl rfl (by omega) (by omega) (by rw [hz2]; omega) (by unfold maxLen; omega) (Nat.zero_le _) ?_)
      intro w2 hown hgrow
      have hb2 : Below wr.heap.size wr w2 := (Below.refl _ _).grown hgrow (Nat.le_refl _) (fun k h => by cases h)
      have hbuf : Buf w2 wr.heap.size (L + 1) (eqL s L i 0) := by
        have e : eqL s L i 0 = List.replicate (L + 1) 0 := list_ext (by simp [eqL]) fun b hb => by
          simp [eqL] at hb
          unfold eqL
          rw [co_tab _ _ _ hb, if_neg (by omega), zeros_co]
        rw [e, HN.out]
        exact buf_made hown
      have HB2 := Lib.hid hb2
      have HBF := Lib.hid hbuf
      clear hown hgrow hb2 hbuf
      go_wp2_with fail
      go_loopw [9] (fun jv wr2 => RhAt s L i wr jv wr2) (fun jv _ => L + 1 - (intOf jv).toNat)
      case atStart => exact ⟨0, 1, rfl, Nat.zero_le _, rfl, HBF.out, HB2.out⟩
      case round =>
        rename World => W3
        clear HBF HB2
        obtain ⟨t, j, hj, htL, rfl, hbf, hb3⟩ := hrel
        have HBF := Lib.hid hbf
        have HB3 := Lib.hid hb3
        have HS3 := Lib.hid (HS.out.later (Kit.step HB.out hb3))
        have HJ := Lib.hid hj
        by_cases htl : t < L
        · have hjd : decide ((j : Int) ≤ (L : Int)) = true := decide_eq_true (by omega)
          obtain ⟨bs, fs, rfl, hbs, hcs⟩ := HS3.out.cells (by simp; omega)
          obtain ⟨r, hr⟩ : ∃ r, i - j = r := ⟨_, rfl⟩
          have hcj : W3.cell? ⟨bs, fs + r, none⟩ = some (.int .u8 ((co s r).toNat : Int)) := hcs r _ (bytesV_get s r (by omega))
          have hce := hbf.cell t (by simp [eqL]; omega)
          have hfr := hbf.frozen t
          have hst := hbf.store t (co s r)
          have HST := Lib.hid (show Buf (W3.setCell ⟨wr.heap.size, t, none⟩ (.int .u8 ((co s r).toNat : Int))) wr.heap.size (L + 1) (eqL s L i (t + 1)) by
            have e := eqL_step s L i t htl
            rw [show i - (t + 1) = r by omega] at e
            rw [← e]
            exact hst.1)
          have HSB := Lib.hid (hb3.trans (Only.below hst.2 (Nat.le_refl _) hb3.size))
          have hij : (i : Int) - (j : Int) = (r : Int) := by omega
          have hjt : (j : Int) - 1 = (t : Int) := by omega
          have hr0 : (0 : Int) ≤ (r : Int) := by omega
          have hr1 : (r : Int) < (s.length : Int) := by omega
          have ht0 : (0 : Int) ≤ (t : Int) := by omega
          have ht1 : (t : Int) < (N : Int) := by have := HN.out; omega
          have hyl := UInt8.toNat_lt (co s r)
          generalize co s r = y at *
          clear hcs hbf hb3 hst hj hr
          go_wp2_with fail
          go_roundw
          case rel => exact ⟨t + 1, j + 1, by have := HJ.out; omega, by omega, by go_num, HST.out, HSB.out⟩
          case measure => have := HJ.out; simp [intOf]; omega
        · obtain rfl : t = L := by omega
          have hjd : decide ((j : Int) ≤ (t : Int)) = false := decide_eq_false (by omega)
          have hjd2 : decide (j ≤ t) = false := decide_eq_false (by omega)
          have hjn : ¬ j ≤ t := by omega
          obtain ⟨bs, fs, rfl, hbs, hcs⟩ := HS3.out.cells (by simp; omega)
          have hcj : W3.cell? ⟨bs, fs + i, none⟩ = some (.int .u8 ((co s i).toNat : Int)) := hcs i _ (bytesV_get s i hlt)
          have hce := hbf.cell t (by simp [eqL])
          have hfr := hbf.frozen t
          have hst := hbf.store t (co s i)
          obtain ⟨w4, hw4⟩ : ∃ w4, W3.setCell ⟨wr.heap.size, t, none⟩ (.int .u8 ((co s i).toNat : Int)) = w4 := ⟨_, rfl⟩
          have hbf4 : Buf w4 wr.heap.size N (tab (Gf.regM (co s) t k) N) := by
            rw [← hw4, ← HN.out, ← eqL_full s t k, ← HIK.out]
            exact hst.1
          have hb4 : Below wr.heap.size wr w4 := by rw [← hw4]; exact hb3.trans (Only.below hst.2 (Nat.le_refl _) hb3.size)
          obtain ⟨w5, hw5⟩ : ∃ w5, w4.alloc (.cells #[.slice (some ⟨wr.heap.size, 0, none⟩) N N] 22) = w5 := ⟨_, rfl⟩
          have hb5 : Below w4.heap.size w4 w5 := by rw [← hw5]; exact (Below.refl _ _).alloc (Nat.le_refl _) _
          have hsz : w4.heap.size = W3.heap.size := by rw [← hw4]; simp [World.setCell]
          have hc5 : w5.cell? ⟨W3.heap.size, 0, none⟩ = some (.slice (some ⟨wr.heap.size, 0, none⟩) N N) := by
            rw [← hw5, ← hsz]
            exact cell_of_row _ _ 0 _ _ _ (World.alloc_heap_new w4 _)
          have HM5 : Hid (Mat w5 w.heap.size gO capO N k Gb Gc (Gf.regM (co s) t)) := Lib.hid (by rw [← HN.out]; exact (HM.out.later hb4).later hb5)
          have HBF5 := Lib.hid (hbf4.later hb5)
          have HB5 := Lib.hid (Kit.step (Kit.step HB.out hb4) hb5)
          have HC5 := Lib.hid hc5
          have HW4 := Lib.hid hw4
          have HW5 := Lib.hid hw5
          have HGN : Hid (∀ i, i < k → Gb i ≠ wr.heap.size) := Lib.hid fun i hi e => by
            have := (HM.out.row i hi).1.lt
            omega
          have ht0 : (0 : Int) ≤ (t : Int) := by omega
          have ht1 : (t : Int) < (N : Int) := by have := HN.out; omega
          have hi0 : (0 : Int) ≤ (i : Int) := by omega
          have hi1 : (i : Int) < (s.length : Int) := by omega
          have hyl := UInt8.toNat_lt (co s i)
          generalize co s i = y at *
          clear hcs hbf hb3 hst hj hw4 hbf4 hb4 hw5 hb5 hc5 hsz HBF HB3
          go_wp2_with (at_builtin; rw [HW4.out, HW5.out]; refine append_hdr rfl (.tmp 43) (.tmp 45) rfl w.heap.size _ k _ rfl HM5.out.outer W3.heap.size (some ⟨wr.heap.size, 0, none⟩) N N rfl HC5.out (by omega) HB5.out.size ?_)
          intro v6 w6 hv hgr
          have HC6 : Hid (Cpy w6 w.heap.size (t + 1) (k + 1) v6 (Gf.regM (co s) t)) := Lib.hid (by rw [HN.out]; exact Cpy.add HM5.out wr.heap.size N HB.out.size HBF5.out HGN.out hv hgr)
          have HB6 : Hid (Below w.heap.size w w6) := Lib.hid (HB5.out.grown hgr HB5.out.size fun k e => (World.ownsRow.lt HM5.out.outer k e).1)
          clear hv hgr HM5 HBF5 HB5 HC5 HW4 HW5
          go_wp2_with fail
          go_roundw
          case rel => exact ⟨k + 1, i + 1, by have := HIK.out; omega, by omega, by go_num, HC6.out, HB6.out⟩
          case measure => simp [intOf]; omega
    · obtain rfl : i = s.length := by omega
      have hkk : k = s.length - L := by omega
      have hsv := solve_of (Gf.regM (co s) L) k L (L + 1) gO capO wr rfl HM.out.rin (by omega) (by omega) hcO1 (by omega)
      rw [hkk] at hsv
      have HSV := Lib.hid hsv
      rw [hkk]
      clear hsv hik
      go_wp2_with fail
      refine HSV.out.mono ?_
      rintro e w2 ⟨hb2, ⟨x, v, hx1, hx2, rfl, hx3⟩ | ⟨hno, rfl⟩⟩
      · have HB2 := Lib.hid (Kit.step HB.out hb2)
        have HX1 := Lib.hid hx1
        have HX2 := Lib.hid hx2
        have HX3 := Lib.hid hx3
        clear hb2 hx1 hx2 hx3 HSV
        go_wp2_with fail
        go_ret2
        exact ⟨HB2.out, .inl ⟨x, v, HX1.out, HX2.out, rfl, HX3.out⟩⟩
      · have HB2 := Lib.hid (Kit.step HB.out hb2)
        have HNO := Lib.hid hno
        clear hb2 hno HSV
        go_wp2_with fail
        go_ret2
        exact ⟨HB2.out, .inr ⟨HNO.out, rfl⟩⟩
def ShAt (L : Nat) (w : World) (iv : Value) (wr : World) : Prop := ∃ k : Nat, k ≤ L ∧ iv = .int .i64 k ∧ Below w.heap.size w wr
end Go.Proofs.YtgchfijeiggimaaGreatDoor
