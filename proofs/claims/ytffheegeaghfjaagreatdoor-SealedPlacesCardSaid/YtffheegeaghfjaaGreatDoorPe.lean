/- Pe -/
import Derived.Deep.Onto
import Derived.BigRegion
import Derived.Lib.Hide
import Derived.Lib.SliceRun
import Derived.Test.YtffheegeaghfjaaGreatDoorIns
import Derived.Test.YtffheegeaghfjaaGreatDoorDv
import Derived.Deep.QuietTactic
import Derived.BigQuiet
set_option linter.unusedVariables false
set_option linter.unusedSimpArgs false
set_option maxRecDepth 100000
set_option maxHeartbeats 8000000
namespace Go.Proofs.YtffheegeaghfjaaGreatDoor
open Go.RowKit
def revAt (ys : List UInt8) (k : Nat) : List UInt8 := tab (fun m => if m < k ∨ ys.length <= m + k then co ys (ys.length - 1 - m) else co ys m) ys.length
@[simp] theorem revAt_length (ys : List UInt8) (k : Nat) : (revAt ys k).length = ys.length := by simp [revAt]
theorem co_revAt (ys : List UInt8) (k m : Nat) (h : m < ys.length) : co (revAt ys k) m = if m < k ∨ ys.length <= m + k then co ys (ys.length - 1 - m) else co ys m := co_tab _ _ _ h
theorem revAt_zero (ys : List UInt8) : revAt ys 0 = ys := list_ext (by simp) fun m hm => by
 simp at hm
 rw [co_revAt _ _ _ hm, if_neg (by omega)]
theorem co_reverse (a : List UInt8) (m : Nat) (h : m < a.length) : co a.reverse m = co a (a.length - 1 - m) := by
 simp [co, List.getD_eq_getElem?_getD, h, List.getElem?_reverse, show a.length - 1 - m < a.length by omega]
theorem revAt_done (ys : List UInt8) (k : Nat) (h : ys.length <= 2 * k + 1) : revAt ys k = ys.reverse := list_ext (by simp) fun m hm => by
 simp at hm
 rw [co_revAt _ _ _ hm, co_reverse _ _ hm]
 by_cases e : m < k ∨ ys.length <= m + k
 ·rw [if_pos e]
 ·rw [if_neg e]
  congr 1
  omega
theorem revAt_step (ys : List UInt8) (k : Nat) (h : 2 * k + 1 < ys.length) : ((revAt ys k).set k (co (revAt ys k) (ys.length - 1 - k))).set (ys.length - 1 - k) (co (revAt ys k) k) = revAt ys (k + 1) := list_ext (by simp) fun m hm => by
 simp at hm
 rw [co_revAt _ _ _ hm, co_set, co_set, co_revAt _ _ _ (by omega), co_revAt _ _ _ (by omega), co_revAt _ _ _ hm]
 simp only [List.length_set, revAt_length]
 by_cases e1 : ys.length - 1 - k = m
 ·rw [if_pos ⟨e1, by omega⟩, if_neg (by omega), if_pos (by omega)]
  congr 1
  omega
 ·rw [if_neg (fun h => e1 h.1)]
  by_cases e2 : k = m
  ·rw [if_pos ⟨e2, by omega⟩, if_neg (by omega), if_pos (by omega), e2]
  ·rw [if_neg (fun h => e2 h.1)]
   by_cases e3 : m < k ∨ ys.length <= m + k
   ·rw [if_pos e3, if_pos (by omega)]
   ·rw [if_neg e3, if_neg (by omega)]
def RvAt (w : World) (ys : List UInt8) (g cap : Nat) (i j : Value) (wr : World) : Prop :=
 ∃ k : Nat, 2 * k <= ys.length + 1 /\ i = .int .i64 k /\ j = .int .i64 ((ys.length : Int) - 1 - k) /\ Buf wr g cap (revAt ys k) /\ Only g w wr
theorem reverse_any (ys : List UInt8) (g cap : Nat) (w : World) (hB : Buf w g cap ys) :
    Calls Tryz.prog 162 #[.slice (some ⟨g, 0, none⟩) ys.length cap] w fun e w' => e = .returned (.tuple #[]) /\ Buf w' g cap ys.reverse /\ Only g w w' := by
 have hle := hB.le
 unfold maxLen at hle
 have HB0 : Hid (Buf w g cap (revAt ys 0)) := Lh (by rw [revAt_zero]; exact hB)
 clear hB
 go_enter Tryz.func162, Tryz.ntmps162
 go_wp2_with fail
 go_loopw [2, 3] (fun i j wr => RvAt w ys g cap i j wr) (fun i j _ => ys.length - (intOf i).toNat)
 case atStart => exact ⟨0, by omega, rfl, by simp, HB0.out, Only.refl _ _⟩
 case round =>
  obtain ⟨k, hk, rfl, rfl, hb, ho⟩ := hrel
  by_cases hlt : 2 * k + 1 < ys.length
  ·have hd1 : decide ((k : Int) < (ys.length : Int) - 1 - k) = true := decide_eq_true (by omega)
   obtain ⟨J, hJ⟩ : ∃ J, ys.length - 1 - k = J := ⟨_, rfl⟩
   have hJ2 : (ys.length : Int) - 1 - k = (J : Int) := by omega
   have hJn : ((ys.length : Int) - 1 - k).toNat = J := by omega
   have hc1 := hb.cell k (by simp; omega)
   have hf1 := hb.frozen k
   have hc2 := hb.cell J (by simp; omega)
   have hf2 := hb.frozen J
   have HST := Lh (revAt_step ys k hlt)
   rw [hJ] at HST
   generalize co (revAt ys k) k = x at *
   generalize co (revAt ys k) J = y at *
   have hxl := UInt8.toNat_lt x
   have hyl := UInt8.toNat_lt y
   have HB := Lh hb
   have HO := Lh ho
   have hkl : k < J := by omega
   have hJl : J < ys.length := by omega
   have HJ := Lh hJ
   have hk0 : (0 : Int) <= (k : Int) := by omega
   have hk1 : (k : Int) < (ys.length : Int) := by omega
   have hj0 : (0 : Int) <= (J : Int) := by omega
   have hj1 : (J : Int) < (ys.length : Int) := by omega
   rw [hJ2] at hd1 ⊢
   clear hb ho hJ hJn
   go_wp2_with fail
   go_region
   all_goals
    go_wp2
    go_roundw
    case rel =>
     have s1 := HB.out.store k y
     have s2 := s1.1.store J x
     rw [HST.out] at s2
     exact ⟨k + 1, by omega, by go_num, by have := HJ.out; congr 1; omega, s2.1.later (dn_drew (Kit.Dn.refl _)).below, HO.out.trans (Only.trans s1.2 (Only.trans s2.2 (Only.of_below (dn_drew (Kit.Dn.refl _)).below)))⟩
    case measure => simp only [intOf]; omega
  ·have hd1 : decide ((k : Int) < (ys.length : Int) - 1 - k) = false := decide_eq_false (by omega)
   rw [revAt_done ys k (by omega)] at hb
   go_wp2
   go_end0
   exact ⟨rfl, hb, ho⟩
def Own (z : List UInt8) (w : World) (e : Ending) (w' : World) : Prop := ∃ g cap, e = .returned (.slice (some ⟨g, 0, none⟩) z.length cap) /\ w.heap.size <= g /\ Buf w' g cap z /\ Below w.heap.size w w'
theorem Own.rows {z : List UInt8} {w : World} {e : Ending} {w' : World} (h : Own z w e w') : Rows z w e w' := by
 obtain ⟨g, cap, rfl, hg, hb, hw⟩ := h
 exact ⟨_, rfl, ⟨_, _, rfl, hb.row⟩, hw⟩
theorem own_buf {w : World} {base n : Nat} {v : Value} {z : List UInt8} (h : w.ownsRow base 5 1 v n (bytesV z)) (h0 : 0 < n) (hn : n = z.length) : ∃ g cap, v = .slice (some ⟨g, 0, none⟩) z.length cap /\ base <= g /\ Buf w g cap z := by
 subst hn
 rcases h.2 with ⟨_, h1⟩ | ⟨g, cap, cur, rfl, hg, _⟩
 ·omega
 ·exact ⟨g, cap, rfl, hg, World.ownsRow.mono h (Nat.zero_le _)⟩
theorem clone_own (z : List UInt8) (o : Option Addr) (c : Nat) (w : World) (hR : RowIs w o (bytesV z) c) (h0 : 0 < z.length) (hl : z.length <= 1000000) :
    Calls Tryz.prog 60 #[.slice o z.length c] w (Own z w) := by
 have h1 := hR.le
 have h2 := hR.cap
 simp only [bytesV_length] at h1
 unfold maxLen at h2
 have HPE : Hid (RowIs (w.alloc (.cells #[] 5)) o (bytesV z) c) := Lh (hR.later ((Below.refl _ _).alloc (Nat.le_refl _) _))
 have HOWN : Hid ((w.alloc (.cells #[] 5)).ownsRow w.heap.size 5 1 (.slice (some ⟨w.heap.size, 0, none⟩) 0 0) 0 (bytesV [])) := Lh (World.ownsRow_lit w #[] 0 (Nat.le_refl _) (Nat.zero_le _) rfl)
 have HBE : Hid (Below w.heap.size w (w.alloc (.cells #[] 5))) := Lh ((Below.refl _ _).alloc (Nat.le_refl _) _)
 obtain ⟨b, off, rfl, _, _⟩ := hR.cells (by simpa using h0)
 clear hR
 have q22 : ∀ (w : World) (a : Option Addr) (n c n' c' : Nat), (binOp .eql 22 (.slice a n c) (.slice none n' c')).run Tryz.prog w = .ok (.bool a.isNone) w := fun w a n c n' c' => Lib.run_eql_slice_nil w _ _ a n c n' c' Tryz.underlying22
 go_enter Tryz.func60, Tryz.ntmps60
 go_wp2_with (at_builtin; refine append_row rfl (.tmp 5) (.tmp 6) rfl w.heap.size _ 0 [] rfl HOWN.out _ z.length c z rfl rfl HPE.out (by omega) HBE.out.size ?_)
 intro v2 w2 hv hgr
 have hb2 := own_below (n := 0) HBE.out HOWN.out hgr
 obtain ⟨g, cap, rfl, hg, hbuf⟩ := own_buf hv (by omega) (by simp)
 have HB2 := Lh hb2
 have HBF := Lh hbuf
 clear hv hgr hb2 hbuf HOWN HBE HPE
 go_wp2
 go_ret
 exact ⟨g, cap, rfl, hg, HBF.out, HB2.out⟩
theorem turned_own (z : List UInt8) (o : Option Addr) (c : Nat) (w : World) (hR : RowIs w o (bytesV z) c) (h0 : 0 < z.length) (hl : z.length <= 1000000) :
    Calls Tryz.prog 160 #[.slice o z.length c] w (Own z.reverse w) := by
 have HC := Lh (clone_own z o c w hR h0 hl)
 have h1 := hR.le
 have h2 := hR.cap
 simp only [bytesV_length] at h1
 unfold maxLen at h2
 clear hR
 go_enter Tryz.func160, Tryz.ntmps160
 go_wp2_with fail
 refine HC.out.mono ?_; rintro e w1 ⟨g, cap, rfl, hg, hb, hw⟩
 have HG := Lh hg
 have HW := Lh hw
 have HR := Lh (reverse_any z g cap w1 hb)
 clear hg hb hw HC
 go_wp2_with fail
 refine HR.out.mono ?_; rintro e w2 ⟨rfl, hb, ho⟩
 have HB := Lh hb
 have HW2 := Lh (HW.out.trans (ho.below HG.out HW.out.size))
 clear hb ho HR
 go_wp2_with fail
 go_ret
 exact ⟨g, cap, by rw [List.length_reverse]; rfl, HG.out, HB.out, HW2.out⟩
theorem grow_nil (n : Nat) (w : World) (h0 : 0 < n) (hl : n <= 10000) :
    Calls Tryz.prog 132 #[.slice none 0 0, .int .i64 n] w fun e w' => ∃ g cap, e = .returned (.slice (some ⟨g, 0, none⟩) 0 cap) /\ w'.ownsRow w.heap.size 5 1 (.slice (some ⟨g, 0, none⟩) 0 cap) 0 (bytesV []) /\ Below w.heap.size w w' := by
 have hd1 : decide ((n : Int) < 0) = false := decide_eq_false (by omega)
 have hd2 : decide ((0 : Int) < (n : Int)) = true := decide_eq_true (by omega)
 have HOWN : Hid (w.ownsRow w.heap.size 5 1 (.slice none 0 0) 0 (bytesV [])) := Lh (World.ownsRow_nil _ _ _ _)
 go_enter Tryz.func132, Tryz.ntmps132
 go_wp2_with (at_builtin; refine append_zeros rfl (.tmp 20) (.tmp 21) rfl w.heap.size _ 0 [] rfl HOWN.out n h0 rfl (by omega) (by omega) (Nat.le_refl _) ?_)
 intro v2 w2 hv hgr
 have hb2 := own_below (n := 0) (Below.refl _ _) HOWN.out hgr
 obtain ⟨hl2, h3⟩ := hv
 rcases h3 with ⟨_, h3⟩ | ⟨g, cap, cur, rfl, hg, hh, h4, h5, h6, h7⟩
 ·omega
 have hown : w2.ownsRow w.heap.size 5 1 (.slice (some ⟨g, 0, none⟩) 0 cap) 0 (bytesV []) := ⟨rfl, .inr ⟨g, cap, cur, rfl, hg, hh, Nat.zero_le _, h5, h6, by simp [bytesV]⟩⟩
 have HV := Lh hown
 have HB := Lh hb2
 unfold maxLen at h5
 clear hl2 hgr hb2 hg hh h6 h7 hown HOWN
 go_wp2
 go_ret
 exact ⟨g, cap, rfl, HV.out, HB.out⟩
def padR (R : List UInt8) : List UInt8 := (splice (List.replicate 32 0) 0 R).reverse
theorem padR_length (R : List UInt8) (h : R.length <= 32) : (padR R).length = 32 := by
 rw [padR, List.length_reverse, length_splice _ _ _ (by simp; omega), List.length_replicate]
theorem pad_code {d Y R : List UInt8} (hR : DivOf (tr (shiftL d.reverse 32)) (genL 32) Y R) : R.length <= 32 /\ IsCode (d ++ padR R) := by
 have hl : R.length <= 32 := by
  have := hR.less
  rw [tr_gen, genL_length] at this
  omega
 refine ⟨hl, fun j hj => ?_⟩
 have e : d ++ padR R = (splice (List.replicate 32 0) 0 R ++ d.reverse).reverse := by simp [padR]
 rw [e, hv_reverse]
 have hs : (splice (List.replicate 32 (0 : UInt8)) 0 R).length = 32 := by rw [length_splice _ _ _ (by simp; omega), List.length_replicate]
 have h1 : ∀ k, co (splice (List.replicate 32 0) 0 R ++ d.reverse) k = co (addL R (shiftL d.reverse 32)) k := fun k => by
  rw [co_app, co_addL, hs]
  unfold shiftL
  rw [co_app, List.length_replicate]
  by_cases hk : k < 32
  ·rw [if_pos hk, if_pos hk, zeros_co, UInt8.xor_zero, co_splice _ _ _ _ (by simp; omega)]
   by_cases hk2 : k < R.length
   ·rw [if_pos ⟨Nat.zero_le _, by omega⟩, Nat.sub_zero]
   ·rw [if_neg (by omega), zeros_co, co_ge (by omega)]
  ·rw [if_neg hk, if_neg hk, co_ge (z := R) (by omega), UInt8.zero_xor]
 have h2 : ∀ k, co (tr (shiftL d.reverse 32)) k = co (addL (mulL Y (genL 32)) R) k := fun k => by rw [<- hR.eq k, co_addL]
 rw [evL_congr h1, evL_add, <- evL_tr (shiftL d.reverse 32), evL_congr h2, evL_add, evL_mul, gen_root 32 j hj, Gf.gm_zero, UInt8.zero_xor, UInt8.xor_self]
def CparTo (d : List UInt8) (w : World) (e : Ending) (w' : World) : Prop :=
 ∃ r x, r.length = 32 /\ IsCode (d ++ r) /\ e = .returned (.tuple #[x, .nilIface]) /\ RowV r x w' /\ Below w.heap.size w w'
theorem cpar_any (d : List UInt8) (o : Option Addr) (c : Nat) (w : World) (hP : RowIs w o (bytesV d) c) (hl1 : 1 <= d.length) (hl2 : d.length <= 223) :
    Calls Tryz.prog 144 #[.slice o d.length c] w (CparTo d w) := by
 have h1 := hP.le
 have h2 := hP.cap
 simp only [bytesV_length] at h1
 unfold maxLen at h2
 obtain ⟨i0, hi, hz0, hz1, hz2⟩ := info_parts info_u8
 have hT := turned_own d o c w hP (by omega) (by omega)
 have HPC : Hid (∀ Y R, DivOf (tr (shiftL d.reverse 32)) (genL 32) Y R -> R.length <= 32 /\ IsCode (d ++ padR R)) := Lh fun Y R h => pad_code h
 have hdl : d.reverse.length = d.length := List.length_reverse
 generalize d.reverse = dr at hT HPC hdl
 have HT := Lh hT
 have hdl2 : dr.length <= 223 := by omega
 clear hT hdl
 have hd1 : decide ((d.length : Int) < 1) = false := decide_eq_false (by omega)
 have hd2 : decide ((223 : Int) < (d.length : Int)) = false := decide_eq_false (by omega)
 clear hP
 go_enter Tryz.func144, Tryz.ntmps144
 go_wp2_with fail
 refine HT.out.mono ?_; rintro e w1 ⟨g1, cap1, rfl, hg1, hb1, hw1⟩
 have HS := Lh (shift_any dr 32 _ _ w1 hb1.row (by omega))
 have HW1 := Lh hw1
 clear hg1 hb1 hw1 HT
 go_wp2_with fail
 refine HS.out.mono ?_; rintro e w2 ⟨x2, rfl, hx2, hw2⟩
 rw [show shN 32 = 32 from rfl] at hx2
 have HW2 := Lh (Ks HW1.out hw2)
 have HX2 := Lh hx2
 clear hx2 hw2 HS
 go_wp2_with fail
 refine (cgen_any w2).mono ?_; rintro e w3 ⟨x3, rfl, hx3, hw3⟩
 have HW3 := Lh (Ks HW2.out hw3)
 have hx2 := HX2.out.later hw3
 have hsl : (shiftL dr 32).length = 32 + dr.length := by rw [shiftL, List.length_append, List.length_replicate]
 have htl := tr_le (shiftL dr 32)
 obtain ⟨o2, c2, rfl, hx2⟩ := hx2
 obtain ⟨o3, c3, rfl, hx3⟩ := hx3
 have HD := Lh (div_any (tr (shiftL dr 32)) (genL 32) o2 o3 c2 c3 w3 hx2 hx3 (by omega) (by rw [genL_length]; omega) (by rw [tr_gen, genL_length]; omega))
 clear hx2 hx3 hw3 hsl htl HX2
 generalize tr (shiftL dr 32) = P at *
 generalize genL 32 = G at *
 go_wp2_with fail
 refine HD.out.mono ?_; rintro e w4 ⟨Y, R, x, y, hDV, _, rfl, _, hy, hw4⟩
 obtain ⟨hRl, hcode⟩ := HPC.out Y R hDV
 obtain ⟨oR, cR, rfl, hy⟩ := hy
 have HW4 := Lh (Ks HW3.out hw4)
 have HY := Lh hy
 have HC := Lh hcode
 have hRc := hy.cap
 unfold maxLen at hRc
 have HPOS : Hid (∀ w5, Below w4.heap.size w4 w5 -> 0 < (bytesV R).length -> ∃ ad, oR = some ad /\ ∀ j v, (bytesV R)[j]? = some v -> w5.cell? (ad.add j) = some v) := Lh fun w5 hb h0 => by
  have hr := HY.out.later hb
  obtain ⟨b, off, rfl, _, _⟩ := hr.cells h0
  exact ⟨_, rfl, hr.adds _ rfl⟩
 clear hy hw4 hcode hDV HD HPC
 obtain ⟨Z, hZ⟩ : ∃ Z : List UInt8, List.replicate 32 0 = Z := ⟨_, rfl⟩
 have hZl : Z.length = 32 := by rw [<- hZ]; simp
 have HZ := Lh hZ
 have HZL := Lh hZl
 clear hZ hZl
 go_wp2_with (at_make; refine wpList_make_full _ rfl _ _ 22 rfl 0 5 i0 (.int .u8 0) 1 Tryz.underlying22 hi hz0 hz1 _ _ _ _ 32 rfl rfl (by omega) (by omega) (by rw [hz2]; omega) (by unfold maxLen; omega) (Nat.zero_le _) ?_)
 intro w5 hown hgrow
 have hb5 : Below w4.heap.size w4 w5 := (Below.refl _ _).grown hgrow (Nat.le_refl _) (fun k h => by cases h)
 have HB5 := Lh hb5
 have HF5 : Hid (Full w5 w4.heap.size Z) := Lh (by rw [<- HZ.out]; exact (buf_made hown).full (by simp))
 clear hown hgrow hb5
 go_wp2_with (refine wpList_copy_splice rfl (.tmp 30) (.tmp 31) 22 22 rfl 5 Tryz.underlying22 (by rw [hi]; simp [hz1]) _ _ _ _ _ _ rfl rfl w4.heap.size 0 (bytesV Z) 5 HF5.out (bytesV R) (by simp only [bytesV_length]; exact (Nat.min_eq_left (by omega)).symm) (fun h0 => ⟨rfl, HPOS.out _ HB5.out h0⟩) (by rw [bytesV_length, bytesV_length, HZL.out]; omega) (bytesV_one R) w4.heap.size w4 HB5.out (Nat.le_refl _) ?_)
 intro w6 hfull hb6
 have hsl : (splice Z 0 R).length = 32 := by rw [length_splice _ _ _ (by rw [HZL.out]; omega), HZL.out]
 have hbuf : Buf w6 w4.heap.size 32 (splice Z 0 R) := by
  have h : Full w6 w4.heap.size (splice Z 0 R) := by unfold Full; rw [<- splice_bytes]; exact hfull
  have := h.buf (by rw [hsl]; unfold maxLen; omega)
  rw [hsl] at this
  exact this
 have hrv := reverse_any _ _ _ _ hbuf
 rw [hsl] at hrv
 have HRV := Lh hrv
 have HW6 := Lh (Ks HW4.out hb6)
 have HG : Hid (w.heap.size <= w4.heap.size) := Lh HW4.out.size
 clear hfull hb6 hsl hbuf hrv
 go_wp2_with fail
 refine HRV.out.mono ?_; rintro e w7 ⟨rfl, hb7, ho7⟩
 have HW7 := Lh (HW6.out.trans (ho7.below HG.out HW6.out.size))
 rw [show (splice Z 0 R).reverse = padR R by rw [<- HZ.out]; rfl] at hb7
 have HB7 := Lh hb7
 clear hb7 ho7 HRV
 go_wp2_with fail
 go_ret2
 exact ⟨padR R, _, padR_length R hRl, HC.out, rfl, by rw [show (Value.slice (some ⟨w4.heap.size, 0, none⟩) 32 32) = .slice (some ⟨w4.heap.size, 0, none⟩) (padR R).length 32 by rw [padR_length R hRl]]; exact ⟨_, _, rfl, HB7.out.row⟩, HW7.out⟩
end Go.Proofs.YtffheegeaghfjaaGreatDoor
