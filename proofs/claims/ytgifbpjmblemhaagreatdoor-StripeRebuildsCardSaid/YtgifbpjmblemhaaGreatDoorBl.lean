/- The code's blocks: Pad, blank, lay, whole, Column, parity. -/
import Derived.Test.YtgifbpjmblemhaaGreatDoorRb
import Derived.Test.YtgifbpjmblemhaaGreatDoorMt
import Derived.Test.YtgifbpjmblemhaaGreatDoorSh
import Derived.Test.YtgifbpjmblemhaaGreatDoorPe
namespace Go.Proofs.YtgifbpjmblemhaaGreatDoor
open Go.RowKit
set_option linter.unusedVariables false
set_option linter.unusedSimpArgs false
theorem pad_splice (f : List UInt8) (N : Nat) (h : 8 * nbk f.length = N) : splice (List.replicate N 0) 0 f = padL f := by
  have hl := nbk_le f.length
  refine list_ext (by rw [length_splice _ _ _ (by simp; omega)]; simp [h]) fun i hi => ?_
  rw [length_splice _ _ _ (by simp; omega)] at hi
  rw [co_splice _ _ _ _ (by simp; omega), zeros_co]
  unfold padL
  rw [co_app]
  by_cases h1 : i < f.length
  · rw [if_pos ⟨by omega, by omega⟩, if_pos h1, Nat.sub_zero]
  · rw [if_neg (by omega), if_neg h1, zeros_co]
/-- blocks of eight bytes in memory that the call owns -/
def Mat8 (W : World) (B gO R : Nat) (Gb : Nat → Nat) (m : Nat → Nat → UInt8) : Prop := Mat W B gO R 8 R Gb (fun _ => 8) m
theorem Mat8.els {W : World} {B gO R : Nat} {Gb : Nat → Nat} {m : Nat → Nat → UInt8} (h : Mat8 W B gO R Gb m) (bs : List (List UInt8)) (hl : bs.length = R) (he : ∀ i, i < R → bi bs i = tab (m i) 8) : RbIs W (some ⟨gO, 0, none⟩) bs R := by
  have h1 := h.lt
  refine ⟨(List.range R).map fun i => .slice (some ⟨Gb i, 0, none⟩) 8 8, ⟨by simp, h.cap.2, (fun e => by cases e), fun h0 => ⟨gO, 0, rfl, h1.2, fun i v hv => ?_⟩⟩, ⟨?_, fun i x hx => ?_⟩⟩
  · have hi := (List.getElem?_eq_some_iff.1 hv).1
    simp at hi
    rw [Nat.zero_add, h.hdr i hi]
    simp [hi] at hv
    rw [hv]
  · simp [hl]
  · have hi := (List.getElem?_eq_some_iff.1 hx).1
    simp at hi
    simp [hi] at hx
    subst hx
    rw [he i hi]
    have hr := (h.row i hi).1.row
    exact ⟨_, _, by rw [tab_length], hr⟩
def bnk (n k : Nat) (Gb : Nat → Nat) : List Value := ((List.range k).map fun i => (.slice (some ⟨Gb i, 0, none⟩) 8 8 : Value)) ++ List.replicate (n - k) (.slice none 0 0)
theorem bnk_set (n k g : Nat) (Gb : Nat → Nat) (h : k < n) : (bnk n k Gb).set k (.slice (some ⟨g, 0, none⟩) 8 8) = bnk n (k + 1) (fun i => if i = k then g else Gb i) := by
  unfold bnk
  refine List.ext_getElem (by simp; omega) fun i h1 h2 => ?_
  simp at h1
  rw [List.getElem_set]
  by_cases e : k = i
  · subst e
    rw [if_pos rfl, List.getElem_append_left (by simp)]
    simp
  · rw [if_neg e]
    by_cases h3 : i < k
    · rw [List.getElem_append_left (by simpa using h3), List.getElem_append_left (by simp; omega)]
      simp [show i ≠ k by omega]
    · rw [List.getElem_append_right (by simpa using h3), List.getElem_append_right (by simp; omega)]
      simp
structure BnkIs (w : World) (n g0 k : Nat) (Gb : Nat → Nat) (wr : World) : Prop where
  own : wr.ownsRow w.heap.size 24 1 (.slice (some ⟨g0, 0, none⟩) n n) n (bnk n k Gb)
  row : ∀ i, i < k → Buf wr (Gb i) 8 (tab (fun _ => 0) 8) ∧ w.heap.size ≤ Gb i
  apart : ∀ i j, i < k → j < k → Gb i = Gb j → i = j
  below : Below w.heap.size w wr
def BnAt (w : World) (n g0 : Nat) (iv : Value) (wr : World) : Prop := ∃ (k : Nat) (Gb : Nat → Nat), k ≤ n ∧ iv = .int .i64 k ∧ BnkIs w n g0 k Gb wr
theorem own_kindB {W : World} {B g0 n : Nat} {xs : List Value} (h : W.ownsRow B 24 1 (.slice (some ⟨g0, 0, none⟩) n n) n xs) {g cap : Nat} {ys : List UInt8} (hb : Buf W g cap ys) : g0 ≠ g := fun e => by
  obtain ⟨cur2, h2⟩ := hb.cells
  rcases h.2 with ⟨h1, _⟩ | ⟨g', cap', cur, h1, _, h3, _⟩
  · cases h1
  · cases h1
    rw [e, h2] at h3
    cases h3
theorem BnkIs.step {w : World} {n g0 k : Nat} {Gb : Nat → Nat} {wr w2 : World} (h : BnkIs w n g0 k Gb wr) (hk : k < n) (hb : Below wr.heap.size wr w2) (g : Nat) (hg : wr.heap.size ≤ g) (hB : Buf w2 g 8 (tab (fun _ => 0) 8)) :
    BnkIs w n g0 (k + 1) (fun i => if i = k then g else Gb i) (w2.setCell ⟨g0, k, none⟩ (.slice (some ⟨g, 0, none⟩) 8 8)) := by
  have hlt := World.ownsRow.lt h.own g0 rfl
  have hown2 : w2.ownsRow w.heap.size 24 1 (.slice (some ⟨g0, 0, none⟩) n n) n (bnk n k Gb) := World.ownsRow.kept (row := none) h.own ⟨hb.os, hb.tape, hb.output, hb.size, fun i hi _ => hb.block i hi⟩ (.inr (by simp [Value.ownBlock]))
  have hs := World.ownsRow.stored hown2 k (.slice (some ⟨g, 0, none⟩) 8 8)
  rw [bnk_set n k g Gb hk] at hs
  have hkeep : ∀ g' cap ys, Buf w2 g' cap ys → Buf (w2.setCell ⟨g0, k, none⟩ (.slice (some ⟨g, 0, none⟩) 8 8)) g' cap ys := fun g' cap ys hb' => World.ownsRow.kept hb' hs.2 (.inr fun e => own_kindB hown2 hb' (Option.some.inj (show some g' = some g0 from e)).symm)
  have hb2 := h.below
  refine ⟨hs.1, fun i hi => ?_, fun i j hi hj e => ?_, ?_⟩
  · by_cases e : i = k
    · subst e
      rw [if_pos rfl]
      exact ⟨hkeep _ _ _ hB, by have := hb2.size; omega⟩
    · rw [if_neg e]
      have hr := h.row i (by omega)
      exact ⟨hkeep _ _ _ (hr.1.later hb), hr.2⟩
  · by_cases ei : i = k
    · by_cases ej : j = k
      · omega
      · rw [if_pos ei, if_neg ej] at e
        have := (h.row j (by omega)).1.lt
        omega
    · by_cases ej : j = k
      · rw [if_neg ei, if_pos ej] at e
        have := (h.row i (by omega)).1.lt
        omega
      · rw [if_neg ei, if_neg ej] at e
        exact h.apart i j (by omega) (by omega) e
  · have h3 := Kit.step hb2 hb
    exact h3.trans (Only.below hs.2 hlt.1 h3.size)
set_option maxRecDepth 100000 in
set_option maxHeartbeats 1000000 in
theorem blank_any (n : Nat) (w : World) (hn : n ≤ 1000) :
    Calls Tryz.prog 23 #[.int .i64 (n : Int)] w fun e w' => ∃ gO Gb, e = .returned (.slice (some ⟨gO, 0, none⟩) n n) ∧ Mat8 w' w.heap.size gO n Gb (fun _ _ => 0) ∧ Below w.heap.size w w' := by
  obtain ⟨i0, hi, hz0, hz1, hz2⟩ := info_parts info_u8
  obtain ⟨i1, hi1, hy0, hy1, hy2⟩ := info_parts info_rowB
  go_enter Tryz.func23, Tryz.ntmps23
  go_wp2_with (at_make; refine wpList_make_full _ rfl _ _ 22 rfl w.heap.size 24 i1 (.slice none 0 0) 1 Tryz.underlying22 hi1 hy0 hy1 _ _ _ _ n rfl rfl (by omega) (by omega) (by rw [hy2]; omega) (by unfold maxLen; omega) (Nat.le_refl _) ?_)
  intro w1 hown hgrow
  have hb1 : Below w.heap.size w w1 := (Below.refl _ _).grown hgrow (Nat.le_refl _) (fun k h => by cases h)
  have HST : Hid (BnkIs w n w.heap.size 0 (fun _ => 0) w1) := Lib.hid ⟨by
    have e : bnk n 0 (fun _ => 0) = (madeCells #[(.slice none 0 0 : Value)] n).toList := by
      rw [toList_madeCells_one]
      simp [bnk]
    rw [e]; exact hown, fun i hi => absurd hi (by omega), fun i j hi => absurd hi (by omega), hb1⟩
  clear hown hgrow hb1
  go_wp2_with fail
  go_loopw [4, 9] (fun _ iv wr => BnAt w n w.heap.size iv wr) (fun _ iv _ => n - (intOf iv).toNat)
  case atStart => exact ⟨0, fun _ => 0, Nat.zero_le _, rfl, HST.out⟩
  case round =>
    obtain ⟨k, Gb, hk, rfl, hs⟩ := hrel
    have HS := Lib.hid hs
    by_cases hlt : k < n
    · have hk0 : (0 : Int) ≤ (k : Int) := by omega
      have hk1 : (k : Int) < (n : Int) := by omega
      clear hs
      go_wp2_with (at_make; refine wpList_make_full _ rfl _ _ 24 rfl 0 5 i0 (.int .u8 0) 1 Tryz.underlying24 hi hz0 hz1 _ _ _ _ 8 rfl rfl (by omega) (by omega) (by rw [hz2]; omega) (by unfold maxLen; omega) (Nat.zero_le _) ?_)
      intro w2 hown hgrow
      have hb2 : Below wr.heap.size wr w2 := (Below.refl _ _).grown hgrow (Nat.le_refl _) (fun k h => by cases h)
      have hbuf : Buf w2 wr.heap.size 8 (tab (fun _ => 0) 8) := by
        have := buf_made hown
        exact this
      have hown2 : w2.ownsRow w.heap.size 24 1 (.slice (some ⟨w.heap.size, 0, none⟩) n n) n (bnk n k Gb) := World.ownsRow.kept (row := none) HS.out.own ⟨hb2.os, hb2.tape, hb2.output, hb2.size, fun i hi _ => hb2.block i hi⟩ (.inr (by simp [Value.ownBlock]))
      have hc1 : w2.cell? ⟨w.heap.size, k, none⟩ = some (.slice none 0 0) := by
        rw [World.ownsRow.cellAt hown2 k (by omega)]
        unfold bnk
        rw [List.getElem?_append_right (by simp)]
        simp [List.getElem?_replicate]; omega
      have hf1 := World.ownsRow.frozenAt hown2 k
      have HX := Lib.hid (HS.out.step hlt hb2 wr.heap.size (Nat.le_refl _) hbuf)
      clear hown hgrow hb2 hbuf hown2
      go_wp2_with fail
      go_roundw
      case rel => exact ⟨k + 1, _, by omega, by go_num, HX.out⟩
      case measure => simp [intOf]; omega
    · obtain rfl : k = n := by omega
      clear hs
      go_wp2_with fail
      go_ret
      refine ⟨w.heap.size, Gb, rfl, ⟨?_, fun i hi => HS.out.row i hi, HS.out.apart⟩, HS.out.below⟩
      have := HS.out.own
      unfold bnk at this
      simpa using this
theorem apart_len {W : World} {g c : Nat} {o : Option Addr} {ys z : List UInt8} (hb : Buf W g 8 ys) (hr : RowIs W o (bytesV z) c) (hz : 8 < z.length) : ∀ p, o = some p → p.block ≠ g := fun p e e2 => by
  obtain ⟨b, off, rfl, _, hc⟩ := hr.cells (by simp; omega)
  cases e
  have h1 := hc 8 _ (bytesV_get z 8 hz)
  rcases hb.2 with ⟨h2, _⟩ | ⟨g', cap', cur, h2, _, h3, _, _, h4, _⟩
  · cases h2
  · cases h2
    have e3 : b = g := e2
    subst e3
    unfold World.cell? at h1
    rw [h3] at h1
    have : ¬ off + 8 < cur.size := by omega
    simp [this] at h1
def layM (m : Nat → Nat → UInt8) (z : List UInt8) (j k : Nat) (i b : Nat) : UInt8 := if b = j ∧ i < k then co z i else m i b
theorem layM_step (m : Nat → Nat → UInt8) (z : List UInt8) (j k i b : Nat) : put2 (layM m z j k) k j (co z k) i b = layM m z j (k + 1) i b := by
  unfold put2 layM
  by_cases h : i = k ∧ b = j
  · obtain ⟨rfl, rfl⟩ := h
    rw [if_pos ⟨rfl, rfl⟩, if_pos ⟨rfl, by omega⟩]
  · rw [if_neg h]
    by_cases h2 : b = j ∧ i < k
    · rw [if_pos h2, if_pos ⟨h2.1, by omega⟩]
    · rw [if_neg h2, if_neg (fun h3 => by
        rcases Nat.lt_or_ge i k with h4 | h4
        · exact h2 ⟨h3.1, h4⟩
        · exact h ⟨by omega, h3.1⟩)]
def LyAt (B gO R : Nat) (Gb : Nat → Nat) (m : Nat → Nat → UInt8) (z : List UInt8) (j b1 off1 : Nat) (w : World) (iv : Value) (wr : World) : Prop :=
  ∃ k : Nat, k ≤ z.length ∧ iv = .int .i64 k ∧ Mat8 wr B gO R Gb (layM m z j k) ∧ (∀ i, i < z.length → wr.cell? ⟨b1, off1 + i, none⟩ = some (.int .u8 ((co z i).toNat : Int))) ∧ Below B w wr
set_option maxRecDepth 100000 in
set_option maxHeartbeats 1000000 in
theorem lay_any (B gO R : Nat) (Gb : Nat → Nat) (m : Nat → Nat → UInt8) (z : List UInt8) (j cz : Nat) (oz : Option Addr) (w : World) (hM : Mat8 w B gO R Gb m) (hZ : RowIs w oz (bytesV z) cz) (hj : j < 8) (hz : 8 < z.length) (hzR : z.length ≤ R) (hB : B ≤ w.heap.size) :
    Calls Tryz.prog 25 #[.slice (some ⟨gO, 0, none⟩) R R, .int .i64 (j : Int), .slice oz z.length cz] w fun e w' => e = .returned (.tuple #[]) ∧ Mat8 w' B gO R Gb (layM m z j z.length) ∧ Below B w w' := by
  have h1 := hZ.le
  have h2 := hZ.cap
  have h3 := hM.cap.2
  simp only [bytesV_length] at h1
  unfold maxLen at h2 h3
  obtain ⟨b1, off1, rfl, hb1, hcell⟩ := hZ.cells (by simp; omega)
  have hap : ∀ i, i < R → b1 ≠ Gb i := fun i hi e => apart_len (hM.row i hi).1 hZ hz _ rfl e
  have HM0 : Hid (Mat8 w B gO R Gb (layM m z j 0)) := Lib.hid (hM.congr fun i b hi hb => by unfold layM; rw [if_neg (by omega)])
  have HAP := Lib.hid hap
  have HCE : Hid (∀ k, k < z.length → w.cell? ⟨b1, off1 + k, none⟩ = some (.int .u8 ((co z k).toNat : Int))) := Lib.hid fun k hk => hcell k _ (bytesV_get z k hk)
  clear hM hZ hap hcell
  go_enter Tryz.func25, Tryz.ntmps25
  go_wp2_with fail
  go_loopw [6, 7, 10] (fun _ _ iv wr => LyAt B gO R Gb m z j b1 off1 w iv wr) (fun _ _ iv _ => z.length - (intOf iv).toNat)
  case atStart => exact ⟨0, Nat.zero_le _, rfl, HM0.out, HCE.out, Below.refl _ _⟩
  case round =>
    obtain ⟨k, hk, rfl, hm, hce, hb⟩ := hrel
    have HM := Lib.hid hm
    have HC := Lib.hid hce
    have HB' := Lib.hid hb
    by_cases hlt : k < z.length
    · have hk0 : (0 : Int) ≤ (k : Int) := by omega
      have hk1 : (k : Int) < (z.length : Int) := by omega
      have hk2 : (k : Int) < (R : Int) := by omega
      have hkR : k < R := by omega
      have hc1 := hce k hlt
      have hc2 := hm.hdr k hkR
      have hc3 := hm.cell k j hkR hj
      have hf3 := hm.frozen k j hkR
      have hst := hm.store k j hkR hj (co z k)
      have hj0 : (0 : Int) ≤ (j : Int) := by omega
      have hj1 : (j : Int) < 8 := by omega
      have HST := Lib.hid hst.1
      have HSO := Lib.hid hst.2
      have HXC : Hid (∀ i, i < z.length → (wr.setCell ⟨Gb k, j, none⟩ (.int .u8 ((co z k).toNat : Int))).cell? ⟨b1, off1 + i, none⟩ = some (.int .u8 ((co z i).toNat : Int))) := Lib.hid fun i hi => hst.2.cell (p := ⟨b1, off1 + i, none⟩) (HAP.out k hkR) (hce i hi)
      have HL : Hid (∀ a b, put2 (layM m z j k) k j (co z k) a b = layM m z j (k + 1) a b) := Lib.hid (layM_step m z j k)
      have HBG : Hid (B ≤ Gb k) := Lib.hid (hm.row k hkR).2
      generalize co z k = x at *
      generalize layM m z j k k j = y at *
      have hxl := UInt8.toNat_lt x
      have hyl := UInt8.toNat_lt y
      clear hm hce hb hst hkR
      go_wp2_with fail
      go_roundw
      case rel => exact ⟨k + 1, by omega, by go_num, HST.out.congr fun i b _ _ => HL.out i b, HXC.out, HB'.out.trans (Only.below HSO.out HBG.out (Nat.le_trans hB HB'.out.size))⟩
      case measure => simp [intOf]; omega
    · obtain rfl : k = z.length := by omega
      clear hm hce hb
      go_wp2_with fail
      go_end0
      exact ⟨rfl, HM.out, HB'.out⟩
theorem whole_yes (p : Option Addr) (q : Nat) (w : World) : Calls Tryz.prog 21 #[.slice p 8 q] w fun e w' => e = .returned (.bool true) ∧ w' = w := by
  go_enter Tryz.func21, Tryz.ntmps21
  go_wp2
  go_ret
  exact ⟨rfl, rfl⟩
theorem whole_no (p : Option Addr) (L q : Nat) (w : World) (h : L ≠ 8) (hL : L ≤ 9223372036854775807) : Calls Tryz.prog 21 #[.slice p L q] w fun e w' => e = .returned (.bool false) ∧ w' = w := by
  have h1 : ((L : Int) == 8) = false := beq_false_of_ne (by omega)
  have h2 : decide ((L : Int) = 8) = false := decide_eq_false (by omega)
  clear h
  go_enter Tryz.func21, Tryz.ntmps21
  go_wp2
  go_ret
  exact ⟨rfl, rfl⟩
/-- a column, as far as it has been read -/
def colAt (bs : List (List UInt8)) (jj n k : Nat) : List UInt8 := tab (fun i => if i < k then colV (bi bs i) jj else 0) n
theorem colAt_zero (bs : List (List UInt8)) (jj n : Nat) : colAt bs jj n 0 = List.replicate n 0 := list_ext (by simp [colAt]) fun i hi => by
  unfold colAt
  rw [co_tab _ _ _ (by simpa [colAt] using hi), if_neg (by omega), zeros_co]
theorem colAt_full (bs : List (List UInt8)) (jj : Nat) : colAt bs jj bs.length bs.length = colB bs jj := list_ext (by simp [colAt]) fun i hi => by
  have hi : i < bs.length := by simpa [colAt] using hi
  unfold colAt
  rw [co_tab _ _ _ hi, if_pos hi, co_colB _ _ _ hi]
theorem colAt_yes (bs : List (List UInt8)) (jj n k : Nat) (hk : k < n) (h : (bi bs k).length = 8) : (colAt bs jj n k).set k (co (bi bs k) jj) = colAt bs jj n (k + 1) := list_ext (by simp [colAt]) fun i hi => by
  have hi : i < n := by simpa [colAt] using hi
  rw [co_set]
  unfold colAt
  rw [co_tab _ _ _ hi, co_tab _ _ _ hi]
  by_cases e : k = i
  · subst e
    rw [if_pos ⟨rfl, by simpa using hi⟩, if_pos (by omega)]
    unfold colV
    rw [if_pos h]
  · rw [if_neg (fun g => e g.1)]
    by_cases h2 : i < k
    · rw [if_pos h2, if_pos (by omega)]
    · rw [if_neg h2, if_neg (by omega)]
theorem colAt_no (bs : List (List UInt8)) (jj n k : Nat) (h : ¬ (bi bs k).length = 8) : colAt bs jj n (k + 1) = colAt bs jj n k := list_ext (by simp [colAt]) fun i hi => by
  have hi : i < n := by simpa [colAt] using hi
  unfold colAt
  rw [co_tab _ _ _ hi, co_tab _ _ _ hi]
  by_cases e : i = k
  · subst e
    rw [if_pos (by omega), if_neg (by omega)]
    unfold colV
    rw [if_neg h]
  · by_cases h2 : i < k
    · rw [if_pos h2, if_pos (by omega)]
    · rw [if_neg h2, if_neg (by omega)]
def ColAt (bs : List (List UInt8)) (jj n : Nat) (w : World) (iv : Value) (wr : World) : Prop :=
  ∃ k : Nat, k ≤ n ∧ iv = .int .i64 k ∧ Buf wr w.heap.size n (colAt bs jj n k) ∧ Below w.heap.size w wr
set_option maxRecDepth 100000 in
set_option maxHeartbeats 1000000 in
theorem column_pos (bs : List (List UInt8)) (o : Option Addr) (n c : Nat) (j : Int) (w : World) (hP : RbIs w o bs c) (hn : bs.length = n) (hl : n ≤ 1000) (hj : 0 ≤ j) (hj2 : j ≤ 9223372036854775807) :
    Calls Tryz.prog 9 #[.slice o n c, .int .i64 j] w (Own (colB bs (j % 8).toNat) w) := by
  obtain ⟨i0, hi, hz0, hz1, hz2⟩ := info_parts info_u8
  have h1 := hP.le.1
  have h2 := hP.le.2
  rw [hn] at h1
  unfold maxLen at h2
  have HP := Lib.hid hP
  have HN := Lib.hid hn
  obtain ⟨jj, hjj⟩ : ∃ jj : Nat, (j % 8).toNat = jj := ⟨_, rfl⟩
  have hje : j % 8 = (jj : Int) := by omega
  have hj8 : jj < 8 := by omega
  have hjI0 : (0 : Int) ≤ (jj : Int) := by omega
  have hjI : (jj : Int) < 8 := by omega
  have hd : decide ((jj : Int) < 0) = false := decide_eq_false (by omega)
  rw [hjj]
  clear hP hn hjj
  go_enter Tryz.func9, Tryz.ntmps9
  go_wp2_with (at_make; refine wpList_make_full _ rfl _ _ 24 rfl 0 5 i0 (.int .u8 0) 1 Tryz.underlying24 hi hz0 hz1 _ _ _ _ n rfl rfl (by omega) (by omega) (by rw [hz2]; omega) (by unfold maxLen; omega) (Nat.zero_le _) ?_)
  intro w1 hown hgrow
  have HB1 : Hid (Below w.heap.size w w1) := Lib.hid ((Below.refl _ _).grown hgrow (Nat.le_refl _) (fun k h => by cases h))
  have HBF : Hid (Buf w1 w.heap.size n (colAt bs jj n 0)) := Lib.hid (by rw [colAt_zero]; exact buf_made hown)
  clear hown hgrow
  go_wp2_with fail
  go_loopw [6, 7, 19] (fun _ _ iv wr => ColAt bs jj n w iv wr) (fun _ _ iv _ => n - (intOf iv).toNat)
  case atStart => exact ⟨0, Nat.zero_le _, rfl, HBF.out, HB1.out⟩
  case round =>
    obtain ⟨k, hk, rfl, hb, hbl⟩ := hrel
    have HBU := Lib.hid hb
    have HBL := Lib.hid hbl
    by_cases hlt : k < n
    · have hk0 : (0 : Int) ≤ (k : Int) := by omega
      have hk1 : (k : Int) < (n : Int) := by omega
      obtain ⟨b1, off1, p, q, rfl, _, hc1, hrow⟩ := (HP.out.later hbl).cell k (by have := HN.out; omega)
      by_cases h8 : (bi bs k).length = 8
      · have hst := hb.store k (co (bi bs k) jj)
        have HST : Hid (Buf (wr.setCell ⟨w.heap.size, k, none⟩ (.int .u8 ((co (bi bs k) jj).toNat : Int))) w.heap.size n (colAt bs jj n (k + 1))) := Lib.hid (by rw [← colAt_yes bs jj n k hlt h8]; exact hst.1)
        have HSO := Lib.hid hst.2
        rw [h8] at hc1
        obtain ⟨b2, off2, rfl, _, hc2⟩ := hrow.cells (by simp; omega)
        have hc3 : wr.cell? ⟨b2, off2 + jj, none⟩ = some (.int .u8 ((co (bi bs k) jj).toNat : Int)) := hc2 jj _ (bytesV_get _ jj (by omega))
        have hc4 := hb.cell k (by simp [colAt]; omega)
        have hf4 := hb.frozen k
        have hq2 := hrow.cap
        have hq1 := hrow.le
        simp at hq1
        rw [h8] at hq1
        unfold maxLen at hq2
        generalize co (bi bs k) jj = x at *
        generalize co (colAt bs jj n k) k = y at *
        have hxl := UInt8.toNat_lt x
        have hyl := UInt8.toNat_lt y
        clear hb hbl hst hrow hc2 h8
        go_wp2_with fail
        refine (whole_yes _ _ _).mono ?_; rintro e w' ⟨rfl, rfl⟩
        go_wp2_with fail
        go_roundw
        case rel => exact ⟨k + 1, by omega, by go_num, HST.out, HBL.out.trans (Only.below HSO.out (Nat.le_refl _) HBL.out.size)⟩
        case measure => simp [intOf]; omega
      · have HST : Hid (Buf wr w.heap.size n (colAt bs jj n (k + 1))) := Lib.hid (by rw [colAt_no bs jj n k h8]; exact hb)
        obtain ⟨L, hL⟩ : ∃ L, (bi bs k).length = L := ⟨_, rfl⟩
        rw [hL] at hc1 h8
        have hq1 := hrow.le
        have hq2 := hrow.cap
        simp at hq1
        rw [hL] at hq1
        unfold maxLen at hq2
        have HW := Lib.hid (whole_no p L q wr h8 (by omega))
        clear hb hbl hrow hL h8
        go_wp2_with fail
        refine HW.out.mono ?_; rintro e w' ⟨rfl, rfl⟩
        go_wp2_with fail
        go_roundw
        case rel => exact ⟨k + 1, by omega, by go_num, HST.out, HBL.out⟩
        case measure => simp [intOf]; omega
    · obtain rfl : k = n := by omega
      clear hb hbl
      go_wp2_with fail
      go_ret
      refine ⟨w.heap.size, k, ?_, Nat.le_refl _, ?_, HBL.out⟩
      · rw [colB_length, HN.out]; rfl
      · have := HBU.out
        rw [← HN.out, colAt_full] at this
        rw [← HN.out]
        exact this
set_option maxRecDepth 100000 in
set_option maxHeartbeats 1000000 in
theorem column_neg (bs : List (List UInt8)) (o : Option Addr) (n c : Nat) (j : Int) (w : World) (hP : RbIs w o bs c) (hn : bs.length = n) (hl : n ≤ 1000) (hj : j < 0) (hj2 : -9223372036854775808 ≤ j) :
    Calls Tryz.prog 9 #[.slice o n c, .int .i64 j] w (Own (colB bs (j % 8).toNat) w) := by
  obtain ⟨i0, hi, hz0, hz1, hz2⟩ := info_parts info_u8
  have h1 := hP.le.1
  have h2 := hP.le.2
  rw [hn] at h1
  unfold maxLen at h2
  have HP := Lib.hid hP
  have HN := Lib.hid hn
  obtain ⟨jj, hjj⟩ : ∃ jj : Nat, (j % 8).toNat = jj := ⟨_, rfl⟩
  have hj8 : jj < 8 := by omega
  have hjI0 : (0 : Int) ≤ (jj : Int) := by omega
  have hjI : (jj : Int) < 8 := by omega
  have htm : j.tmod 8 = -((-j) % 8) := by
    have h := Int.neg_tmod (-j) 8
    rw [Int.neg_neg] at h
    rw [h, Int.tmod_eq_emod_of_nonneg (by omega)]
  rw [hjj]
  by_cases h0 : j % 8 = 0
  · have hr : j.tmod 8 = (jj : Int) := by omega
    have hd : decide ((jj : Int) < 0) = false := decide_eq_false (by omega)
    clear hP hn hjj htm h0
    go_enter Tryz.func9, Tryz.ntmps9
    go_wp2_with (at_make; refine wpList_make_full _ rfl _ _ 24 rfl 0 5 i0 (.int .u8 0) 1 Tryz.underlying24 hi hz0 hz1 _ _ _ _ n rfl rfl (by omega) (by omega) (by rw [hz2]; omega) (by unfold maxLen; omega) (Nat.zero_le _) ?_)
    intro w1 hown hgrow
    have HB1 : Hid (Below w.heap.size w w1) := Lib.hid ((Below.refl _ _).grown hgrow (Nat.le_refl _) (fun k h => by cases h))
    have HBF : Hid (Buf w1 w.heap.size n (colAt bs jj n 0)) := Lib.hid (by rw [colAt_zero]; exact buf_made hown)
    clear hown hgrow
    go_wp2_with fail
    go_loopw [6, 7, 19] (fun _ _ iv wr => ColAt bs jj n w iv wr) (fun _ _ iv _ => n - (intOf iv).toNat)
    case atStart => exact ⟨0, Nat.zero_le _, rfl, HBF.out, HB1.out⟩
    case round =>
      obtain ⟨k, hk, rfl, hb, hbl⟩ := hrel
      have HBU := Lib.hid hb
      have HBL := Lib.hid hbl
      by_cases hlt : k < n
      · have hk0 : (0 : Int) ≤ (k : Int) := by omega
        have hk1 : (k : Int) < (n : Int) := by omega
        obtain ⟨b1, off1, p, q, rfl, _, hc1, hrow⟩ := (HP.out.later hbl).cell k (by have := HN.out; omega)
        by_cases h8 : (bi bs k).length = 8
        · have hst := hb.store k (co (bi bs k) jj)
          have HST : Hid (Buf (wr.setCell ⟨w.heap.size, k, none⟩ (.int .u8 ((co (bi bs k) jj).toNat : Int))) w.heap.size n (colAt bs jj n (k + 1))) := Lib.hid (by rw [← colAt_yes bs jj n k hlt h8]; exact hst.1)
          have HSO := Lib.hid hst.2
          rw [h8] at hc1
          obtain ⟨b2, off2, rfl, _, hc2⟩ := hrow.cells (by simp; omega)
          have hc3 : wr.cell? ⟨b2, off2 + jj, none⟩ = some (.int .u8 ((co (bi bs k) jj).toNat : Int)) := hc2 jj _ (bytesV_get _ jj (by omega))
          have hc4 := hb.cell k (by simp [colAt]; omega)
          have hf4 := hb.frozen k
          have hq2 := hrow.cap
          have hq1 := hrow.le
          simp at hq1
          rw [h8] at hq1
          unfold maxLen at hq2
          generalize co (bi bs k) jj = x at *
          generalize co (colAt bs jj n k) k = y at *
          have hxl := UInt8.toNat_lt x
          have hyl := UInt8.toNat_lt y
          clear hb hbl hst hrow hc2 h8
          go_wp2_with fail
          refine (whole_yes _ _ _).mono ?_; rintro e w' ⟨rfl, rfl⟩
          go_wp2_with fail
          go_roundw
          case rel => exact ⟨k + 1, by omega, by go_num, HST.out, HBL.out.trans (Only.below HSO.out (Nat.le_refl _) HBL.out.size)⟩
          case measure => simp [intOf]; omega
        · have HST : Hid (Buf wr w.heap.size n (colAt bs jj n (k + 1))) := Lib.hid (by rw [colAt_no bs jj n k h8]; exact hb)
          obtain ⟨L, hL⟩ : ∃ L, (bi bs k).length = L := ⟨_, rfl⟩
          rw [hL] at hc1 h8
          have hq1 := hrow.le
          have hq2 := hrow.cap
          simp at hq1
          rw [hL] at hq1
          unfold maxLen at hq2
          have HW := Lib.hid (whole_no p L q wr h8 (by omega))
          clear hb hbl hrow hL h8
          go_wp2_with fail
          refine HW.out.mono ?_; rintro e w' ⟨rfl, rfl⟩
          go_wp2_with fail
          go_roundw
          case rel => exact ⟨k + 1, by omega, by go_num, HST.out, HBL.out⟩
          case measure => simp [intOf]; omega
      · obtain rfl : k = n := by omega
        clear hb hbl
        go_wp2_with fail
        go_ret
        refine ⟨w.heap.size, k, ?_, Nat.le_refl _, ?_, HBL.out⟩
        · rw [colB_length, HN.out]; rfl
        · have := HBU.out
          rw [← HN.out, colAt_full] at this
          rw [← HN.out]
          exact this
  · obtain ⟨r, hr⟩ : ∃ r, j.tmod 8 = r := ⟨_, rfl⟩
    have hr0 : r < 0 := by omega
    have hr1 : -8 ≤ r := by omega
    have hs : r + 8 = (jj : Int) := by omega
    have hd : decide (r < 0) = true := decide_eq_true hr0
    clear hP hn hjj htm h0
    go_enter Tryz.func9, Tryz.ntmps9
    go_wp2_with (at_make; refine wpList_make_full _ rfl _ _ 24 rfl 0 5 i0 (.int .u8 0) 1 Tryz.underlying24 hi hz0 hz1 _ _ _ _ n rfl rfl (by omega) (by omega) (by rw [hz2]; omega) (by unfold maxLen; omega) (Nat.zero_le _) ?_)
    intro w1 hown hgrow
    have HB1 : Hid (Below w.heap.size w w1) := Lib.hid ((Below.refl _ _).grown hgrow (Nat.le_refl _) (fun k h => by cases h))
    have HBF : Hid (Buf w1 w.heap.size n (colAt bs jj n 0)) := Lib.hid (by rw [colAt_zero]; exact buf_made hown)
    clear hown hgrow
    go_wp2_with fail
    go_loopw [6, 7, 19] (fun _ _ iv wr => ColAt bs jj n w iv wr) (fun _ _ iv _ => n - (intOf iv).toNat)
    case atStart => exact ⟨0, Nat.zero_le _, rfl, HBF.out, HB1.out⟩
    case round =>
      obtain ⟨k, hk, rfl, hb, hbl⟩ := hrel
      have HBU := Lib.hid hb
      have HBL := Lib.hid hbl
      by_cases hlt : k < n
      · have hk0 : (0 : Int) ≤ (k : Int) := by omega
        have hk1 : (k : Int) < (n : Int) := by omega
        obtain ⟨b1, off1, p, q, rfl, _, hc1, hrow⟩ := (HP.out.later hbl).cell k (by have := HN.out; omega)
        by_cases h8 : (bi bs k).length = 8
        · have hst := hb.store k (co (bi bs k) jj)
          have HST : Hid (Buf (wr.setCell ⟨w.heap.size, k, none⟩ (.int .u8 ((co (bi bs k) jj).toNat : Int))) w.heap.size n (colAt bs jj n (k + 1))) := Lib.hid (by rw [← colAt_yes bs jj n k hlt h8]; exact hst.1)
          have HSO := Lib.hid hst.2
          rw [h8] at hc1
          obtain ⟨b2, off2, rfl, _, hc2⟩ := hrow.cells (by simp; omega)
          have hc3 : wr.cell? ⟨b2, off2 + jj, none⟩ = some (.int .u8 ((co (bi bs k) jj).toNat : Int)) := hc2 jj _ (bytesV_get _ jj (by omega))
          have hc4 := hb.cell k (by simp [colAt]; omega)
          have hf4 := hb.frozen k
          have hq2 := hrow.cap
          have hq1 := hrow.le
          simp at hq1
          rw [h8] at hq1
          unfold maxLen at hq2
          generalize co (bi bs k) jj = x at *
          generalize co (colAt bs jj n k) k = y at *
          have hxl := UInt8.toNat_lt x
          have hyl := UInt8.toNat_lt y
          clear hb hbl hst hrow hc2 h8
          go_wp2_with fail
          refine (whole_yes _ _ _).mono ?_; rintro e w' ⟨rfl, rfl⟩
          go_wp2_with fail
          go_roundw
          case rel => exact ⟨k + 1, by omega, by go_num, HST.out, HBL.out.trans (Only.below HSO.out (Nat.le_refl _) HBL.out.size)⟩
          case measure => simp [intOf]; omega
        · have HST : Hid (Buf wr w.heap.size n (colAt bs jj n (k + 1))) := Lib.hid (by rw [colAt_no bs jj n k h8]; exact hb)
          obtain ⟨L, hL⟩ : ∃ L, (bi bs k).length = L := ⟨_, rfl⟩
          rw [hL] at hc1 h8
          have hq1 := hrow.le
          have hq2 := hrow.cap
          simp at hq1
          rw [hL] at hq1
          unfold maxLen at hq2
          have HW := Lib.hid (whole_no p L q wr h8 (by omega))
          clear hb hbl hrow hL h8
          go_wp2_with fail
          refine HW.out.mono ?_; rintro e w' ⟨rfl, rfl⟩
          go_wp2_with fail
          go_roundw
          case rel => exact ⟨k + 1, by omega, by go_num, HST.out, HBL.out⟩
          case measure => simp [intOf]; omega
      · obtain rfl : k = n := by omega
        clear hb hbl
        go_wp2_with fail
        go_ret
        refine ⟨w.heap.size, k, ?_, Nat.le_refl _, ?_, HBL.out⟩
        · rw [colB_length, HN.out]; rfl
        · have := HBU.out
          rw [← HN.out, colAt_full] at this
          rw [← HN.out]
          exact this
theorem column_any (bs : List (List UInt8)) (o : Option Addr) (n c : Nat) (j : Int) (w : World) (hP : RbIs w o bs c) (hn : bs.length = n) (hl : n ≤ 1000) (hj : -9223372036854775808 ≤ j ∧ j ≤ 9223372036854775807) :
    Calls Tryz.prog 9 #[.slice o n c, .int .i64 j] w (Own (colB bs (j % 8).toNat) w) := by
  by_cases h : 0 ≤ j
  · exact column_pos bs o n c j w hP hn hl h hj.2
  · exact column_neg bs o n c j w hP hn hl (by omega) hj.1
end Go.Proofs.YtgifbpjmblemhaaGreatDoor
