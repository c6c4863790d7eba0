/- slices.Reverse, slices.Clone over bytes; the code's turned lists. The code's parity symbols: what is left of long division, put behind the data, makes a code word. Whether a word is right; a word's data. slices.Concat of two rows; code words. Concat and Encode: the answer is a row of its own. Rows of Booleans. -/
import Derived.Test.YtfccpfmgkpcnoaaDoorApw
import Derived.Test.YtfccpfmgkpcnoaaDoorMu
import Derived.Deep.Onto
import Derived.BigRegion
import Derived.Lib.Hide
import Derived.Lib.SliceRun
import Derived.Test.YtfccpfmgkpcnoaaDoorCg
import Derived.Test.YtfccpfmgkpcnoaaDoorTs
import Derived.Test.YtfccpfmgkpcnoaaDoorDv
import Derived.Test.YtfccpfmgkpcnoaaDoorGn
import Derived.Test.YtfccpfmgkpcnoaaDoorErr
import Derived.Test.YtfccpfmgkpcnoaaDoorOf
import Derived.Deep.QuietTactic
import Derived.BigQuiet
namespace Go.Proofs.YtfccpfmgkpcnoaaDoor
open Go.RowKit
set_option linter.unusedVariables false
set_option linter.unusedSimpArgs false
/-- a list when so many have been turned at either end -/
def revAt (ys : List UInt8) (k : Nat) : List UInt8 := tab (fun m => if m < k ∨ ys.length ≤ m + k then co ys (ys.length - 1 - m) else co ys m) ys.length
@[simp] theorem revAt_length (ys : List UInt8) (k : Nat) : (revAt ys k).length = ys.length := by simp [revAt]
theorem co_revAt (ys : List UInt8) (k m : Nat) (h : m < ys.length) : co (revAt ys k) m = if m < k ∨ ys.length ≤ m + k then co ys (ys.length - 1 - m) else co ys m := co_tab _ _ _ h
theorem revAt_zero (ys : List UInt8) : revAt ys 0 = ys := list_ext (by simp) fun m hm => by
  simp at hm
  rw [co_revAt _ _ _ hm, if_neg (by omega)]
theorem co_reverse (a : List UInt8) (m : Nat) (h : m < a.length) : co a.reverse m = co a (a.length - 1 - m) := by
  simp [co, List.getD_eq_getElem?_getD, h, List.getElem?_reverse, show a.length - 1 - m < a.length by omega]
theorem revAt_done (ys : List UInt8) (k : Nat) (h : ys.length ≤ 2 * k + 1) : revAt ys k = ys.reverse := list_ext (by simp) fun m hm => by
  simp at hm
  rw [co_revAt _ _ _ hm, co_reverse _ _ hm]
  by_cases e : m < k ∨ ys.length ≤ m + k
  · rw [if_pos e]
  · rw [if_neg e]
    congr 1
    omega
theorem revAt_step (ys : List UInt8) (k : Nat) (h : 2 * k + 1 < ys.length) : ((revAt ys k).set k (co (revAt ys k) (ys.length - 1 - k))).set (ys.length - 1 - k) (co (revAt ys k) k) = revAt ys (k + 1) := list_ext (by simp) fun m hm => by
  simp at hm
  rw [co_revAt _ _ _ hm, co_set, co_set, co_revAt _ _ _ (by omega), co_revAt _ _ _ (by omega), co_revAt _ _ _ hm]
  simp only [List.length_set, revAt_length]
  by_cases e1 : ys.length - 1 - k = m
  · rw [if_pos ⟨e1, by omega⟩, if_neg (by omega), if_pos (by omega)]
    congr 1
    omega
  · rw [if_neg (fun h => e1 h.1)]
    by_cases e2 : k = m
    · rw [if_pos ⟨e2, by omega⟩, if_neg (by omega), if_pos (by omega), e2]
    · rw [if_neg (fun h => e2 h.1)]
      by_cases e3 : m < k ∨ ys.length ≤ m + k
      · rw [if_pos e3, if_pos (by omega)]
      · rw [if_neg e3, if_neg (by omega)]
def RvAt (w : World) (ys : List UInt8) (g cap : Nat) (i j : Value) (wr : World) : Prop :=
  ∃ k : Nat, 2 * k ≤ ys.length + 1 ∧ i = .int .i64 k ∧ j = .int .i64 ((ys.length : Int) - 1 - k) ∧ Buf wr g cap (revAt ys k) ∧ Only g w wr
/-- a row of its own: in a block that was not there -/
def Own (z : List UInt8) (w : World) (e : Ending) (w' : World) : Prop := ∃ g cap, e = .returned (.slice (some ⟨g, 0, none⟩) z.length cap) ∧ w.heap.size ≤ g ∧ Buf w' g cap z ∧ Below w.heap.size w w'
theorem Own.rows {z : List UInt8} {w : World} {e : Ending} {w' : World} (h : Own z w e w') : Rows z w e w' := by
  obtain ⟨g, cap, rfl, hg, hb, hw⟩ := h
  exact ⟨_, rfl, ⟨_, _, rfl, hb.row⟩, hw⟩
theorem own_buf {w : World} {base n : Nat} {v : Value} {z : List UInt8} (h : w.ownsRow base 5 1 v n (bytesV z)) (h0 : 0 < n) (hn : n = z.length) : ∃ g cap, v = .slice (some ⟨g, 0, none⟩) z.length cap ∧ base ≤ g ∧ Buf w g cap z := by
  subst hn
  rcases h.2 with ⟨_, h1⟩ | ⟨g, cap, cur, rfl, hg, _⟩
  · omega
  · exact ⟨g, cap, rfl, hg, World.ownsRow.mono h (Nat.zero_le _)⟩
set_option maxRecDepth 100000 in
theorem grow_nil (n : Nat) (w : World) (h0 : 0 < n) (hl : n ≤ 10000) :
    Calls Tryd.prog 68 #[.slice none 0 0, .int .i64 n] w fun e w' => ∃ g cap, e = .returned (.slice (some ⟨g, 0, none⟩) 0 cap) ∧ w'.ownsRow w.heap.size 5 1 (.slice (some ⟨g, 0, none⟩) 0 cap) 0 (bytesV []) ∧ Below w.heap.size w w' := by
  have hd1 : decide ((n : Int) < 0) = false := decide_eq_false (by omega)
  have hd2 : decide ((0 : Int) < (n : Int)) = true := decide_eq_true (by omega)
  have HOWN : Hid (w.ownsRow w.heap.size 5 1 (.slice none 0 0) 0 (bytesV [])) := Lib.hid (World.ownsRow_nil _ _ _ _)
  go_enter Tryd.func68, Tryd.ntmps68
  go_wp2_with (at_builtin; refine append_zeros rfl (.tmp 20) (.tmp 21) rfl w.heap.size _ 0 [] rfl HOWN.out n h0 rfl (by omega) (by omega) (Nat.le_refl _) ?_)
  intro v2 w2 hv hgr
  have hb2 := own_below (n := 0) (Below.refl _ _) HOWN.out hgr
  obtain ⟨hl2, h3⟩ := hv
  rcases h3 with ⟨_, h3⟩ | ⟨g, cap, cur, rfl, hg, hh, h4, h5, h6, h7⟩
  · omega
  have hown : w2.ownsRow w.heap.size 5 1 (.slice (some ⟨g, 0, none⟩) 0 cap) 0 (bytesV []) := ⟨rfl, .inr ⟨g, cap, cur, rfl, hg, hh, Nat.zero_le _, h5, h6, by simp [bytesV]⟩⟩
  have HV := Lib.hid hown
  have HB := Lib.hid hb2
  unfold maxLen at h5
  clear hl2 hgr hb2 hg hh h6 h7 hown HOWN
  go_wp2
  go_ret
  exact ⟨g, cap, rfl, HV.out, HB.out⟩
end Go.Proofs.YtfccpfmgkpcnoaaDoor
namespace Go.Proofs.YtfccpfmgkpcnoaaDoor
open Go.RowKit
set_option linter.unusedVariables false
set_option linter.unusedSimpArgs false
/-- a rest of 32 symbols, the highest power first -/
def padR (R : List UInt8) : List UInt8 := (splice (List.replicate 32 0) 0 R).reverse
theorem padR_length (R : List UInt8) (h : R.length ≤ 32) : (padR R).length = 32 := by
  rw [padR, List.length_reverse, length_splice _ _ _ (by simp; omega), List.length_replicate]
theorem pad_code {d Y R : List UInt8} (hR : DivOf (tr (shiftL d.reverse 32)) (genL 32) Y R) : R.length ≤ 32 ∧ IsCode (d ++ padR R) := by
  have hl : R.length ≤ 32 := by
    have := hR.less
    rw [tr_gen, genL_length] at this
    omega
  refine ⟨hl, fun j hj => ?_⟩
  have e : d ++ padR R = (splice (List.replicate 32 0) 0 R ++ d.reverse).reverse := by simp [padR]
  rw [e, hv_reverse]
  have hs : (splice (List.replicate 32 (0 : UInt8)) 0 R).length = 32 := by rw [length_splice _ _ _ (by simp; omega), List.length_replicate]
  have h1 : ∀ k, co (splice (List.replicate 32 0) 0 R ++ d.reverse) k = co (addL R (shiftL d.reverse 32)) k := fun k => by
    rw [co_app, co_addL, hs]
    unfold shiftL
    rw [co_app, List.length_replicate]
    by_cases hk : k < 32
    · rw [if_pos hk, if_pos hk, zeros_co, UInt8.xor_zero, co_splice _ _ _ _ (by simp; omega)]
      by_cases hk2 : k < R.length
      · rw [if_pos ⟨Nat.zero_le _, by omega⟩, Nat.sub_zero]
      · rw [if_neg (by omega), zeros_co, co_ge (by omega)]
    · rw [if_neg hk, if_neg hk, co_ge (z := R) (by omega), UInt8.zero_xor]
  have h2 : ∀ k, co (tr (shiftL d.reverse 32)) k = co (addL (mulL Y (genL 32)) R) k := fun k => by rw [← hR.eq k, co_addL]
  rw [evL_congr h1, evL_add, ← evL_tr (shiftL d.reverse 32), evL_congr h2, evL_add, evL_mul, gen_root 32 j hj, Gf.gm_zero, UInt8.zero_xor, UInt8.xor_self]
def CparTo (d : List UInt8) (w : World) (e : Ending) (w' : World) : Prop :=
  ∃ r x, r.length = 32 ∧ IsCode (d ++ r) ∧ e = .returned (.tuple #[x, .nilIface]) ∧ RowV r x w' ∧ Below w.heap.size w w'
theorem glob_later {W W' : World} {g : Nat} {v : Value} (hc : W.cell? ⟨g, 0, none⟩ = some v) (hb : Below W.heap.size W W') : W'.cell? ⟨g, 0, none⟩ = some v := by
  have hlt : g < W.heap.size := by
    unfold World.cell? at hc
    cases hh : W.heap[g]? with
    | none => simp [hh] at hc
    | some o => exact (Array.getElem?_eq_some_iff.1 hh).1
  rw [hb.cell (p := ⟨g, 0, none⟩) hlt]; exact hc
end Go.Proofs.YtfccpfmgkpcnoaaDoor
namespace Go.Proofs.YtfccpfmgkpcnoaaDoor
open Go.RowKit
set_option linter.unusedVariables false
set_option linter.unusedSimpArgs false
end Go.Proofs.YtfccpfmgkpcnoaaDoor
namespace Go.Proofs.YtfccpfmgkpcnoaaDoor
open Go.RowKit
set_option linter.unusedVariables false
set_option linter.unusedSimpArgs false
def CaAt (n m : Nat) (w : World) (s i : Value) (wr : World) : Prop :=
  wr = w ∧ ((i = .int .i64 0 ∧ s = .int .i64 0) ∨ (i = .int .i64 1 ∧ s = .int .i64 n) ∨ (i = .int .i64 2 ∧ s = .int .i64 ((n : Int) + m)))
def CbAt (d p : List UInt8) (w : World) (v i : Value) (wr : World) : Prop :=
  Below w.heap.size w wr ∧ ((i = .int .i64 0 ∧ wr.ownsRow w.heap.size 5 1 v 0 (bytesV [])) ∨ (i = .int .i64 1 ∧ wr.ownsRow w.heap.size 5 1 v d.length (bytesV d)) ∨ (i = .int .i64 2 ∧ wr.ownsRow w.heap.size 5 1 v (d.length + p.length) (bytesV (d ++ p))))
set_option maxRecDepth 100000 in
set_option maxHeartbeats 2000000 in
theorem concat_any (d p : List UInt8) (o1 o2 : Option Addr) (c1 c2 A : Nat) (w : World) (h1 : RowIs w o1 (bytesV d) c1) (h2 : RowIs w o2 (bytesV p) c2) (hl1 : d.length ≤ 1000) (hl2 : p.length ≤ 1000) (h0 : 0 < d.length + p.length)
    (hA0 : w.cell? ⟨A, 0, none⟩ = some (.slice o1 d.length c1)) (hA1 : w.cell? ⟨A, 1, none⟩ = some (.slice o2 p.length c2)) (hAl : A < w.heap.size) :
    Calls Tryd.prog 60 #[.slice (some ⟨A, 0, none⟩) 2 2] w (Rows (d ++ p) w) := by
  have H1 := Lib.hid h1
  have H2 := Lib.hid h2
  have HA0 := Lib.hid hA0
  have HA1 := Lib.hid hA1
  obtain ⟨n, hn⟩ : ∃ n, d.length = n := ⟨_, rfl⟩
  obtain ⟨m, hm⟩ : ∃ m, p.length = m := ⟨_, rfl⟩
  have HN := Lib.hid hn
  have HM := Lib.hid hm
  have hc1 := h1.cap
  have hc2 := h2.cap
  unfold maxLen at hc1 hc2
  rw [hn] at hA0 hl1 h0
  rw [hm] at hA1 hl2 h0
  clear h1 h2 hn hm
  go_enter Tryd.func60, Tryd.ntmps60
  go_wp2_with fail
  go_loopw [3, 5, 11] (fun s _ i wr => CaAt n m w s i wr) (fun _ _ i _ => 2 - (intOf i).toNat)
  case atStart => exact ⟨rfl, .inl ⟨rfl, rfl⟩⟩
  case round =>
    obtain ⟨rfl, ⟨rfl, rfl⟩ | ⟨rfl, rfl⟩ | ⟨rfl, rfl⟩⟩ := hrel
    · have hd : decide ((n : Int) < 0) = false := decide_eq_false (by omega)
      go_wp2_with fail
      go_roundw
      case rel => exact ⟨rfl, .inr (.inl ⟨by go_num, by go_num⟩)⟩
      case measure => simp [intOf]
    · have hd : decide ((n : Int) + m < 0) = false := decide_eq_false (by omega)
      go_wp2_with fail
      go_roundw
      case rel => exact ⟨rfl, .inr (.inr ⟨by go_num, by go_num⟩)⟩
      case measure => simp [intOf]
    · obtain ⟨N, hN⟩ : ∃ N : Nat, n + m = N := ⟨_, rfl⟩
      rw [show (n : Int) + m = (N : Int) by omega]
      have HG := Lib.hid (grow_nil N wr (by omega) (by omega))
      have HNN := Lib.hid hN
      clear hN
      go_wp2_with fail
      refine HG.out.mono ?_; rintro e w2 ⟨g, cap, rfl, hown, hb⟩
      have HV := Lib.hid hown
      have HB := Lib.hid hb
      clear hown hb HG
      go_wp2_with fail
      go_loopw [6, 8, 27] (fun v _ i wr2 => CbAt d p wr v i wr2) (fun _ _ i _ => 2 - (intOf i).toNat)
      case atStart => exact ⟨HB.out, .inl ⟨rfl, HV.out⟩⟩
      case round =>
        rename World => W3
        obtain ⟨hb3, h3⟩ := hrel
        have hA0' : W3.cell? ⟨A, 0, none⟩ = _ := (hb3.cell (p := ⟨A, 0, none⟩) hAl).trans hA0
        have hA1' : W3.cell? ⟨A, 1, none⟩ = _ := (hb3.cell (p := ⟨A, 1, none⟩) hAl).trans hA1
        have HB3 := Lib.hid hb3
        clear hb3 hA0 hA1
        rcases h3 with ⟨rfl, hv⟩ | ⟨rfl, hv⟩ | ⟨rfl, hv⟩
        · have HV3 := Lib.hid hv
          clear hv
          go_wp2_with (at_builtin; refine append_row rfl (.tmp 31) (.tmp 32) rfl wr.heap.size _ 0 [] rfl HV3.out o1 n c1 d rfl HN.out.symm (H1.out.later HB3.out) (by omega) HB3.out.size ?_)
          intro v' w4 hv hg
          have HV4 : Hid (w4.ownsRow wr.heap.size 5 1 v' d.length (bytesV d)) := Lib.hid (by rw [HN.out]; simpa using hv)
          have HB4 := Lib.hid (own_below (n := 0) HB3.out HV3.out hg)
          clear hv hg
          go_wp2_with fail
          go_roundw
          case rel => exact ⟨HB4.out, .inr (.inl ⟨by go_num, HV4.out⟩)⟩
          case measure => simp [intOf]
        · have HV3 : Hid (W3.ownsRow wr.heap.size 5 1 _ n (bytesV d)) := Lib.hid (by rw [← HN.out]; exact hv)
          clear hv
          go_wp2_with (at_builtin; refine append_row rfl (.tmp 31) (.tmp 32) rfl wr.heap.size _ n d rfl HV3.out o2 m c2 p rfl HM.out.symm (H2.out.later HB3.out) (by omega) HB3.out.size ?_)
          intro v' w4 hv hg
          have HV4 : Hid (w4.ownsRow wr.heap.size 5 1 v' (d.length + p.length) (bytesV (d ++ p))) := Lib.hid (by rw [HN.out, HM.out]; exact hv)
          have HB4 := Lib.hid (own_below (n := 0) HB3.out HV3.out hg)
          clear hv hg
          go_wp2_with fail
          go_roundw
          case rel => exact ⟨HB4.out, .inr (.inr ⟨by go_num, HV4.out⟩)⟩
          case measure => simp [intOf]
        · have HR := Lib.hid (owns_rv hv (by simp))
          clear hv
          go_wp2_with fail
          go_ret
          exact ⟨_, rfl, HR.out, HB3.out⟩
end Go.Proofs.YtfccpfmgkpcnoaaDoor
namespace Go.Proofs.YtfccpfmgkpcnoaaDoor
open Go.RowKit
set_option linter.unusedVariables false
set_option linter.unusedSimpArgs false
set_option maxRecDepth 100000 in
set_option maxHeartbeats 2000000 in
theorem concat_own (d p : List UInt8) (o1 o2 : Option Addr) (c1 c2 A : Nat) (w : World) (h1 : RowIs w o1 (bytesV d) c1) (h2 : RowIs w o2 (bytesV p) c2) (hl1 : d.length ≤ 1000) (hl2 : p.length ≤ 1000) (h0 : 0 < d.length + p.length)
    (hA0 : w.cell? ⟨A, 0, none⟩ = some (.slice o1 d.length c1)) (hA1 : w.cell? ⟨A, 1, none⟩ = some (.slice o2 p.length c2)) (hAl : A < w.heap.size) :
    Calls Tryd.prog 60 #[.slice (some ⟨A, 0, none⟩) 2 2] w (Own (d ++ p) w) := by
  have h0' := h0
  have H1 := Lib.hid h1
  have H2 := Lib.hid h2
  have HA0 := Lib.hid hA0
  have HA1 := Lib.hid hA1
  obtain ⟨n, hn⟩ : ∃ n, d.length = n := ⟨_, rfl⟩
  obtain ⟨m, hm⟩ : ∃ m, p.length = m := ⟨_, rfl⟩
  have HN := Lib.hid hn
  have HM := Lib.hid hm
  have hc1 := h1.cap
  have hc2 := h2.cap
  unfold maxLen at hc1 hc2
  rw [hn] at hA0 hl1 h0
  rw [hm] at hA1 hl2 h0
  clear h1 h2 hn hm
  go_enter Tryd.func60, Tryd.ntmps60
  go_wp2_with fail
  go_loopw [3, 5, 11] (fun s _ i wr => CaAt n m w s i wr) (fun _ _ i _ => 2 - (intOf i).toNat)
  case atStart => exact ⟨rfl, .inl ⟨rfl, rfl⟩⟩
  case round =>
    obtain ⟨rfl, ⟨rfl, rfl⟩ | ⟨rfl, rfl⟩ | ⟨rfl, rfl⟩⟩ := hrel
    · have hd : decide ((n : Int) < 0) = false := decide_eq_false (by omega)
      go_wp2_with fail
      go_roundw
      case rel => exact ⟨rfl, .inr (.inl ⟨by go_num, by go_num⟩)⟩
      case measure => simp [intOf]
    · have hd : decide ((n : Int) + m < 0) = false := decide_eq_false (by omega)
      go_wp2_with fail
      go_roundw
      case rel => exact ⟨rfl, .inr (.inr ⟨by go_num, by go_num⟩)⟩
      case measure => simp [intOf]
    · obtain ⟨N, hN⟩ : ∃ N : Nat, n + m = N := ⟨_, rfl⟩
      rw [show (n : Int) + m = (N : Int) by omega]
      have HG := Lib.hid (grow_nil N wr (by omega) (by omega))
      have HNN := Lib.hid hN
      clear hN
      go_wp2_with fail
      refine HG.out.mono ?_; rintro e w2 ⟨g, cap, rfl, hown, hb⟩
      have HV := Lib.hid hown
      have HB := Lib.hid hb
      clear hown hb HG
      go_wp2_with fail
      go_loopw [6, 8, 27] (fun v _ i wr2 => CbAt d p wr v i wr2) (fun _ _ i _ => 2 - (intOf i).toNat)
      case atStart => exact ⟨HB.out, .inl ⟨rfl, HV.out⟩⟩
      case round =>
        rename World => W3
        obtain ⟨hb3, h3⟩ := hrel
        have hA0' : W3.cell? ⟨A, 0, none⟩ = _ := (hb3.cell (p := ⟨A, 0, none⟩) hAl).trans hA0
        have hA1' : W3.cell? ⟨A, 1, none⟩ = _ := (hb3.cell (p := ⟨A, 1, none⟩) hAl).trans hA1
        have HB3 := Lib.hid hb3
        clear hb3 hA0 hA1
        rcases h3 with ⟨rfl, hv⟩ | ⟨rfl, hv⟩ | ⟨rfl, hv⟩
        · have HV3 := Lib.hid hv
          clear hv
          go_wp2_with (at_builtin; refine append_row rfl (.tmp 31) (.tmp 32) rfl wr.heap.size _ 0 [] rfl HV3.out o1 n c1 d rfl HN.out.symm (H1.out.later HB3.out) (by omega) HB3.out.size ?_)
          intro v' w4 hv hg
          have HV4 : Hid (w4.ownsRow wr.heap.size 5 1 v' d.length (bytesV d)) := Lib.hid (by rw [HN.out]; simpa using hv)
          have HB4 := Lib.hid (own_below (n := 0) HB3.out HV3.out hg)
          clear hv hg
          go_wp2_with fail
          go_roundw
          case rel => exact ⟨HB4.out, .inr (.inl ⟨by go_num, HV4.out⟩)⟩
          case measure => simp [intOf]
        · have HV3 : Hid (W3.ownsRow wr.heap.size 5 1 _ n (bytesV d)) := Lib.hid (by rw [← HN.out]; exact hv)
          clear hv
          go_wp2_with (at_builtin; refine append_row rfl (.tmp 31) (.tmp 32) rfl wr.heap.size _ n d rfl HV3.out o2 m c2 p rfl HM.out.symm (H2.out.later HB3.out) (by omega) HB3.out.size ?_)
          intro v' w4 hv hg
          have HV4 : Hid (w4.ownsRow wr.heap.size 5 1 v' (d.length + p.length) (bytesV (d ++ p))) := Lib.hid (by rw [HN.out, HM.out]; exact hv)
          have HB4 := Lib.hid (own_below (n := 0) HB3.out HV3.out hg)
          clear hv hg
          go_wp2_with fail
          go_roundw
          case rel => exact ⟨HB4.out, .inr (.inr ⟨by go_num, HV4.out⟩)⟩
          case measure => simp [intOf]
        · obtain ⟨g2, cap2, rfl, hg2, hbu⟩ := own_buf hv h0' (by simp)
          have HR := Lib.hid hbu
          clear hv hbu
          go_wp2_with fail
          go_ret
          exact ⟨g2, cap2, rfl, hg2, HR.out, HB3.out⟩
/-- a block of Booleans -/
def BRow (W : World) (g n : Nat) (f : Nat → Bool) : Prop := W.heap[g]? = some (.cells ((List.range n).map fun i => Value.bool (f i)).toArray 4 (0, 0))
theorem BRow.cell {W : World} {g n : Nat} {f : Nat → Bool} (h : BRow W g n f) (i : Nat) (hi : i < n) : W.cell? ⟨g, i, none⟩ = some (.bool (f i)) := by
  rw [cell_of_row _ _ i _ _ _ h]
  simp [hi]
theorem BRow.frozen {W : World} {g n : Nat} {f : Nat → Bool} (h : BRow W g n f) (i : Nat) : W.frozen? ⟨g, i, none⟩ = false := by
  unfold World.frozen?; rw [show W.heap[g]? = _ from h]; rfl
theorem BRow.lt {W : World} {g n : Nat} {f : Nat → Bool} (h : BRow W g n f) : g < W.heap.size := (Array.getElem?_eq_some_iff.1 h).1
theorem BRow.later {W W' : World} {g n : Nat} {f : Nat → Bool} (h : BRow W g n f) (hb : Below W.heap.size W W') : BRow W' g n f := by
  unfold BRow at *
  rw [hb.block g (Array.getElem?_eq_some_iff.1 h).1]; exact h
theorem BRow.only {W W' : World} {g n k : Nat} {f : Nat → Bool} (h : BRow W g n f) (hb : Only k W W') (hne : g ≠ k) : BRow W' g n f := by
  unfold BRow at *
  rw [World.grownBy.block hb g (Array.getElem?_eq_some_iff.1 h).1 (fun e => hne (by cases e; rfl))]; exact h
theorem BRow.store {W : World} {g n : Nat} {f : Nat → Bool} (h : BRow W g n f) (i : Nat) (b : Bool) : BRow (W.setCell ⟨g, i, none⟩ (.bool b)) g n (fun j => if j = i then b else f j) ∧ Only g W (W.setCell ⟨g, i, none⟩ (.bool b)) := by
  have e1 := setCell_eq_setRow W g i _ _ _ (.bool b) h
  have h1 := setRow_heap W g _ (((List.range n).map fun i => Value.bool (f i)).toArray.setIfInBounds i (.bool b)) _ _ h
  rw [← e1] at h1
  refine ⟨?_, ?_⟩
  · unfold BRow
    rw [h1]
    congr 2
    apply Array.ext_getElem?
    intro k
    rw [Array.getElem?_setIfInBounds]
    by_cases hk : i = k
    · subst hk
      by_cases hn : i < n
      · simp [hn]
      · simp [hn]
    · rw [if_neg hk]
      by_cases hn : k < n
      · simp [hn]
        exact fun h => absurd h.symm hk
      · simp [hn]
  · rw [e1]
    exact ⟨rfl, rfl, rfl, by simp [World.setRow], fun k hk hn => setRow_other W g k _ (fun e => hn (by rw [e]))⟩
theorem brow_new (w : World) (n : Nat) : BRow (w.alloc (.cells (Array.replicate n (.bool false)) 4)) w.heap.size n (fun _ => false) := by
  have h := World.alloc_heap_new w (.cells (Array.replicate n (.bool false)) 4)
  unfold BRow
  rw [h]
  congr 2
  apply Array.ext
  · simp
  · intro k h1 h2
    simp
end Go.Proofs.YtfccpfmgkpcnoaaDoor
