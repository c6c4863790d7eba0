/- slices.Reverse, slices.Clone over bytes; the code's turned lists. The code's parity symbols: what is left of long division, put behind the data, makes a code word. Whether a word is right; a word's data. slices.Concat of two rows; code words. Concat and Encode: the answer is a row of its own. Rows of Booleans. -/
import Derived.Test.YtomkkkbdipcjgaaDoorApw
import Derived.Test.YtomkkkbdipcjgaaDoorMu
import Derived.Deep.Onto
import Derived.BigRegion
import Derived.Lib.Hide
import Derived.Lib.SliceRun
import Derived.Test.YtomkkkbdipcjgaaDoorIns
import Derived.Test.YtomkkkbdipcjgaaDoorTs
import Derived.Test.YtomkkkbdipcjgaaDoorDv
import Derived.Test.YtomkkkbdipcjgaaDoorGn
import Derived.Test.YtomkkkbdipcjgaaDoorErr
import Derived.Test.YtomkkkbdipcjgaaDoorOf
import Derived.Deep.QuietTactic
import Derived.BigQuiet
namespace Go.Proofs.YtomkkkbdipcjgaaDoor
open Go.RowKit
set_option linter.unusedVariables false
set_option linter.unusedSimpArgs false
/-- a list when so many have been turned at either end -/
def revAt (ys : List UInt8) (k : Nat) : List UInt8 := tab (fun m => if m < k ∨ ys.length ≤ m + k then co ys (ys.length - 1 - m) else co ys m) ys.length
@[simp] theorem revAt_length (ys : List UInt8) (k : Nat) : (revAt ys k).length = ys.length := by simp [revAt]
theorem co_revAt (ys : List UInt8) (k m : Nat) (h : m < ys.length) : co (revAt ys k) m = if m < k ∨ ys.length ≤ m + k then co ys (ys.length - 1 - m) else co ys m := co_tab _ _ _ h
theorem revAt_zero (ys : List UInt8) : revAt ys 0 = ys := list_ext (by simp) fun m hm => by
  simp at hm
  rw [co_revAt _ _ _ hm, if_neg (by omega)]
theorem co_reverse (a : List UInt8) (m : Nat) (h : m < a.length) : co a.reverse m = co a (a.length - 1 - m) := by
  simp [co, List.getD_eq_getElem?_getD, h, List.getElem?_reverse, show a.length - 1 - m < a.length by omega]
theorem revAt_done (ys : List UInt8) (k : Nat) (h : ys.length ≤ 2 * k + 1) : revAt ys k = ys.reverse := list_ext (by simp) fun m hm => by
  simp at hm
  rw [co_revAt _ _ _ hm, co_reverse _ _ hm]
  by_cases e : m < k ∨ ys.length ≤ m + k
  · rw [if_pos e]
  · rw [if_neg e]
    congr 1
    omega
theorem revAt_step (ys : List UInt8) (k : Nat) (h : 2 * k + 1 < ys.length) : ((revAt ys k).set k (co (revAt ys k) (ys.length - 1 - k))).set (ys.length - 1 - k) (co (revAt ys k) k) = revAt ys (k + 1) := list_ext (by simp) fun m hm => by
  simp at hm
  rw [co_revAt _ _ _ hm, co_set, co_set, co_revAt _ _ _ (by omega), co_revAt _ _ _ (by omega), co_revAt _ _ _ hm]
  simp only [List.length_set, revAt_length]
  by_cases e1 : ys.length - 1 - k = m
  · rw [if_pos ⟨e1, by omega⟩, if_neg (by omega), if_pos (by omega)]
    congr 1
    omega
  · rw [if_neg (fun h => e1 h.1)]
    by_cases e2 : k = m
    · rw [if_pos ⟨e2, by omega⟩, if_neg (by omega), if_pos (by omega), e2]
    · rw [if_neg (fun h => e2 h.1)]
      by_cases e3 : m < k ∨ ys.length ≤ m + k
      · rw [if_pos e3, if_pos (by omega)]
      · rw [if_neg e3, if_neg (by omega)]
def RvAt (w : World) (ys : List UInt8) (g cap : Nat) (i j : Value) (wr : World) : Prop :=
  ∃ k : Nat, 2 * k ≤ ys.length + 1 ∧ i = .int .i64 k ∧ j = .int .i64 ((ys.length : Int) - 1 - k) ∧ Buf wr g cap (revAt ys k) ∧ Only g w wr
/-- a row of its own: in a block that was not there -/
def Own (z : List UInt8) (w : World) (e : Ending) (w' : World) : Prop := ∃ g cap, e = .returned (.slice (some ⟨g, 0, none⟩) z.length cap) ∧ w.heap.size ≤ g ∧ Buf w' g cap z ∧ Below w.heap.size w w'
theorem Own.rows {z : List UInt8} {w : World} {e : Ending} {w' : World} (h : Own z w e w') : Rows z w e w' := by
  obtain ⟨g, cap, rfl, hg, hb, hw⟩ := h
  exact ⟨_, rfl, ⟨_, _, rfl, hb.row⟩, hw⟩
theorem own_buf {w : World} {base n : Nat} {v : Value} {z : List UInt8} (h : w.ownsRow base 5 1 v n (bytesV z)) (h0 : 0 < n) (hn : n = z.length) : ∃ g cap, v = .slice (some ⟨g, 0, none⟩) z.length cap ∧ base ≤ g ∧ Buf w g cap z := by
  subst hn
  rcases h.2 with ⟨_, h1⟩ | ⟨g, cap, cur, rfl, hg, _⟩
  · omega
  · exact ⟨g, cap, rfl, hg, World.ownsRow.mono h (Nat.zero_le _)⟩
end Go.Proofs.YtomkkkbdipcjgaaDoor
namespace Go.Proofs.YtomkkkbdipcjgaaDoor
open Go.RowKit
set_option linter.unusedVariables false
set_option linter.unusedSimpArgs false
/-- a rest of 32 symbols, the highest power first -/
def padR (R : List UInt8) : List UInt8 := (splice (List.replicate 32 0) 0 R).reverse
theorem padR_length (R : List UInt8) (h : R.length ≤ 32) : (padR R).length = 32 := by
  rw [padR, List.length_reverse, length_splice _ _ _ (by simp; omega), List.length_replicate]
theorem pad_code {d Y R : List UInt8} (hR : DivOf (tr (shiftL d.reverse 32)) (genL 32) Y R) : R.length ≤ 32 ∧ IsCode (d ++ padR R) := by
  have hl : R.length ≤ 32 := by
    have := hR.less
    rw [tr_gen, genL_length] at this
    omega
  refine ⟨hl, fun j hj => ?_⟩
  have e : d ++ padR R = (splice (List.replicate 32 0) 0 R ++ d.reverse).reverse := by simp [padR]
  rw [e, hv_reverse]
  have hs : (splice (List.replicate 32 (0 : UInt8)) 0 R).length = 32 := by rw [length_splice _ _ _ (by simp; omega), List.length_replicate]
  have h1 : ∀ k, co (splice (List.replicate 32 0) 0 R ++ d.reverse) k = co (addL R (shiftL d.reverse 32)) k := fun k => by
    rw [co_app, co_addL, hs]
    unfold shiftL
    rw [co_app, List.length_replicate]
    by_cases hk : k < 32
    · rw [if_pos hk, if_pos hk, zeros_co, UInt8.xor_zero, co_splice _ _ _ _ (by simp; omega)]
      by_cases hk2 : k < R.length
      · rw [if_pos ⟨Nat.zero_le _, by omega⟩, Nat.sub_zero]
      · rw [if_neg (by omega), zeros_co, co_ge (by omega)]
    · rw [if_neg hk, if_neg hk, co_ge (z := R) (by omega), UInt8.zero_xor]
  have h2 : ∀ k, co (tr (shiftL d.reverse 32)) k = co (addL (mulL Y (genL 32)) R) k := fun k => by rw [← hR.eq k, co_addL]
  rw [evL_congr h1, evL_add, ← evL_tr (shiftL d.reverse 32), evL_congr h2, evL_add, evL_mul, gen_root 32 j hj, Gf.gm_zero, UInt8.zero_xor, UInt8.xor_self]
def CparTo (d : List UInt8) (w : World) (e : Ending) (w' : World) : Prop :=
  ∃ r x, r.length = 32 ∧ IsCode (d ++ r) ∧ e = .returned (.tuple #[x, .nilIface]) ∧ RowV r x w' ∧ Below w.heap.size w w'
theorem glob_later {W W' : World} {g : Nat} {v : Value} (hc : W.cell? ⟨g, 0, none⟩ = some v) (hb : Below W.heap.size W W') : W'.cell? ⟨g, 0, none⟩ = some v := by
  have hlt : g < W.heap.size := by
    unfold World.cell? at hc
    cases hh : W.heap[g]? with
    | none => simp [hh] at hc
    | some o => exact (Array.getElem?_eq_some_iff.1 hh).1
  rw [hb.cell (p := ⟨g, 0, none⟩) hlt]; exact hc
end Go.Proofs.YtomkkkbdipcjgaaDoor
namespace Go.Proofs.YtomkkkbdipcjgaaDoor
open Go.RowKit
set_option linter.unusedVariables false
set_option linter.unusedSimpArgs false
end Go.Proofs.YtomkkkbdipcjgaaDoor
namespace Go.Proofs.YtomkkkbdipcjgaaDoor
open Go.RowKit
set_option linter.unusedVariables false
set_option linter.unusedSimpArgs false
def CaAt (n m : Nat) (w : World) (s i : Value) (wr : World) : Prop :=
  wr = w ∧ ((i = .int .i64 0 ∧ s = .int .i64 0) ∨ (i = .int .i64 1 ∧ s = .int .i64 n) ∨ (i = .int .i64 2 ∧ s = .int .i64 ((n : Int) + m)))
def CbAt (d p : List UInt8) (w : World) (v i : Value) (wr : World) : Prop :=
  Below w.heap.size w wr ∧ ((i = .int .i64 0 ∧ wr.ownsRow w.heap.size 5 1 v 0 (bytesV [])) ∨ (i = .int .i64 1 ∧ wr.ownsRow w.heap.size 5 1 v d.length (bytesV d)) ∨ (i = .int .i64 2 ∧ wr.ownsRow w.heap.size 5 1 v (d.length + p.length) (bytesV (d ++ p))))
end Go.Proofs.YtomkkkbdipcjgaaDoor
namespace Go.Proofs.YtomkkkbdipcjgaaDoor
open Go.RowKit
set_option linter.unusedVariables false
set_option linter.unusedSimpArgs false
/-- a block of Booleans -/
def BRow (W : World) (g n : Nat) (f : Nat → Bool) : Prop := W.heap[g]? = some (.cells ((List.range n).map fun i => Value.bool (f i)).toArray 4 (0, 0))
theorem BRow.cell {W : World} {g n : Nat} {f : Nat → Bool} (h : BRow W g n f) (i : Nat) (hi : i < n) : W.cell? ⟨g, i, none⟩ = some (.bool (f i)) := by
  rw [cell_of_row _ _ i _ _ _ h]
  simp [hi]
theorem BRow.frozen {W : World} {g n : Nat} {f : Nat → Bool} (h : BRow W g n f) (i : Nat) : W.frozen? ⟨g, i, none⟩ = false := by
  unfold World.frozen?; rw [show W.heap[g]? = _ from h]; rfl
theorem BRow.lt {W : World} {g n : Nat} {f : Nat → Bool} (h : BRow W g n f) : g < W.heap.size := (Array.getElem?_eq_some_iff.1 h).1
theorem BRow.later {W W' : World} {g n : Nat} {f : Nat → Bool} (h : BRow W g n f) (hb : Below W.heap.size W W') : BRow W' g n f := by
  unfold BRow at *
  rw [hb.block g (Array.getElem?_eq_some_iff.1 h).1]; exact h
theorem BRow.only {W W' : World} {g n k : Nat} {f : Nat → Bool} (h : BRow W g n f) (hb : Only k W W') (hne : g ≠ k) : BRow W' g n f := by
  unfold BRow at *
  rw [World.grownBy.block hb g (Array.getElem?_eq_some_iff.1 h).1 (fun e => hne (by cases e; rfl))]; exact h
theorem BRow.store {W : World} {g n : Nat} {f : Nat → Bool} (h : BRow W g n f) (i : Nat) (b : Bool) : BRow (W.setCell ⟨g, i, none⟩ (.bool b)) g n (fun j => if j = i then b else f j) ∧ Only g W (W.setCell ⟨g, i, none⟩ (.bool b)) := by
  have e1 := setCell_eq_setRow W g i _ _ _ (.bool b) h
  have h1 := setRow_heap W g _ (((List.range n).map fun i => Value.bool (f i)).toArray.setIfInBounds i (.bool b)) _ _ h
  rw [← e1] at h1
  refine ⟨?_, ?_⟩
  · unfold BRow
    rw [h1]
    congr 2
    apply Array.ext_getElem?
    intro k
    rw [Array.getElem?_setIfInBounds]
    by_cases hk : i = k
    · subst hk
      by_cases hn : i < n
      · simp [hn]
      · simp [hn]
    · rw [if_neg hk]
      by_cases hn : k < n
      · simp [hn]
        exact fun h => absurd h.symm hk
      · simp [hn]
  · rw [e1]
    exact ⟨rfl, rfl, rfl, by simp [World.setRow], fun k hk hn => setRow_other W g k _ (fun e => hn (by rw [e]))⟩
theorem brow_new (w : World) (n : Nat) : BRow (w.alloc (.cells (Array.replicate n (.bool false)) 4)) w.heap.size n (fun _ => false) := by
  have h := World.alloc_heap_new w (.cells (Array.replicate n (.bool false)) 4)
  unfold BRow
  rw [h]
  congr 2
  apply Array.ext
  · simp
  · intro k h1 h2
    simp
end Go.Proofs.YtomkkkbdipcjgaaDoor
