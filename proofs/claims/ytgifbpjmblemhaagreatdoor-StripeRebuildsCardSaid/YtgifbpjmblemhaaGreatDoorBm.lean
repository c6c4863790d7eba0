/- The code's parity blocks of a group; slices.Concat over rows of blocks and over blocks. -/
import Derived.Test.YtgifbpjmblemhaaGreatDoorBl
namespace Go.Proofs.YtgifbpjmblemhaaGreatDoor
open Go.RowKit
set_option linter.unusedVariables false
set_option linter.unusedSimpArgs false
def pM (D : List (List UInt8)) (k : Nat) (i j : Nat) : UInt8 := if j < k then co (parL (colB D j)) i else 0
theorem pM_step (D : List (List UInt8)) (k i b : Nat) (hi : i < 32) : layM (pM D k) (parL (colB D k)) k 32 i b = pM D (k + 1) i b := by
  unfold layM pM
  by_cases h : b = k
  · subst h
    rw [if_pos ⟨rfl, hi⟩, if_pos (by omega)]
  · rw [if_neg (fun g => h g.1)]
    by_cases h2 : b < k
    · rw [if_pos h2, if_pos (by omega)]
    · rw [if_neg h2, if_neg (by omega)]
def PyAt (D : List (List UInt8)) (gO : Nat) (Gb : Nat → Nat) (w : World) (iv : Value) (wr : World) : Prop :=
  ∃ k : Nat, k ≤ 8 ∧ iv = .int .i64 k ∧ Mat8 wr w.heap.size gO 32 Gb (pM D k) ∧ Below w.heap.size w wr
theorem Mat8.later {W W' : World} {B gO R : Nat} {Gb : Nat → Nat} {m : Nat → Nat → UInt8} (h : Mat8 W B gO R Gb m) (hb : Below W.heap.size W W') : Mat8 W' B gO R Gb m := Mat.later h hb
theorem Mat8.congr {W : World} {B gO R : Nat} {Gb : Nat → Nat} {m m' : Nat → Nat → UInt8} (h : Mat8 W B gO R Gb m) (he : ∀ i j, i < R → j < 8 → m i j = m' i j) : Mat8 W B gO R Gb m' := Mat.congr h he
theorem pM_bi (D : List (List UInt8)) (i : Nat) (h : i < 32) : bi (parB D) i = tab (pM D 8 i) 8 := by
  rw [bi_parB _ _ h]
  refine list_ext (by simp) fun j hj => ?_
  have hj : j < 8 := by simpa using hj
  rw [co_tab _ _ _ hj, co_tab _ _ _ hj]
  unfold pM
  rw [if_pos hj]
/-- lists one behind the other -/
def catB (F : Nat → List (List UInt8)) : Nat → List (List UInt8)
  | 0 => []
  | k + 1 => catB F k ++ F k
/-- how long they are -/
def lenB (F : Nat → List (List UInt8)) : Nat → Nat
  | 0 => 0
  | k + 1 => lenB F k + (F k).length
theorem catB_length (F : Nat → List (List UInt8)) (k : Nat) : (catB F k).length = lenB F k := by
  induction k with
  | zero => rfl
  | succ k ih => simp [catB, lenB, ih]
theorem lenB_mono (F : Nat → List (List UInt8)) (k d : Nat) : lenB F k ≤ lenB F (k + d) := by
  induction d with
  | zero => exact Nat.le_refl _
  | succ d ih => exact Nat.le_trans ih (Nat.le_add_right _ _)
/-- the parts lie one behind the other in block A -/
structure PartsB (w : World) (A n : Nat) (F : Nat → List (List UInt8)) : Prop where
  lt : A < w.heap.size
  at_ : ∀ i, i < n → ∃ p q, w.cell? ⟨A, i, none⟩ = some (.slice p (F i).length q) ∧ RbIs w p (F i) q
theorem PartsB.later {W W' : World} {A n : Nat} {F : Nat → List (List UInt8)} (h : PartsB W A n F) (hb : Below W.heap.size W W') : PartsB W' A n F :=
  ⟨Nat.lt_of_lt_of_le h.lt hb.size, fun i hi => by
    obtain ⟨p, q, h1, h2⟩ := h.at_ i hi
    exact ⟨p, q, by rw [hb.cell (p := ⟨A, i, none⟩) h.lt]; exact h1, h2.later hb⟩⟩
def CxAt (F : Nat → List (List UInt8)) (n : Nat) (w : World) (s iv : Value) (wr : World) : Prop :=
  ∃ k : Nat, k ≤ n ∧ iv = .int .i64 k ∧ s = .int .i64 (lenB F k : Nat) ∧ wr = w
def CyAt (F : Nat → List (List UInt8)) (n : Nat) (w : World) (v iv : Value) (wr : World) : Prop :=
  ∃ (k : Nat) (xs : List Value), k ≤ n ∧ iv = .int .i64 k ∧ wr.ownsRow w.heap.size 24 1 v (lenB F k) xs ∧ ElsB w.heap.size wr (catB F k) xs ∧ Below w.heap.size w wr
end Go.Proofs.YtgifbpjmblemhaaGreatDoor
