/- The code's Blocks: all blocks of a file. -/
import Derived.Test.YtgifbpjmblemhaaGreatDoorBs
namespace Go.Proofs.YtgifbpjmblemhaaGreatDoor
open Go.RowKit
set_option linter.unusedVariables false
set_option linter.unusedSimpArgs false
theorem szG_mem (l : List Nat) (k : Nat) (h : k < l.length) : szG l k ∈ l := by
  unfold szG
  rw [List.getD_eq_getElem?_getD, List.getElem?_eq_getElem h]
  exact List.getElem_mem h
theorem dat_part (p : List UInt8) (a n k : Nat) (h : k ≤ n) : (dat p a n).take k = dat p a k ∧ (dat p a n).drop k = dat p (a + k) (n - k) := by
  obtain ⟨d, rfl⟩ : ∃ d, n = k + d := ⟨n - k, by omega⟩
  rw [dat_app]
  have hl : (dat p a k).length = k := dat_length _ _ _
  constructor
  · rw [List.take_left' hl]
  · rw [List.drop_left' hl, show k + d - k = d by omega]
theorem RbIs.take {W : World} {o : Option Addr} {bs : List (List UInt8)} {c : Nat} (h : RbIs W o bs c) (k : Nat) (hk : k ≤ bs.length) : RbIs W o (bs.take k) c := by
  obtain ⟨xs, h1, h2⟩ := h
  have hl := h2.len
  have hle := h1.le
  refine ⟨xs.take k, ⟨by simp; omega, h1.cap, h1.nil, fun h0 => ?_⟩, ?_⟩
  · obtain ⟨b, off, e, hlt, hc⟩ := h1.cells (by simp at h0; omega)
    refine ⟨b, off, e, hlt, fun i v hv => hc i v ?_⟩
    have hi := (List.getElem?_eq_some_iff.1 hv).1
    simp at hi
    rw [← hv, List.getElem?_take_of_lt (by omega)]
  · have := h2.part 0 k
    rw [List.drop_zero, List.drop_zero] at this
    exact this
theorem RbIs.drop {W : World} {b off : Nat} {bs : List (List UInt8)} {c : Nat} (h : RbIs W (some ⟨b, off, none⟩) bs c) (k : Nat) (hk : k ≤ bs.length) : RbIs W (some ⟨b, off + k, none⟩) (bs.drop k) (c - k) := by
  have h1 := h.le
  have h2 := h.part k (bs.length - k) (by omega) (c - k) (by omega) (by omega)
  rw [List.take_of_length_le (by simp)] at h2
  exact h2
def F3 (a b c : List (List UInt8)) (i : Nat) : List (List UInt8) := if i = 0 then a else if i = 1 then b else c
theorem catB_three (a b c : List (List UInt8)) : catB (F3 a b c) 3 = a ++ (b ++ c) := by simp [catB, F3]
theorem lenB_three (a b c : List (List UInt8)) : lenB (F3 a b c) 3 = a.length + b.length + c.length := by simp [lenB, F3]
def CbkAt (p : List UInt8) (l : List Nat) (m : Nat) (w : World) (v6 v7 iv : Value) (wr : World) : Prop :=
  ∃ k : Nat, k ≤ l.length ∧ iv = .int .i64 k ∧ RbV (grps p 0 (l.take k)) v6 wr ∧ RbV (dat p (sumN (l.take k)) (m - sumN (l.take k))) v7 wr ∧ Below w.heap.size w wr
end Go.Proofs.YtgifbpjmblemhaaGreatDoor
