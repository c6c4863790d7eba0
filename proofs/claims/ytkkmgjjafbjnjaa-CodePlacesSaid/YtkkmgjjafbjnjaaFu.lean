/- Rows that fill their block: made, copied into. -/
import Derived.Test.YtkkmgjjafbjnjaaEv
import Derived.Laws.CopyOwn
namespace Go.Proofs.Ytkkmgjjafbjnjaa
open Go.RowKit
set_option linter.unusedVariables false
def Full (W : World) (g : Nat) (ys : List UInt8) : Prop := W.heap[g]? = some (.cells (bytesV ys).toArray 5 (0, 0))
theorem Full.buf {W : World} {g : Nat} {ys : List UInt8} (h : Full W g ys) (hm : ys.length ≤ maxLen) : Buf W g ys.length ys :=
  ⟨by simp, .inr ⟨g, ys.length, _, rfl, Nat.zero_le _, h, Nat.le_refl _, hm, by simp, by rw [Nat.mul_one]; exact List.take_of_length_le (by simp)⟩⟩
theorem Buf.full {W : World} {g n : Nat} {ys : List UInt8} (h : Buf W g n ys) (hn : n = ys.length) : Full W g ys := by
  subst hn
  obtain ⟨hl, hx⟩ := h
  rcases hx with ⟨h, _⟩ | ⟨g', cap', cur, h, _, hh, _, _, hcur, htake⟩
  · cases h
  · injection h with h1 h2 h3
    injection h1 with h1
    injection h1 with h1
    subst h1; subst h3
    unfold Full
    rw [hh]
    have e : cur = (bytesV ys).toArray := by
      apply Array.ext'
      rw [← htake, List.take_of_length_le (by simp [hcur])]
    rw [e]
theorem splice_bytes (ys z : List UInt8) (off : Nat) : splice (bytesV ys) off (bytesV z) = bytesV (splice ys off z) := by
  simp [splice, bytesV]
theorem co_splice (ys z : List UInt8) (off i : Nat) (h : off + z.length ≤ ys.length) : co (splice ys off z) i = if off ≤ i ∧ i < off + z.length then co z (i - off) else co ys i := by
  unfold splice co
  simp only [List.getD_eq_getElem?_getD]
  by_cases h1 : i < off
  · rw [if_neg (by omega), List.getElem?_append_left (by simp; omega), List.getElem?_take_of_lt h1]
  · rw [List.getElem?_append_right (by simp; omega)]
    have e : (ys.take off).length = off := by simp; omega
    rw [e]
    by_cases h2 : i < off + z.length
    · rw [if_pos ⟨by omega, h2⟩, List.getElem?_append_left (by omega)]
    · rw [if_neg (by omega), List.getElem?_append_right (by omega), List.getElem?_drop]
      congr 2; omega
theorem zeros_co (n i : Nat) : co (List.replicate n 0) i = 0 := by
  simp only [co, List.getD_eq_getElem?_getD, List.getElem?_replicate]
  split <;> rfl
end Go.Proofs.Ytkkmgjjafbjnjaa
