/- Registers step by step: what is kept of the polynomial, the length, the elder polynomial, its number and how long ago. -/
import Derived.Test.YtoefhhkemljjdaaDoorMs
namespace Go.Proofs.YtoefhhkemljjdaaDoor
set_option linter.unusedVariables false
namespace Gf
theorem dis_len (s : Nat → UInt8) (C : List UInt8) (L n : Nat) (h : C.length ≤ L + 1) : sm (fun j => gm (co C j) (s (n - j))) C.length = dis s (co C) L n :=
  (sm_more h fun j hj => by rw [co_ge hj, zero_gm]).symm
/-- the polynomial plus the elder one times a number and a power of x -/
def mendL (C B : List UInt8) (a : UInt8) (x : Nat) : List UInt8 := tab (fun j => co C j ^^^ gm a (ps x (co B) j)) (max C.length (x + B.length))
theorem mendL_length (C B : List UInt8) (a : UInt8) (x : Nat) : (mendL C B a x).length = max C.length (x + B.length) := by simp [mendL]
theorem co_mendL (C B : List UInt8) (a : UInt8) (x : Nat) : co (mendL C B a x) = mend (co C) (co B) a x := funext fun j => by
  unfold mendL mend
  refine co_tab' _ _ _ fun i hi => ?_
  unfold ps
  rw [co_ge (by omega)]
  split
  · rw [co_ge (by omega), gm_zero]; rfl
  · rw [gm_zero]; rfl
/-- behind n numbers -/
structure Reg (s : Nat → UInt8) (n : Nat) (C : List UInt8) (L : Nat) (B : List UInt8) (b : UInt8) (x : Nat) : Prop where
  run : Run s n (co C) L
  least : Least s n L
  le : L ≤ n
  len : C.length ≤ L + 1
  bpos : 1 ≤ B.length
  bne : b ≠ 0
  xle : x ≤ n
  blen : x + B.length ≤ n + 1
  old : (L = 0 ∧ x = n ∧ B = [1] ∧ b = 1) ∨ ∃ M m, Run s m (co B) M ∧ B.length ≤ M + 1 ∧ L + M = m + 1 ∧ x + m + 1 = n ∧ dis s (co B) M m = b
theorem Reg.pos {s : Nat → UInt8} {n L x : Nat} {C B : List UInt8} {b : UInt8} (h : Reg s n C L B b x) : 1 ≤ C.length := by
  have := co_lt (ys := C) (i := 0) (by rw [h.run.one]; decide)
  omega
theorem Reg.first (s : Nat → UInt8) : Reg s 0 [1] 0 [1] 1 0 :=
  ⟨Run.first rfl, fun d M k => Nat.zero_le _, Nat.le_refl _, Nat.le_refl _, Nat.le_refl _, by decide, Nat.le_refl _, Nat.le_refl _, .inl ⟨rfl, rfl, rfl, rfl⟩⟩
theorem Reg.same {s : Nat → UInt8} {n L x : Nat} {C B : List UInt8} {b : UInt8} (h : Reg s n C L B b x) (hd : dis s (co C) L n = 0) : Reg s (n + 1) C L B b (x + 1) :=
  ⟨h.run.more fun _ => hd, h.least.more, by have := h.le; omega, h.len, h.bpos, h.bne, by have := h.xle; omega, by have := h.blen; omega, by
    rcases h.old with ⟨h1, h2, h3, h4⟩ | ⟨M, m, h1, h2, h3, h4, h5⟩
    · exact .inl ⟨h1, by omega, h3, h4⟩
    · exact .inr ⟨M, m, h1, h2, h3, by omega, h5⟩⟩
theorem Reg.mended {s : Nat → UInt8} {n L x : Nat} {C B : List UInt8} {b : UInt8} (h : Reg s n C L B b x) (hd : dis s (co C) L n ≠ 0) :
    Run s (n + 1) (co (mendL C B (gd (dis s (co C) L n) b) (x + 1))) (max L (n + 1 - L)) ∧ (mendL C B (gd (dis s (co C) L n) b) (x + 1)).length ≤ max L (n + 1 - L) + 1 := by
  have hl := h.len
  have hb := h.blen
  have hle := h.le
  rw [co_mendL, mendL_length]
  rcases h.old with ⟨h1, h2, h3, h4⟩ | ⟨M, m, h1, h2, h3, h4, h5⟩
  · subst h1
    refine ⟨?_, by omega⟩
    have : max 0 (n + 1 - 0) = n + 1 := by omega
    rw [this]
    refine Run.first ?_
    unfold mend ps
    rw [if_neg (by omega), gm_zero, UInt8.xor_zero, h.run.one]
  · have hx : x + 1 = n - m := by omega
    have hs := Run.step h.run (fun j hj => co_ge (by omega)) h1 (fun j hj => co_ge (by omega)) (by omega) h3 (show gm (gd (dis s (co C) L n) b) (dis s (co B) M m) = dis s (co C) L n by rw [h5]; exact gd_gm _ _ h.bne)
    rw [← hx] at hs
    exact ⟨hs.1, by omega⟩
theorem Reg.longer {s : Nat → UInt8} {n L x : Nat} {C B : List UInt8} {b : UInt8} (h : Reg s n C L B b x) (hd : dis s (co C) L n ≠ 0) (h2 : 2 * L < n + 1) :
    Reg s (n + 1) (mendL C B (gd (dis s (co C) L n) b) (x + 1)) (n + 1 - L) C (dis s (co C) L n) 0 := by
  have hm := h.mended hd
  have hle := h.le
  have hl := h.len
  have e : max L (n + 1 - L) = n + 1 - L := by omega
  have hls := h.least.step h.run hd
  rw [e] at hm hls
  exact ⟨hm.1, hls, by omega, hm.2, h.pos, hd, by omega, by omega, .inr ⟨L, n, h.run, hl, by omega, by omega, rfl⟩⟩
theorem Reg.still {s : Nat → UInt8} {n L x : Nat} {C B : List UInt8} {b : UInt8} (h : Reg s n C L B b x) (hd : dis s (co C) L n ≠ 0) (h2 : ¬ 2 * L < n + 1) :
    Reg s (n + 1) (mendL C B (gd (dis s (co C) L n) b) (x + 1)) L B b (x + 1) := by
  have hm := h.mended hd
  have hls := h.least.step h.run hd
  have hle := h.le
  have e : max L (n + 1 - L) = L := by omega
  rw [e] at hm hls
  refine ⟨hm.1, hls, by omega, hm.2, h.bpos, h.bne, by have := h.xle; omega, by have := h.blen; omega, ?_⟩
  rcases h.old with ⟨h1, _⟩ | ⟨M, m, h1, h2, h3, h4, h5⟩
  · omega
  · exact .inr ⟨M, m, h1, h2, h3, by omega, h5⟩
end Gf
end Go.Proofs.YtoefhhkemljjdaaDoor
