/- Registers as solutions of linear equations, plain; Gauss' loops, part by part. -/
import Derived.Test.YtoefhhkemljjdaaDoorMt
namespace Go.Proofs.YtoefhhkemljjdaaDoor
set_option linter.unusedVariables false
namespace Gf
/-- the equations of a register of length L for the numbers s -/
def regM (s : Nat → UInt8) (L : Nat) (i j : Nat) : UInt8 := if j < L then s (L + i - (j + 1)) else s (L + i)
/-- a register of a solution -/
def regC (x : Nat → UInt8) (j : Nat) : UInt8 := if j = 0 then 1 else x (j - 1)
theorem dis_regC (s x : Nat → UInt8) (L i : Nat) : dis s (regC x) L i = s i ^^^ sm (fun j => gm (x j) (s (i - (j + 1)))) L := by
  unfold dis
  rw [sm_left]
  congr 1
  exact one_gm _
theorem sol_run (s : Nat → UInt8) (n L : Nat) (x : Nat → UInt8) : Sol (regM s L) (n - L) L x ↔ Run s n (regC x) L := by
  have e : ∀ i, sm (fun j => gm (regM s L i j) (x j)) L = sm (fun j => gm (x j) (s (L + i - (j + 1)))) L := fun i => sm_congr fun j hj => by
    unfold regM
    rw [if_pos hj, gm_comm]
  have e2 : ∀ i, regM s L i L = s (L + i) := fun i => by
    unfold regM
    rw [if_neg (by omega)]
  constructor
  · intro h
    refine ⟨rfl, fun i h1 h2 => ?_⟩
    have h3 := h (i - L) (by omega)
    rw [e, e2, show L + (i - L) = i by omega] at h3
    rw [dis_regC, h3, UInt8.xor_self]
  · intro h i hi
    have h3 := h.run (L + i) (by omega) (by omega)
    rw [dis_regC] at h3
    rw [e, e2]
    exact (xor_eq_zero _ _ h3).symm
theorem run_sol {s c : Nat → UInt8} {n L : Nat} (h : Run s n c L) : Sol (regM s L) (n - L) L (fun j => c (j + 1)) := by
  refine (sol_run s n L _).2 ⟨rfl, fun i h1 h2 => ?_⟩
  have h3 := h.run i h1 h2
  rw [← h3]
  unfold dis
  refine sm_congr fun j hj => ?_
  unfold regC
  by_cases e : j = 0
  · subst e
    rw [if_pos rfl, h.one]
  · rw [if_neg e]
    show gm (c (j - 1 + 1)) _ = _
    rw [show j - 1 + 1 = j by omega]
/-- row a times a number, up to a column -/
def sclAt (m : Nat → Nat → UInt8) (a : Nat) (y : UInt8) (b : Nat) (i j : Nat) : UInt8 := if i = a ∧ j < b then gm (m a j) y else m i j
theorem sclAt_zero (m : Nat → Nat → UInt8) (a : Nat) (y : UInt8) (i j : Nat) : sclAt m a y 0 i j = m i j := if_neg (by omega)
theorem sclAt_full (m : Nat → Nat → UInt8) (a : Nat) (y : UInt8) (N i j : Nat) (h : j < N) : sclAt m a y N i j = scl m a y i j := by
  unfold sclAt scl
  by_cases e : i = a
  · rw [if_pos ⟨e, h⟩, if_pos e]
  · rw [if_neg (fun h => e h.1), if_neg e]
theorem sclAt_here (m : Nat → Nat → UInt8) (a : Nat) (y : UInt8) (b : Nat) : sclAt m a y b a b = m a b := if_neg (by omega)
theorem sclAt_step (m : Nat → Nat → UInt8) (a : Nat) (y : UInt8) (b i j : Nat) : put2 (sclAt m a y b) a b (gm (m a b) y) i j = sclAt m a y (b + 1) i j := by
  unfold put2 sclAt
  by_cases e : i = a ∧ j = b
  · rw [if_pos e, if_pos ⟨e.1, by omega⟩, e.2]
  · rw [if_neg e]
    by_cases e2 : i = a ∧ j < b
    · rw [if_pos e2, if_pos ⟨e2.1, by omega⟩]
    · rw [if_neg e2, if_neg (fun h => by
        rcases Nat.lt_or_ge j b with h1 | h1
        · exact e2 ⟨h.1, h1⟩
        · exact e ⟨h.1, by omega⟩)]
/-- row i and row a times a number, up to a column -/
def addAt (m : Nat → Nat → UInt8) (a r : Nat) (f : UInt8) (b : Nat) (i j : Nat) : UInt8 := if i = r ∧ j < b then m r j ^^^ gm f (m a j) else m i j
theorem addAt_zero (m : Nat → Nat → UInt8) (a r : Nat) (f : UInt8) (i j : Nat) : addAt m a r f 0 i j = m i j := if_neg (by omega)
theorem addAt_here (m : Nat → Nat → UInt8) (a r : Nat) (f : UInt8) (b : Nat) : addAt m a r f b r b = m r b := if_neg (by omega)
theorem addAt_other (m : Nat → Nat → UInt8) (a r : Nat) (f : UInt8) (b j : Nat) (h : a ≠ r) : addAt m a r f b a j = m a j := if_neg fun e => h e.1
theorem addAt_step (m : Nat → Nat → UInt8) (a r : Nat) (f : UInt8) (b i j : Nat) : put2 (addAt m a r f b) r b (m r b ^^^ gm f (m a b)) i j = addAt m a r f (b + 1) i j := by
  unfold put2 addAt
  by_cases e : i = r ∧ j = b
  · rw [if_pos e, if_pos ⟨e.1, by omega⟩, e.2]
  · rw [if_neg e]
    by_cases e2 : i = r ∧ j < b
    · rw [if_pos e2, if_pos ⟨e2.1, by omega⟩]
    · rw [if_neg e2, if_neg (fun h => by
        rcases Nat.lt_or_ge j b with h1 | h1
        · exact e2 ⟨h.1, h1⟩
        · exact e ⟨h.1, by omega⟩)]
theorem clr_zero (m : Nat → Nat → UInt8) (a c i j : Nat) : clr m a c 0 i j = m i j := if_pos (.inr (Nat.zero_le _))
theorem clr_here (m : Nat → Nat → UInt8) (a c i j : Nat) : clr m a c i i j = m i j := if_pos (.inr (Nat.le_refl _))
theorem clr_lead (m : Nat → Nat → UInt8) (a c r j : Nat) : clr m a c r a j = m a j := if_pos (.inl rfl)
/-- nothing is to be done in this row -/
theorem clr_skip (m : Nat → Nat → UInt8) (a c r i j : Nat) (h : r = a ∨ m r c = 0) : clr m a c (r + 1) i j = clr m a c r i j := by
  unfold clr
  by_cases e : i = a
  · rw [if_pos (.inl e), if_pos (.inl e)]
  · by_cases e2 : r + 1 ≤ i
    · rw [if_pos (.inr e2), if_pos (.inr (by omega))]
    · rw [if_neg (by omega)]
      by_cases e3 : r ≤ i
      · rw [if_pos (.inr e3)]
        obtain rfl : i = r := by omega
        rcases h with h | h
        · exact absurd h e
        · rw [h, zero_gm, UInt8.xor_zero]
      · rw [if_neg (by omega)]
/-- a row is done -/
theorem clr_row (m : Nat → Nat → UInt8) (a c r N i j : Nat) (h : r ≠ a) (hj : j < N) : addAt (clr m a c r) a r (m r c) N i j = clr m a c (r + 1) i j := by
  unfold addAt
  by_cases e : i = r
  · subst e
    rw [if_pos ⟨rfl, hj⟩, clr_here, clr_lead]
    unfold clr
    rw [if_neg (by omega)]
  · rw [if_neg (fun h => e h.1)]
    unfold clr
    by_cases e2 : i = a ∨ r ≤ i
    · rw [if_pos e2, if_pos (by omega)]
    · rw [if_neg e2, if_neg (by omega)]
end Gf
end Go.Proofs.YtoefhhkemljjdaaDoor
