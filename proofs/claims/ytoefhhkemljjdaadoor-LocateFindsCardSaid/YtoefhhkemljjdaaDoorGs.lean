/- Linear equations, plain: what Gauss' steps keep, and what comes of them. -/
import Derived.Test.YtoefhhkemljjdaaDoorMs
namespace Go.Proofs.YtoefhhkemljjdaaDoor
set_option linter.unusedVariables false
namespace Gf
/-- numbers that meet R equations in n unknowns: row i has coefficients m i j, and m i n on its right side -/
def Sol (m : Nat → Nat → UInt8) (R n : Nat) (x : Nat → UInt8) : Prop := ∀ i, i < R → sm (fun j => gm (m i j) (x j)) n = m i n
/-- rows a and k turned -/
def swp (m : Nat → Nat → UInt8) (a k : Nat) (i j : Nat) : UInt8 := if i = a then m k j else if i = k then m a j else m i j
/-- row a times a number -/
def scl (m : Nat → Nat → UInt8) (a : Nat) (y : UInt8) (i j : Nat) : UInt8 := if i = a then gm (m a j) y else m i j
/-- column c made 0 in all rows but a, up to row r -/
def clr (m : Nat → Nat → UInt8) (a c r : Nat) (i j : Nat) : UInt8 := if i = a ∨ r ≤ i then m i j else m i j ^^^ gm (m i c) (m a j)
theorem Sol.swp {m : Nat → Nat → UInt8} {R n a k : Nat} (ha : a < R) (hk : k < R) (x : Nat → UInt8) : Sol (swp m a k) R n x ↔ Sol m R n x := by
  have e1 : ∀ i, (sm (fun j => gm (Gf.swp m a k i j) (x j)) n = Gf.swp m a k i n) ↔ (sm (fun j => gm (m (if i = a then k else if i = k then a else i) j) (x j)) n = m (if i = a then k else if i = k then a else i) n) := fun i => by
    have : ∀ j, Gf.swp m a k i j = m (if i = a then k else if i = k then a else i) j := fun j => by
      unfold Gf.swp
      split
      · rfl
      · split <;> rfl
    simp only [this]
  constructor
  · intro h i hi
    by_cases ea : i = a
    · subst ea
      by_cases ek : k = i
      · have := (e1 i).1 (h i hi)
        rwa [if_pos rfl, ek] at this
      · have := (e1 k).1 (h k hk)
        rwa [if_neg ek, if_pos rfl] at this
    · by_cases ek : i = k
      · subst ek
        have := (e1 a).1 (h a ha)
        rwa [if_pos rfl] at this
      · have := (e1 i).1 (h i hi)
        rwa [if_neg ea, if_neg ek] at this
  · intro h i hi
    refine (e1 i).2 (h _ ?_)
    split
    · exact hk
    · split
      · exact ha
      · exact hi
theorem Sol.scl {m : Nat → Nat → UInt8} {R n a : Nat} {y : UInt8} (hy : y ≠ 0) (x : Nat → UInt8) : Sol (scl m a y) R n x ↔ Sol m R n x := by
  have e : ∀ i, (sm (fun j => gm (Gf.scl m a y i j) (x j)) n = Gf.scl m a y i n) ↔ (sm (fun j => gm (m i j) (x j)) n = m i n) := fun i => by
    by_cases h : i = a
    · subst h
      have e1 : ∀ j, gm (Gf.scl m i y i j) (x j) = gm y (gm (m i j) (x j)) := fun j => by
        unfold Gf.scl
        rw [if_pos rfl, gm_comm (m i j) y, gm_assoc]
      simp only [e1]
      rw [sm_gm]
      unfold Gf.scl
      rw [if_pos rfl, gm_comm (m i n) y]
      constructor
      · intro hh
        have : gm y (sm (fun j => gm (m i j) (x j)) n ^^^ m i n) = 0 := by rw [gm_xor, hh, UInt8.xor_self]
        exact xor_eq_zero _ _ ((gm_eq_zero _ _ hy).1 this)
      · intro hh
        rw [hh]
    · have e1 : ∀ j, Gf.scl m a y i j = m i j := fun j => by unfold Gf.scl; rw [if_neg h]
      simp only [e1]
  exact ⟨fun h i hi => (e i).1 (h i hi), fun h i hi => (e i).2 (h i hi)⟩
theorem Sol.clr {m : Nat → Nat → UInt8} {R n a c r : Nat} (ha : a < R) (x : Nat → UInt8) : Sol (clr m a c r) R n x ↔ Sol m R n x := by
  have e0 : ∀ j, Gf.clr m a c r a j = m a j := fun j => by unfold Gf.clr; rw [if_pos (.inl rfl)]
  have e : sm (fun j => gm (m a j) (x j)) n = m a n → ∀ i, (sm (fun j => gm (Gf.clr m a c r i j) (x j)) n = Gf.clr m a c r i n) ↔ (sm (fun j => gm (m i j) (x j)) n = m i n) := fun hA i => by
    by_cases h : i = a ∨ r ≤ i
    · have e1 : ∀ j, Gf.clr m a c r i j = m i j := fun j => by unfold Gf.clr; rw [if_pos h]
      simp only [e1]
    · have e1 : ∀ j, Gf.clr m a c r i j = m i j ^^^ gm (m i c) (m a j) := fun j => by unfold Gf.clr; rw [if_neg h]
      simp only [e1, xor_gm]
      rw [sm_xor]
      have e2 : ∀ j, gm (gm (m i c) (m a j)) (x j) = gm (m i c) (gm (m a j) (x j)) := fun j => gm_assoc _ _ _
      simp only [e2]
      rw [sm_gm, hA]
      constructor
      · intro hh
        have := congrArg (· ^^^ gm (m i c) (m a n)) hh
        simpa only [xor_cancel] using this
      · intro hh
        rw [hh]
  constructor
  · intro h
    have hA := h a ha
    simp only [e0] at hA
    exact fun i hi => (e hA i).1 (h i hi)
  · intro h
    exact fun i hi => (e (h a ha) i).2 (h i hi)
/-- ahead of column c: so many leading columns are done -/
structure El (m0 : Nat → Nat → UInt8) (R n : Nat) (m : Nat → Nat → UInt8) (lead : List Nat) (c : Nat) : Prop where
  le : lead.length ≤ R
  sol : ∀ x, Sol m0 R n x ↔ Sol m R n x
  low : ∀ t, t < lead.length → lead.getD t 0 < c
  one : ∀ t, t < lead.length → m t (lead.getD t 0) = 1
  else_ : ∀ t, t < lead.length → ∀ i, i < R → i ≠ t → m i (lead.getD t 0) = 0
  zero : ∀ i, lead.length ≤ i → i < R → ∀ j, j < c → m i j = 0
theorem El.start (m : Nat → Nat → UInt8) (R n : Nat) : El m R n m [] 0 := ⟨Nat.zero_le _, fun _ => Iff.rfl, fun t h => absurd h (by simp), fun t h => absurd h (by simp), fun t h => absurd h (by simp), fun i _ _ j h => absurd h (by omega)⟩
/-- no row has a number in column c -/
theorem El.skip {m0 m : Nat → Nat → UInt8} {R n c : Nat} {lead : List Nat} (h : El m0 R n m lead c) (hz : ∀ i, lead.length ≤ i → i < R → m i c = 0) : El m0 R n m lead (c + 1) :=
  ⟨h.le, h.sol, fun t ht => by have := h.low t ht; omega, h.one, h.else_, fun i h1 h2 j hj => by
    by_cases e : j = c
    · rw [e]; exact hz i h1 h2
    · exact h.zero i h1 h2 j (by omega)⟩
theorem El.pivot {m0 m : Nat → Nat → UInt8} {R n c k : Nat} {lead : List Nat} (h : El m0 R n m lead c) (h1 : lead.length ≤ k) (hk : k < R) {y : UInt8} (hy : gm (m k c) y = 1) :
    El m0 R n (clr (scl (swp m lead.length k) lead.length y) lead.length c R) (lead ++ [c]) (c + 1) := by
  have ha : lead.length < R := by omega
  have hy0 : y ≠ 0 := fun e => by rw [e, gm_zero] at hy; exact absurd hy (by decide)
  obtain ⟨a, hae⟩ : ∃ a, lead.length = a := ⟨_, rfl⟩
  rw [hae] at h1 ha ⊢
  -- the rows from a on are 0 left of c, swapped or not
  have s0 : ∀ i, a ≤ i → i < R → ∀ j, j < c → swp m a k i j = 0 := fun i h2 h3 j hj => by
    unfold swp
    split
    · exact h.zero k (by omega) hk j hj
    · split
      · exact h.zero a (by omega) ha j hj
      · exact h.zero i (by omega) h3 j hj
  have s1 : ∀ i, i < a → ∀ j, swp m a k i j = m i j := fun i h2 j => by unfold swp; rw [if_neg (by omega), if_neg (by omega)]
  have s2 : ∀ i, i ≠ a → ∀ j, scl (swp m a k) a y i j = swp m a k i j := fun i h2 j => by unfold scl; rw [if_neg h2]
  have s3 : ∀ j, scl (swp m a k) a y a j = gm (m k j) y := fun j => by unfold scl swp; rw [if_pos rfl, if_pos rfl]
  have s4 : ∀ i, i < R → i ≠ a → ∀ j, clr (scl (swp m a k) a y) a c R i j = swp m a k i j ^^^ gm (swp m a k i c) (gm (m k j) y) := fun i h2 h3 j => by
    unfold clr
    rw [if_neg (by omega), s2 i h3, s2 i h3, s3]
  have s5 : ∀ j, clr (scl (swp m a k) a y) a c R a j = gm (m k j) y := fun j => by
    unfold clr
    rw [if_pos (.inl rfl), s3]
  have l1 : ∀ t, t < a → (lead ++ [c]).getD t 0 = lead.getD t 0 := fun t ht => by
    simp [List.getD_eq_getElem?_getD, List.getElem?_append_left (show t < lead.length by omega)]
  have l2 : (lead ++ [c]).getD a 0 = c := by simp [List.getD_eq_getElem?_getD, ← hae]
  have l3 : (lead ++ [c]).length = a + 1 := by simp [hae]
  have kz : ∀ t, t < a → m k (lead.getD t 0) = 0 := fun t ht => h.else_ t (by omega) k hk (by omega)
  refine ⟨by omega, fun x => ?_, fun t ht => ?_, fun t ht => ?_, fun t ht i hi hne => ?_, fun i h2 h3 j hj => ?_⟩
  · rw [Sol.clr ha, Sol.scl hy0, Sol.swp ha hk]
    exact h.sol x
  · rw [l3] at ht
    by_cases e : t = a
    · rw [e, l2]; omega
    · rw [l1 t (by omega)]
      have := h.low t (by omega)
      omega
  · rw [l3] at ht
    by_cases e : t = a
    · rw [e, l2, s5, hy]
    · rw [l1 t (by omega), s4 t (by omega) (by omega), kz t (by omega), zero_gm, gm_zero, UInt8.xor_zero, s1 t (by omega), h.one t (by omega)]
  · rw [l3] at ht
    by_cases e : t = a
    · subst e
      rw [l2, s4 i hi hne, hy, gm_one, UInt8.xor_self]
    · rw [l1 t (by omega)]
      have hz : ∀ r, r < R → r ≠ t → m r (lead.getD t 0) = 0 := h.else_ t (by omega)
      by_cases ei : i = a
      · subst ei
        rw [s5, hz k hk (by omega), zero_gm]
      · rw [s4 i hi ei, kz t (by omega), zero_gm, gm_zero, UInt8.xor_zero]
        unfold swp
        rw [if_neg ei]
        split
        · exact hz a ha (by omega)
        · exact hz i hi hne
  · rw [l3] at h2
    rw [s4 i h3 (by omega)]
    by_cases e : j = c
    · subst e
      rw [hy, gm_one, UInt8.xor_self]
    · have hk0 : m k j = 0 := h.zero k (by omega) hk j (by omega)
      rw [s0 i (by omega) h3 j (by omega), hk0, zero_gm, gm_zero]; rfl
/-- a row without coefficients whose right side isn't 0: there is no solution -/
theorem El.never {m0 m : Nat → Nat → UInt8} {R n : Nat} {lead : List Nat} (h : El m0 R n m lead n) {i : Nat} (h1 : lead.length ≤ i) (h2 : i < R) (hz : m i n ≠ 0) (x : Nat → UInt8) : ¬ Sol m0 R n x := fun hs => hz (by
  rw [← ((h.sol x).1 hs) i h2]
  exact sm_zero fun j hj => by rw [h.zero i h1 h2 j hj, zero_gm])
/-- the right sides at the leading columns, and 0 elsewhere, are one -/
theorem El.done {m0 m : Nat → Nat → UInt8} {R n c : Nat} {lead : List Nat} (h : El m0 R n m lead c) (hc : c ≤ n) (hend : c = n ∨ lead.length = R) (hz : ∀ i, lead.length ≤ i → i < R → m i n = 0)
    {x : Nat → UInt8} (hx : ∀ t, t < lead.length → x (lead.getD t 0) = m t n) (hx0 : ∀ j, (∀ t, t < lead.length → lead.getD t 0 ≠ j) → x j = 0) : Sol m0 R n x := by
  refine (h.sol x).2 fun i hi => ?_
  by_cases e : i < lead.length
  · have hl := h.low i e
    have e1 : ∀ j, j < n → gm (m i j) (x j) = (if j = lead.getD i 0 then (fun _ => m i n) j else 0) := fun j _ => by
      by_cases ej : j = lead.getD i 0
      · rw [if_pos ej, ej, h.one i e, hx i e, one_gm]
      · rw [if_neg ej]
        by_cases hall : ∀ t, t < lead.length → lead.getD t 0 ≠ j
        · rw [hx0 j hall, gm_zero]
        · have ⟨t, ht⟩ := Classical.not_forall.1 hall
          have ⟨ht1, ht2⟩ := Classical.not_imp.1 ht
          have ht3 : lead.getD t 0 = j := Classical.not_not.1 ht2
          rw [← ht3, h.else_ t ht1 i hi (fun e2 => ej (by rw [← ht3, e2])), zero_gm]
    rw [sm_congr e1, sm_one _ _ _ (by omega)]
  · rcases hend with rfl | hR
    · rw [hz i (by omega) hi]
      exact sm_zero fun j hj => by rw [h.zero i (by omega) hi j hj, zero_gm]
    · omega
end Gf
end Go.Proofs.YtoefhhkemljjdaaDoor
