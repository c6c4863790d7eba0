/- Registers, plain: Massey's lemma; the step that makes a shortest register a shortest one of one number more; a register of half the row's length is the only one. -/
import Derived.Test.YtoefhhkemljjdaaDoorGf
import Derived.Test.YtoefhhkemljjdaaDoorDm
namespace Go.Proofs.YtoefhhkemljjdaaDoor
set_option linter.unusedVariables false
namespace Gf
theorem sm_comm (F : Nat → Nat → UInt8) (n m : Nat) : sm (fun j => sm (fun k => F j k) m) n = sm (fun k => sm (fun j => F j k) n) m := by
  induction n with
  | zero => exact (sm_zero (fun _ _ => rfl)).symm
  | succ n ih =>
    rw [sm, ih, ← sm_xor]
    rfl
/-- the sum that a register makes at place i: 0 where it runs -/
def dis (s c : Nat → UInt8) (L i : Nat) : UInt8 := sm (fun j => gm (c j) (s (i - j))) (L + 1)
/-- a register of length L runs for the first n numbers -/
structure Run (s : Nat → UInt8) (n : Nat) (c : Nat → UInt8) (L : Nat) : Prop where
  one : c 0 = 1
  run : ∀ i, L ≤ i → i < n → dis s c L i = 0
theorem Run.less {s c : Nat → UInt8} {n m L : Nat} (h : Run s n c L) (hm : m ≤ n) : Run s m c L := ⟨h.one, fun i h1 h2 => h.run i h1 (by omega)⟩
theorem Run.more {s c : Nat → UInt8} {n L : Nat} (h : Run s n c L) (hd : L ≤ n → dis s c L n = 0) : Run s (n + 1) c L := ⟨h.one, fun i h1 h2 => by
  by_cases e : i = n
  · subst e; exact hd h1
  · exact h.run i h1 (by omega)⟩
theorem massey {s c d : Nat → UInt8} {L M n : Nat} (h : Run s n c L) (hd : dis s c L n ≠ 0) (k : Run s (n + 1) d M) : n + 1 ≤ L + M := by
  by_cases hc : n + 1 ≤ L + M
  · exact hc
  · exfalso
    refine hd ?_
    have e1 : sm (fun j => gm (d j) (dis s c L (n - j))) (M + 1) = dis s c L n := by
      rw [sm_left, k.one, one_gm, Nat.sub_zero, sm_zero (fun i hi => by rw [h.run (n - (i + 1)) (by omega) (by omega), gm_zero]), UInt8.xor_zero]
    have e2 : sm (fun j => gm (c j) (dis s d M (n - j))) (L + 1) = 0 := sm_zero fun i hi => by rw [k.run (n - i) (by omega) (by omega), gm_zero]
    rw [← e1, ← e2]
    unfold dis
    have e3 : ∀ j, gm (d j) (sm (fun i => gm (c i) (s (n - j - i))) (L + 1)) = sm (fun i => gm (d j) (gm (c i) (s (n - j - i)))) (L + 1) := fun j => (sm_gm _ _ _).symm
    have e4 : ∀ i, gm (c i) (sm (fun j => gm (d j) (s (n - i - j))) (M + 1)) = sm (fun j => gm (c i) (gm (d j) (s (n - i - j)))) (M + 1) := fun i => (sm_gm _ _ _).symm
    simp only [e3, e4]
    rw [sm_comm]
    refine sm_congr fun i _ => sm_congr fun j _ => ?_
    rw [← gm_assoc, ← gm_assoc, gm_comm (d j), show n - j - i = n - i - j by omega]
/-- none is shorter -/
def Least (s : Nat → UInt8) (n L : Nat) : Prop := ∀ d M, Run s n d M → L ≤ M
theorem Least.more {s : Nat → UInt8} {n L : Nat} (h : Least s n L) : Least s (n + 1) L := fun d M k => h d M (k.less (by omega))
theorem Least.step {s c : Nat → UInt8} {n L : Nat} (h : Least s n L) (hc : Run s n c L) (hd : dis s c L n ≠ 0) : Least s (n + 1) (max L (n + 1 - L)) := fun d M k => by
  have h1 := h d M (k.less (by omega))
  have h2 := massey hc hd k
  omega
/-- the new register: the old one and an elder one, moved and scaled -/
def mend (c b : Nat → UInt8) (a : UInt8) (x : Nat) (j : Nat) : UInt8 := c j ^^^ gm a (ps x b j)
theorem dis_long {s c : Nat → UInt8} {L M i : Nat} (hc : ∀ j, L < j → c j = 0) (hM : L ≤ M) : dis s c M i = dis s c L i := sm_more (by omega) fun j hj => by rw [hc j (by omega), zero_gm]
theorem dis_mend {s c b : Nat → UInt8} {a : UInt8} {x L M N i : Nat} (hc : ∀ j, L < j → c j = 0) (hb : ∀ j, M < j → b j = 0) (hL : L ≤ N) (hM : x + M ≤ N) (hx : x ≤ i) : dis s (mend c b a x) N i = dis s c L i ^^^ gm a (dis s b M (i - x)) := by
  have e : dis s (mend c b a x) N i = dis s c N i ^^^ gm a (sm (fun j => gm (ps x b j) (s (i - j))) (N + 1)) := by
    unfold dis
    rw [← sm_gm, ← sm_xor]
    refine sm_congr fun j _ => ?_
    unfold mend
    rw [xor_gm, gm_assoc]
  rw [e, dis_long hc hL]
  congr 2
  rw [show N + 1 = x + (N + 1 - x) by omega, sm_add, sm_zero (fun j hj => by unfold ps; rw [if_neg (by omega), zero_gm]), UInt8.zero_xor]
  unfold dis
  rw [← sm_more (n := M + 1) (m := N + 1 - x) (by omega) (fun j hj => by rw [hb j (by omega), zero_gm])]
  refine sm_congr fun j hj => ?_
  unfold ps
  rw [if_pos (by omega), Nat.add_sub_cancel_left, Nat.sub_sub]
/-- a step: c of length L runs for n numbers, not for one more; b of length M ran for m, and not for one more; L is m + 1 - M -/
theorem Run.step {s c b : Nat → UInt8} {n m L M : Nat} {a : UInt8} (hc : Run s n c L) (hcl : ∀ j, L < j → c j = 0) (hb : Run s m b M) (hbl : ∀ j, M < j → b j = 0) (hm : m < n) (hML : L + M = m + 1) (ha : gm a (dis s b M m) = dis s c L n) :
    Run s (n + 1) (mend c b a (n - m)) (max L (n + 1 - L)) ∧ ∀ j, max L (n + 1 - L) < j → mend c b a (n - m) j = 0 := by
  refine ⟨⟨?_, fun i h1 h2 => ?_⟩, fun j hj => ?_⟩
  · unfold mend ps
    rw [if_neg (by omega), gm_zero, UInt8.xor_zero, hc.one]
  · rw [dis_mend hcl hbl (by omega) (by omega) (by omega)]
    by_cases e : i = n
    · subst e
      rw [show i - (i - m) = m by omega, ha, UInt8.xor_self]
    · rw [hc.run i (by omega) (by omega), hb.run (i - (n - m)) (by omega) (by omega), gm_zero]; rfl
  · unfold mend
    rw [hcl j (by omega)]
    unfold ps
    rw [if_pos (by omega), hbl _ (by omega), gm_zero]; rfl
/-- the first step: nothing ran before -/
theorem Run.first {s : Nat → UInt8} {n : Nat} {c : Nat → UInt8} (h : c 0 = 1) : Run s n c n := ⟨h, fun i h1 h2 => by omega⟩
/-- a shortest register, if twice its length is at most the row's, is the only one of its length -/
theorem Run.only {s c d : Nat → UInt8} {n L : Nat} (hl : Least s n L) (hc : Run s n c L) (hd : Run s n d L) (h2 : 2 * L ≤ n) : ∀ j, j ≤ L → c j = d j := by
  by_cases hall : ∀ j, j ≤ L → c j = d j
  · exact hall
  exfalso
  -- the least place at which they differ
  have hmin : ∃ k, k ≤ L ∧ c k ≠ d k ∧ ∀ j, j < k → c j = d j := by
    have ⟨j0, hj0⟩ := Classical.not_forall.1 hall
    have ⟨hj1, hj2⟩ := Classical.not_imp.1 hj0
    clear hall hj0
    induction j0 using Nat.strongRecOn with
    | ind j ih =>
      by_cases h : ∀ k, k < j → c k = d k
      · exact ⟨j, hj1, hj2, h⟩
      · have ⟨k, hk⟩ := Classical.not_forall.1 h
        have ⟨hk1, hk2⟩ := Classical.not_imp.1 hk
        exact ih k hk1 (by omega) hk2
  obtain ⟨k, hkL, hk, hlow⟩ := hmin
  have hk0 : k ≠ 0 := fun e => hk (by rw [e, hc.one, hd.one])
  have hne : c k ^^^ d k ≠ 0 := fun e => hk (xor_eq_zero _ _ e)
  -- their difference, from there on, times what makes it begin with 1
  obtain ⟨v, hv⟩ : ∃ v, gm v (c k ^^^ d k) = 1 := ⟨gd 1 (c k ^^^ d k), gd_gm _ _ hne⟩
  have hb : Run s (n - k) (fun j => gm v (c (k + j) ^^^ d (k + j))) (L - k) := by
    refine ⟨hv, fun i h1 h3 => ?_⟩
    have e1 := hc.run (i + k) (by omega) (by omega)
    have e2 := hd.run (i + k) (by omega) (by omega)
    have e3 : sm (fun j => gm (c j ^^^ d j) (s (i + k - j))) (L + 1) = 0 := by
      have : sm (fun j => gm (c j) (s (i + k - j)) ^^^ gm (d j) (s (i + k - j))) (L + 1) = 0 := by
        rw [sm_xor]
        show dis s c L (i + k) ^^^ dis s d L (i + k) = 0
        rw [e1, e2]; rfl
      rw [← this]
      exact sm_congr fun j _ => xor_gm _ _ _
    rw [show L + 1 = k + (L - k + 1) by omega, sm_add, sm_zero (fun j hj => by rw [hlow j hj, UInt8.xor_self, zero_gm]), UInt8.zero_xor] at e3
    unfold dis
    have e4 : ∀ j, j < L - k + 1 → gm (gm v (c (k + j) ^^^ d (k + j))) (s (i - j)) = gm v (gm (c (k + j) ^^^ d (k + j)) (s (i + k - (k + j)))) := fun j _ => by
      rw [gm_assoc, show i + k - (k + j) = i - j by omega]
    rw [sm_congr e4, sm_gm, e3, gm_zero]
  -- it runs for all numbers, or there is a first one where it doesn't
  by_cases hrun : Run s n (fun j => gm v (c (k + j) ^^^ d (k + j))) (L - k)
  · have := hl _ _ hrun
    omega
  · have hfirst : ∃ m, n - k ≤ m ∧ m < n ∧ Run s m (fun j => gm v (c (k + j) ^^^ d (k + j))) (L - k) ∧ dis s (fun j => gm v (c (k + j) ^^^ d (k + j))) (L - k) m ≠ 0 := by
      have hgo : ∀ t, n - k + t ≤ n → Run s (n - k + t) (fun j => gm v (c (k + j) ^^^ d (k + j))) (L - k) ∨ ∃ m, n - k ≤ m ∧ m < n ∧ Run s m (fun j => gm v (c (k + j) ^^^ d (k + j))) (L - k) ∧ dis s (fun j => gm v (c (k + j) ^^^ d (k + j))) (L - k) m ≠ 0 := by
        intro t
        induction t with
        | zero => exact fun _ => .inl hb
        | succ t ih =>
          intro ht
          rcases ih (by omega) with h | h
          · by_cases e : dis s (fun j => gm v (c (k + j) ^^^ d (k + j))) (L - k) (n - k + t) = 0
            · exact .inl (h.more fun _ => e)
            · exact .inr ⟨n - k + t, by omega, by omega, h, e⟩
          · exact .inr h
      rcases hgo k (by omega) with h | h
      · rw [show n - k + k = n by omega] at h
        exact absurd h hrun
      · exact h
    obtain ⟨m, hm1, hm2, hm3, hm4⟩ := hfirst
    have := massey hm3 hm4 (hc.less (by omega))
    omega
end Gf
end Go.Proofs.YtoefhhkemljjdaaDoor
