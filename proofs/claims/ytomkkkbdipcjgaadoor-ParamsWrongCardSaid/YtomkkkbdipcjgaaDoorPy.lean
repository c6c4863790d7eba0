/- Registers, plain: Massey's lemma; the step that makes a shortest register a shortest one of one number more; a register of half the row's length is the only one. Locators, plain: a row of sums of powers has a shortest register, of as many numbers as there are powers: the product of (1 + X x). Linear equations, plain: what Gauss' steps keep, and what comes of them. Where a word is wrong, plain: of a word's difference and erased values, the register's polynomial is the product over the values of the other changed places. Amounts, plain: the first numbers of a row as sums of powers; Forney's rule; a polynomial that has as many roots as its degree is their product; a word mended place by place. -/
import Derived.Test.YtomkkkbdipcjgaaDoorGf
import Derived.Test.YtomkkkbdipcjgaaDoorDm
import Derived.Test.YtomkkkbdipcjgaaDoorMu
namespace Go.Proofs.YtomkkkbdipcjgaaDoor
set_option linter.unusedVariables false
namespace Gf
theorem sm_comm (F : Nat → Nat → UInt8) (n m : Nat) : sm (fun j => sm (fun k => F j k) m) n = sm (fun k => sm (fun j => F j k) n) m := by
  induction n with
  | zero => exact (sm_zero (fun _ _ => rfl)).symm
  | succ n ih =>
    rw [sm, ih, ← sm_xor]
    rfl
/-- the sum that a register makes at place i: 0 where it runs -/
def dis (s c : Nat → UInt8) (L i : Nat) : UInt8 := sm (fun j => gm (c j) (s (i - j))) (L + 1)
/-- a register of length L runs for the first n numbers -/
structure Run (s : Nat → UInt8) (n : Nat) (c : Nat → UInt8) (L : Nat) : Prop where
  one : c 0 = 1
  run : ∀ i, L ≤ i → i < n → dis s c L i = 0
theorem Run.less {s c : Nat → UInt8} {n m L : Nat} (h : Run s n c L) (hm : m ≤ n) : Run s m c L := ⟨h.one, fun i h1 h2 => h.run i h1 (by omega)⟩
theorem Run.more {s c : Nat → UInt8} {n L : Nat} (h : Run s n c L) (hd : L ≤ n → dis s c L n = 0) : Run s (n + 1) c L := ⟨h.one, fun i h1 h2 => by
  by_cases e : i = n
  · subst e; exact hd h1
  · exact h.run i h1 (by omega)⟩
theorem massey {s c d : Nat → UInt8} {L M n : Nat} (h : Run s n c L) (hd : dis s c L n ≠ 0) (k : Run s (n + 1) d M) : n + 1 ≤ L + M := by
  by_cases hc : n + 1 ≤ L + M
  · exact hc
  · exfalso
    refine hd ?_
    have e1 : sm (fun j => gm (d j) (dis s c L (n - j))) (M + 1) = dis s c L n := by
      rw [sm_left, k.one, one_gm, Nat.sub_zero, sm_zero (fun i hi => by rw [h.run (n - (i + 1)) (by omega) (by omega), gm_zero]), UInt8.xor_zero]
    have e2 : sm (fun j => gm (c j) (dis s d M (n - j))) (L + 1) = 0 := sm_zero fun i hi => by rw [k.run (n - i) (by omega) (by omega), gm_zero]
    rw [← e1, ← e2]
    unfold dis
    have e3 : ∀ j, gm (d j) (sm (fun i => gm (c i) (s (n - j - i))) (L + 1)) = sm (fun i => gm (d j) (gm (c i) (s (n - j - i)))) (L + 1) := fun j => (sm_gm _ _ _).symm
    have e4 : ∀ i, gm (c i) (sm (fun j => gm (d j) (s (n - i - j))) (M + 1)) = sm (fun j => gm (c i) (gm (d j) (s (n - i - j)))) (M + 1) := fun i => (sm_gm _ _ _).symm
    simp only [e3, e4]
    rw [sm_comm]
    refine sm_congr fun i _ => sm_congr fun j _ => ?_
    rw [← gm_assoc, ← gm_assoc, gm_comm (d j), show n - j - i = n - i - j by omega]
/-- none is shorter -/
def Least (s : Nat → UInt8) (n L : Nat) : Prop := ∀ d M, Run s n d M → L ≤ M
theorem Least.more {s : Nat → UInt8} {n L : Nat} (h : Least s n L) : Least s (n + 1) L := fun d M k => h d M (k.less (by omega))
theorem Least.step {s c : Nat → UInt8} {n L : Nat} (h : Least s n L) (hc : Run s n c L) (hd : dis s c L n ≠ 0) : Least s (n + 1) (max L (n + 1 - L)) := fun d M k => by
  have h1 := h d M (k.less (by omega))
  have h2 := massey hc hd k
  omega
/-- the new register: the old one and an elder one, moved and scaled -/
def mend (c b : Nat → UInt8) (a : UInt8) (x : Nat) (j : Nat) : UInt8 := c j ^^^ gm a (ps x b j)
theorem dis_long {s c : Nat → UInt8} {L M i : Nat} (hc : ∀ j, L < j → c j = 0) (hM : L ≤ M) : dis s c M i = dis s c L i := sm_more (by omega) fun j hj => by rw [hc j (by omega), zero_gm]
theorem dis_mend {s c b : Nat → UInt8} {a : UInt8} {x L M N i : Nat} (hc : ∀ j, L < j → c j = 0) (hb : ∀ j, M < j → b j = 0) (hL : L ≤ N) (hM : x + M ≤ N) (hx : x ≤ i) : dis s (mend c b a x) N i = dis s c L i ^^^ gm a (dis s b M (i - x)) := by
  have e : dis s (mend c b a x) N i = dis s c N i ^^^ gm a (sm (fun j => gm (ps x b j) (s (i - j))) (N + 1)) := by
    unfold dis
    rw [← sm_gm, ← sm_xor]
    refine sm_congr fun j _ => ?_
    unfold mend
    rw [xor_gm, gm_assoc]
  rw [e, dis_long hc hL]
  congr 2
  rw [show N + 1 = x + (N + 1 - x) by omega, sm_add, sm_zero (fun j hj => by unfold ps; rw [if_neg (by omega), zero_gm]), UInt8.zero_xor]
  unfold dis
  rw [← sm_more (n := M + 1) (m := N + 1 - x) (by omega) (fun j hj => by rw [hb j (by omega), zero_gm])]
  refine sm_congr fun j hj => ?_
  unfold ps
  rw [if_pos (by omega), Nat.add_sub_cancel_left, Nat.sub_sub]
/-- a step: c of length L runs for n numbers, not for one more; b of length M ran for m, and not for one more; L is m + 1 - M -/
theorem Run.step {s c b : Nat → UInt8} {n m L M : Nat} {a : UInt8} (hc : Run s n c L) (hcl : ∀ j, L < j → c j = 0) (hb : Run s m b M) (hbl : ∀ j, M < j → b j = 0) (hm : m < n) (hML : L + M = m + 1) (ha : gm a (dis s b M m) = dis s c L n) :
    Run s (n + 1) (mend c b a (n - m)) (max L (n + 1 - L)) ∧ ∀ j, max L (n + 1 - L) < j → mend c b a (n - m) j = 0 := by
  refine ⟨⟨?_, fun i h1 h2 => ?_⟩, fun j hj => ?_⟩
  · unfold mend ps
    rw [if_neg (by omega), gm_zero, UInt8.xor_zero, hc.one]
  · rw [dis_mend hcl hbl (by omega) (by omega) (by omega)]
    by_cases e : i = n
    · subst e
      rw [show i - (i - m) = m by omega, ha, UInt8.xor_self]
    · rw [hc.run i (by omega) (by omega), hb.run (i - (n - m)) (by omega) (by omega), gm_zero]; rfl
  · unfold mend
    rw [hcl j (by omega)]
    unfold ps
    rw [if_pos (by omega), hbl _ (by omega), gm_zero]; rfl
/-- the first step: nothing ran before -/
theorem Run.first {s : Nat → UInt8} {n : Nat} {c : Nat → UInt8} (h : c 0 = 1) : Run s n c n := ⟨h, fun i h1 h2 => by omega⟩
/-- a shortest register, if twice its length is at most the row's, is the only one of its length -/
theorem Run.only {s c d : Nat → UInt8} {n L : Nat} (hl : Least s n L) (hc : Run s n c L) (hd : Run s n d L) (h2 : 2 * L ≤ n) : ∀ j, j ≤ L → c j = d j := by
  by_cases hall : ∀ j, j ≤ L → c j = d j
  · exact hall
  exfalso
  -- the least place at which they differ
  have hmin : ∃ k, k ≤ L ∧ c k ≠ d k ∧ ∀ j, j < k → c j = d j := by
    have ⟨j0, hj0⟩ := Classical.not_forall.1 hall
    have ⟨hj1, hj2⟩ := Classical.not_imp.1 hj0
    clear hall hj0
    induction j0 using Nat.strongRecOn with
    | ind j ih =>
      by_cases h : ∀ k, k < j → c k = d k
      · exact ⟨j, hj1, hj2, h⟩
      · have ⟨k, hk⟩ := Classical.not_forall.1 h
        have ⟨hk1, hk2⟩ := Classical.not_imp.1 hk
        exact ih k hk1 (by omega) hk2
  obtain ⟨k, hkL, hk, hlow⟩ := hmin
  have hk0 : k ≠ 0 := fun e => hk (by rw [e, hc.one, hd.one])
  have hne : c k ^^^ d k ≠ 0 := fun e => hk (xor_eq_zero _ _ e)
  -- their difference, from there on, times what makes it begin with 1
  obtain ⟨v, hv⟩ : ∃ v, gm v (c k ^^^ d k) = 1 := ⟨gd 1 (c k ^^^ d k), gd_gm _ _ hne⟩
  have hb : Run s (n - k) (fun j => gm v (c (k + j) ^^^ d (k + j))) (L - k) := by
    refine ⟨hv, fun i h1 h3 => ?_⟩
    have e1 := hc.run (i + k) (by omega) (by omega)
    have e2 := hd.run (i + k) (by omega) (by omega)
    have e3 : sm (fun j => gm (c j ^^^ d j) (s (i + k - j))) (L + 1) = 0 := by
      have : sm (fun j => gm (c j) (s (i + k - j)) ^^^ gm (d j) (s (i + k - j))) (L + 1) = 0 := by
        rw [sm_xor]
        show dis s c L (i + k) ^^^ dis s d L (i + k) = 0
        rw [e1, e2]; rfl
      rw [← this]
      exact sm_congr fun j _ => xor_gm _ _ _
    rw [show L + 1 = k + (L - k + 1) by omega, sm_add, sm_zero (fun j hj => by rw [hlow j hj, UInt8.xor_self, zero_gm]), UInt8.zero_xor] at e3
    unfold dis
    have e4 : ∀ j, j < L - k + 1 → gm (gm v (c (k + j) ^^^ d (k + j))) (s (i - j)) = gm v (gm (c (k + j) ^^^ d (k + j)) (s (i + k - (k + j)))) := fun j _ => by
      rw [gm_assoc, show i + k - (k + j) = i - j by omega]
    rw [sm_congr e4, sm_gm, e3, gm_zero]
  -- it runs for all numbers, or there is a first one where it doesn't
  by_cases hrun : Run s n (fun j => gm v (c (k + j) ^^^ d (k + j))) (L - k)
  · have := hl _ _ hrun
    omega
  · have hfirst : ∃ m, n - k ≤ m ∧ m < n ∧ Run s m (fun j => gm v (c (k + j) ^^^ d (k + j))) (L - k) ∧ dis s (fun j => gm v (c (k + j) ^^^ d (k + j))) (L - k) m ≠ 0 := by
      have hgo : ∀ t, n - k + t ≤ n → Run s (n - k + t) (fun j => gm v (c (k + j) ^^^ d (k + j))) (L - k) ∨ ∃ m, n - k ≤ m ∧ m < n ∧ Run s m (fun j => gm v (c (k + j) ^^^ d (k + j))) (L - k) ∧ dis s (fun j => gm v (c (k + j) ^^^ d (k + j))) (L - k) m ≠ 0 := by
        intro t
        induction t with
        | zero => exact fun _ => .inl hb
        | succ t ih =>
          intro ht
          rcases ih (by omega) with h | h
          · by_cases e : dis s (fun j => gm v (c (k + j) ^^^ d (k + j))) (L - k) (n - k + t) = 0
            · exact .inl (h.more fun _ => e)
            · exact .inr ⟨n - k + t, by omega, by omega, h, e⟩
          · exact .inr h
      rcases hgo k (by omega) with h | h
      · rw [show n - k + k = n by omega] at h
        exact absurd h hrun
      · exact h
    obtain ⟨m, hm1, hm2, hm3, hm4⟩ := hfirst
    have := massey hm3 hm4 (hc.less (by omega))
    omega
end Gf
end Go.Proofs.YtomkkkbdipcjgaaDoor
namespace Go.Proofs.YtomkkkbdipcjgaaDoor
set_option linter.unusedVariables false
namespace Gf
/-- Horner's rule as a sum -/
theorem hv_sm (x : UInt8) (G : List UInt8) (L : Nat) (h : G.length = L + 1) : hv x G = sm (fun j => gm (co G j) (px x (L - j))) (L + 1) := by
  induction G generalizing L with
  | nil => cases h
  | cons c G ih =>
    have hG : G.length = L := by simpa using h
    rw [hv_cons, sm_left, hG]
    have e1 : ∀ i, co (c :: G) (i + 1) = co G i := fun i => by simp [co]
    congr 1
    cases L with
    | zero =>
      rw [List.eq_nil_of_length_eq_zero hG]
      rfl
    | succ L =>
      rw [ih L hG]
      exact sm_congr fun j hj => by rw [e1, show L + 1 - (j + 1) = L - j by omega]
/-- what a register makes of a row of sums of powers -/
theorem dis_ls (l : List (UInt8 × UInt8)) (G : List UInt8) (L i : Nat) (h : G.length = L + 1) (hi : L ≤ i) : dis (ls l) (co G) L i = ls (l.map fun e => (gm e.1 (hv e.2 G), e.2)) (i - L) := by
  induction l with
  | nil =>
    exact sm_zero fun j _ => by rw [show ls [] (i - j) = 0 from rfl, gm_zero]
  | cons e l ih =>
    rw [List.map_cons, ls_cons, ← ih]
    unfold dis
    have e1 : ∀ j, j < L + 1 → gm (co G j) (ls (e :: l) (i - j)) = gm (gm e.1 (px e.2 (i - L))) (gm (co G j) (px e.2 (L - j))) ^^^ gm (co G j) (ls l (i - j)) := fun j hj => by
      rw [ls_cons, gm_xor]
      congr 1
      rw [show i - j = (i - L) + (L - j) by omega, px_add, ← gm_assoc, ← gm_assoc, gm_comm (co G j) e.1, gm_assoc e.1, gm_assoc, gm_comm (co G j) (px e.2 (i - L)), ← gm_assoc e.1, gm_assoc, gm_assoc, gm_assoc]
    rw [sm_congr e1, sm_xor, sm_gm, ← hv_sm e.2 G L h]
    congr 1
    show gm (gm e.1 (px e.2 (i - L))) (hv e.2 G) = gm (gm e.1 (hv e.2 G)) (px e.2 (i - L))
    rw [gm_assoc, gm_assoc, gm_comm (px e.2 (i - L))]
/-- division by (x + r) -/
theorem hv_root (r : UInt8) (G : List UInt8) : ∃ Q : List UInt8, Q.length = G.length - 1 ∧ (Q ≠ [] → co Q 0 = co G 0) ∧ ∀ x, hv x G = gm (x ^^^ r) (hv x Q) ^^^ hv r G := by
  obtain ⟨T, rfl⟩ : ∃ T : List UInt8, G = T.reverse := ⟨G.reverse, by simp⟩
  induction T with
  | nil => exact ⟨[], rfl, fun h => absurd rfl h, fun x => by
      show (0 : UInt8) = gm (x ^^^ r) 0 ^^^ 0
      rw [gm_zero]; rfl⟩
  | cons c T ih =>
    obtain ⟨Q, hl, h0, hx⟩ := ih
    rw [List.reverse_cons]
    generalize T.reverse = G at *
    cases G with
    | nil => exact ⟨[], by simp, fun h => absurd rfl h, fun x => by
        rw [show hv x [] = 0 from rfl, gm_zero, UInt8.zero_xor]
        show hv x ([] ++ [c]) = hv r ([] ++ [c])
        rw [hv_snoc, hv_snoc, show hv x [] = 0 from rfl, show hv r [] = 0 from rfl, zero_gm, zero_gm]⟩
    | cons g G =>
      refine ⟨Q ++ [hv r (g :: G)], by simp at hl ⊢; omega, fun _ => ?_, fun x => ?_⟩
      · cases Q with
        | nil =>
          have : G = [] := List.eq_nil_of_length_eq_zero (by simpa using hl.symm)
          subst this
          show hv r [g] = g
          show hv r ([] ++ [g]) = g
          rw [hv_snoc, show hv r [] = 0 from rfl, zero_gm, UInt8.zero_xor]
        | cons q Q => exact h0 (by simp)
      · rw [hv_snoc, hv_snoc, hv_snoc, hx x]
        generalize hv x Q = u
        generalize hv r (g :: G) = v
        rw [gm_xor, xor_gm, gm_assoc, gm_comm u x, xor_gm x r v, gm_comm x v, gm_comm r v]
        generalize gm (x ^^^ r) (gm x u) = A
        generalize gm v x = B
        generalize gm v r = C
        rw [UInt8.xor_assoc A B c, UInt8.xor_assoc A (B ^^^ C) (C ^^^ c), UInt8.xor_assoc B C (C ^^^ c), ← UInt8.xor_assoc C C c, UInt8.xor_self, UInt8.zero_xor]
/-- no more roots than the degree tells -/
theorem roots_few (xs : List UInt8) : ∀ (G : List UInt8), co G 0 ≠ 0 → xs.Nodup → (∀ x ∈ xs, hv x G = 0) → xs.length + 1 ≤ G.length := by
  induction xs with
  | nil =>
    intro G h0 _ _
    cases G with
    | nil => exact absurd rfl h0
    | cons g G => simp
  | cons r xs ih =>
    intro G h0 hn hx
    rw [List.nodup_cons] at hn
    obtain ⟨Q, hl, hq, he⟩ := hv_root r G
    have hr := hx r (by simp)
    have hG : 2 ≤ G.length := by
      match G, h0, hr with
      | [g], h0, hr =>
        exfalso
        refine h0 ?_
        have : hv r ([] ++ [g]) = 0 := hr
        rw [hv_snoc, show hv r [] = 0 from rfl, zero_gm, UInt8.zero_xor] at this
        exact this
      | g :: g2 :: G, _, _ => simp
    have hQ : Q ≠ [] := fun e => by rw [e] at hl; simp at hl; omega
    have := ih Q (by rw [hq hQ]; exact h0) hn.2 fun x hm => by
      have h1 := he x
      rw [hx x (by simp [hm]), hr, UInt8.xor_zero] at h1
      have hne : x ^^^ r ≠ 0 := fun e => hn.1 (by rw [← xor_eq_zero x r e]; exact hm)
      exact (gm_eq_zero _ _ hne).1 h1.symm
    simp
    omega
/-- no register is shorter than there are powers, if the row is twice as long -/
theorem ls_least (l : List (UInt8 × UInt8)) (hn : (l.map (·.2)).Nodup) (h0 : ∀ e ∈ l, e.1 ≠ 0) (n : Nat) (h2 : 2 * l.length ≤ n) : Least (ls l) n l.length := by
  intro d M hd
  by_cases hM : l.length ≤ M
  · exact hM
  exfalso
  have hG : (tab d (M + 1)).length = M + 1 := by simp
  have hz : ∀ e ∈ l.map (fun e => (gm e.1 (hv e.2 (tab d (M + 1))), e.2)), e.1 = 0 := by
    refine vander _ (by simpa [Function.comp_def] using hn) fun j hj => ?_
    simp at hj
    have h1 := dis_ls l (tab d (M + 1)) M (M + j) hG (by omega)
    rw [show M + j - M = j by omega] at h1
    rw [← h1, ← hd.run (M + j) (by omega) (by omega)]
    exact sm_congr fun i hi => by rw [co_tab _ _ _ hi]
  have := roots_few (l.map (·.2)) (tab d (M + 1)) (by rw [co_tab _ _ _ (by omega), hd.one]; decide) hn fun x hx => by
    obtain ⟨e, he, rfl⟩ := List.mem_map.1 hx
    have h1 := hz _ (List.mem_map.2 ⟨e, he, rfl⟩)
    exact (gm_eq_zero _ _ (h0 e he)).1 h1
  simp at this
  omega
/-- a register that is 0 at all powers runs, however long the row -/
theorem ls_run (l : List (UInt8 × UInt8)) (G : List UInt8) (L n : Nat) (h : G.length = L + 1) (h1 : co G 0 = 1) (hz : ∀ e ∈ l, hv e.2 G = 0) : Run (ls l) n (co G) L :=
  ⟨h1, fun i hi _ => by
    rw [dis_ls l G L i h hi]
    refine ls_zero (fun e he => ?_) _
    obtain ⟨d, hd, rfl⟩ := List.mem_map.1 he
    show gm d.1 (hv d.2 G) = 0
    rw [hz d hd, gm_zero]⟩
/-- times (1 + y x), the lowest power first -/
def ny (G : List UInt8) (y : UInt8) : List UInt8 := tab (fun m => co G m ^^^ gm y (if m = 0 then 0 else co G (m - 1))) (G.length + 1)
/-- the product of (1 + y x) over ys -/
def locL (ys : List UInt8) : List UInt8 := ys.foldl ny [1]
@[simp] theorem ny_length (G : List UInt8) (y : UInt8) : (ny G y).length = G.length + 1 := by simp [ny]
theorem hv_ny (G : List UInt8) (x y : UInt8) : hv x (ny G y) = gm (hv x G) (x ^^^ y) := by
  have e : ny G y = sumW (G ++ [0]) (0 :: G.map (gm y)) := by
    refine list_ext (by simp [sumW]) fun m hm => ?_
    simp at hm
    have e1 : co (ny G y) m = co G m ^^^ gm y (if m = 0 then 0 else co G (m - 1)) := co_tab _ _ _ hm
    have e2 : co (sumW (G ++ [0]) (0 :: G.map (gm y))) m = co (G ++ [0]) m ^^^ co (0 :: G.map (gm y)) m := by
      simp only [co, sumW, List.getD_eq_getElem?_getD, List.getElem?_zipWith]
      rw [List.getElem?_eq_getElem (l := G ++ [0]) (by simp; omega), List.getElem?_eq_getElem (l := 0 :: G.map (gm y)) (by simp; omega)]
      rfl
    rw [e1, e2]
    congr 1
    · simp only [co, List.getD_eq_getElem?_getD]
      by_cases h : m < G.length
      · rw [List.getElem?_append_left h]
      · rw [List.getElem?_append_right (by omega), List.getElem?_eq_none (by omega), show m - G.length = 0 by omega]
        rfl
    · cases m with
      | zero => rw [if_pos rfl, gm_zero]; rfl
      | succ m =>
        rw [if_neg (by omega), Nat.add_sub_cancel]
        simp only [co, List.getD_eq_getElem?_getD, List.getElem?_cons_succ, List.getElem?_map]
        rw [List.getElem?_eq_getElem (by omega)]
        rfl
  rw [e, hv_sum _ _ _ (by simp), hv_snoc, hv_cons, zero_gm, UInt8.zero_xor, hv_scale, UInt8.xor_zero, gm_xor, gm_comm y]
theorem locL_length (ys : List UInt8) : (locL ys).length = ys.length + 1 := by
  have h : ∀ (ys : List UInt8) (G : List UInt8), (ys.foldl ny G).length = G.length + ys.length := by
    intro ys
    induction ys with
    | nil => intro G; rfl
    | cons y ys ih => intro G; rw [List.foldl_cons, ih]; simp; omega
  rw [locL, h]
  simp; omega
theorem locL_snoc (ys : List UInt8) (y : UInt8) : locL (ys ++ [y]) = ny (locL ys) y := by
  unfold locL
  rw [List.foldl_append]
  rfl
theorem locL_one (ys : List UInt8) : co (locL ys) 0 = 1 := by
  have h : ∀ (ys : List UInt8) (G : List UInt8), co (ys.foldl ny G) 0 = co G 0 := by
    intro ys
    induction ys with
    | nil => intro G; rfl
    | cons y ys ih =>
      intro G
      rw [List.foldl_cons, ih, show co (ny G y) 0 = _ from co_tab _ _ _ (by omega), if_pos rfl, gm_zero, UInt8.xor_zero]
  rw [locL, h]
  rfl
theorem hv_locL (ys : List UInt8) (x : UInt8) : hv x (locL ys) = 0 ↔ x ∈ ys := by
  have h : ∀ (ys : List UInt8) (G : List UInt8), hv x (ys.foldl ny G) = 0 ↔ hv x G = 0 ∨ x ∈ ys := by
    intro ys
    induction ys with
    | nil => intro G; simp
    | cons y ys ih =>
      intro G
      rw [List.foldl_cons, ih, hv_ny, List.mem_cons]
      by_cases hG : hv x G = 0
      · simp [hG, zero_gm]
      · rw [gm_eq_zero _ _ hG]
        constructor
        · rintro (h | h)
          · exact .inr (.inl (xor_eq_zero _ _ h))
          · exact .inr (.inr h)
        · rintro (h | h | h)
          · exact absurd h hG
          · exact .inl (by rw [h, UInt8.xor_self])
          · exact .inr h
  rw [locL, h]
  constructor
  · rintro (h | h)
    · rw [show hv x [1] = gm 0 x ^^^ 1 from rfl, zero_gm] at h
      exact absurd h (by decide)
    · exact h
  · exact .inr
/-- the locator of the powers is the shortest register -/
theorem loc_run (l : List (UInt8 × UInt8)) (n : Nat) : Run (ls l) n (co (locL (l.map (·.2)))) l.length :=
  ls_run l _ _ n (by rw [locL_length]; simp) (locL_one _) fun e he => (hv_locL _ _).2 (List.mem_map.2 ⟨e, he, rfl⟩)
end Gf
end Go.Proofs.YtomkkkbdipcjgaaDoor
namespace Go.Proofs.YtomkkkbdipcjgaaDoor
set_option linter.unusedVariables false
namespace Gf
/-- numbers that meet R equations in n unknowns: row i has coefficients m i j, and m i n on its right side -/
def Sol (m : Nat → Nat → UInt8) (R n : Nat) (x : Nat → UInt8) : Prop := ∀ i, i < R → sm (fun j => gm (m i j) (x j)) n = m i n
/-- rows a and k turned -/
def swp (m : Nat → Nat → UInt8) (a k : Nat) (i j : Nat) : UInt8 := if i = a then m k j else if i = k then m a j else m i j
/-- row a times a number -/
def scl (m : Nat → Nat → UInt8) (a : Nat) (y : UInt8) (i j : Nat) : UInt8 := if i = a then gm (m a j) y else m i j
/-- column c made 0 in all rows but a, up to row r -/
def clr (m : Nat → Nat → UInt8) (a c r : Nat) (i j : Nat) : UInt8 := if i = a ∨ r ≤ i then m i j else m i j ^^^ gm (m i c) (m a j)
theorem Sol.swp {m : Nat → Nat → UInt8} {R n a k : Nat} (ha : a < R) (hk : k < R) (x : Nat → UInt8) : Sol (swp m a k) R n x ↔ Sol m R n x := by
  have e1 : ∀ i, (sm (fun j => gm (Gf.swp m a k i j) (x j)) n = Gf.swp m a k i n) ↔ (sm (fun j => gm (m (if i = a then k else if i = k then a else i) j) (x j)) n = m (if i = a then k else if i = k then a else i) n) := fun i => by
    have : ∀ j, Gf.swp m a k i j = m (if i = a then k else if i = k then a else i) j := fun j => by
      unfold Gf.swp
      split
      · rfl
      · split <;> rfl
    simp only [this]
  constructor
  · intro h i hi
    by_cases ea : i = a
    · subst ea
      by_cases ek : k = i
      · have := (e1 i).1 (h i hi)
        rwa [if_pos rfl, ek] at this
      · have := (e1 k).1 (h k hk)
        rwa [if_neg ek, if_pos rfl] at this
    · by_cases ek : i = k
      · subst ek
        have := (e1 a).1 (h a ha)
        rwa [if_pos rfl] at this
      · have := (e1 i).1 (h i hi)
        rwa [if_neg ea, if_neg ek] at this
  · intro h i hi
    refine (e1 i).2 (h _ ?_)
    split
    · exact hk
    · split
      · exact ha
      · exact hi
theorem Sol.scl {m : Nat → Nat → UInt8} {R n a : Nat} {y : UInt8} (hy : y ≠ 0) (x : Nat → UInt8) : Sol (scl m a y) R n x ↔ Sol m R n x := by
  have e : ∀ i, (sm (fun j => gm (Gf.scl m a y i j) (x j)) n = Gf.scl m a y i n) ↔ (sm (fun j => gm (m i j) (x j)) n = m i n) := fun i => by
    by_cases h : i = a
    · subst h
      have e1 : ∀ j, gm (Gf.scl m i y i j) (x j) = gm y (gm (m i j) (x j)) := fun j => by
        unfold Gf.scl
        rw [if_pos rfl, gm_comm (m i j) y, gm_assoc]
      simp only [e1]
      rw [sm_gm]
      unfold Gf.scl
      rw [if_pos rfl, gm_comm (m i n) y]
      constructor
      · intro hh
        have : gm y (sm (fun j => gm (m i j) (x j)) n ^^^ m i n) = 0 := by rw [gm_xor, hh, UInt8.xor_self]
        exact xor_eq_zero _ _ ((gm_eq_zero _ _ hy).1 this)
      · intro hh
        rw [hh]
    · have e1 : ∀ j, Gf.scl m a y i j = m i j := fun j => by unfold Gf.scl; rw [if_neg h]
      simp only [e1]
  exact ⟨fun h i hi => (e i).1 (h i hi), fun h i hi => (e i).2 (h i hi)⟩
theorem Sol.clr {m : Nat → Nat → UInt8} {R n a c r : Nat} (ha : a < R) (x : Nat → UInt8) : Sol (clr m a c r) R n x ↔ Sol m R n x := by
  have e0 : ∀ j, Gf.clr m a c r a j = m a j := fun j => by unfold Gf.clr; rw [if_pos (.inl rfl)]
  have e : sm (fun j => gm (m a j) (x j)) n = m a n → ∀ i, (sm (fun j => gm (Gf.clr m a c r i j) (x j)) n = Gf.clr m a c r i n) ↔ (sm (fun j => gm (m i j) (x j)) n = m i n) := fun hA i => by
    by_cases h : i = a ∨ r ≤ i
    · have e1 : ∀ j, Gf.clr m a c r i j = m i j := fun j => by unfold Gf.clr; rw [if_pos h]
      simp only [e1]
    · have e1 : ∀ j, Gf.clr m a c r i j = m i j ^^^ gm (m i c) (m a j) := fun j => by unfold Gf.clr; rw [if_neg h]
      simp only [e1, xor_gm]
      rw [sm_xor]
      have e2 : ∀ j, gm (gm (m i c) (m a j)) (x j) = gm (m i c) (gm (m a j) (x j)) := fun j => gm_assoc _ _ _
      simp only [e2]
      rw [sm_gm, hA]
      constructor
      · intro hh
        have := congrArg (· ^^^ gm (m i c) (m a n)) hh
        simpa only [xor_cancel] using this
      · intro hh
        rw [hh]
  constructor
  · intro h
    have hA := h a ha
    simp only [e0] at hA
    exact fun i hi => (e hA i).1 (h i hi)
  · intro h
    exact fun i hi => (e (h a ha) i).2 (h i hi)
/-- ahead of column c: so many leading columns are done -/
structure El (m0 : Nat → Nat → UInt8) (R n : Nat) (m : Nat → Nat → UInt8) (lead : List Nat) (c : Nat) : Prop where
  le : lead.length ≤ R
  sol : ∀ x, Sol m0 R n x ↔ Sol m R n x
  low : ∀ t, t < lead.length → lead.getD t 0 < c
  one : ∀ t, t < lead.length → m t (lead.getD t 0) = 1
  else_ : ∀ t, t < lead.length → ∀ i, i < R → i ≠ t → m i (lead.getD t 0) = 0
  zero : ∀ i, lead.length ≤ i → i < R → ∀ j, j < c → m i j = 0
theorem El.start (m : Nat → Nat → UInt8) (R n : Nat) : El m R n m [] 0 := ⟨Nat.zero_le _, fun _ => Iff.rfl, fun t h => absurd h (by simp), fun t h => absurd h (by simp), fun t h => absurd h (by simp), fun i _ _ j h => absurd h (by omega)⟩
/-- no row has a number in column c -/
theorem El.skip {m0 m : Nat → Nat → UInt8} {R n c : Nat} {lead : List Nat} (h : El m0 R n m lead c) (hz : ∀ i, lead.length ≤ i → i < R → m i c = 0) : El m0 R n m lead (c + 1) :=
  ⟨h.le, h.sol, fun t ht => by have := h.low t ht; omega, h.one, h.else_, fun i h1 h2 j hj => by
    by_cases e : j = c
    · rw [e]; exact hz i h1 h2
    · exact h.zero i h1 h2 j (by omega)⟩
theorem El.pivot {m0 m : Nat → Nat → UInt8} {R n c k : Nat} {lead : List Nat} (h : El m0 R n m lead c) (h1 : lead.length ≤ k) (hk : k < R) {y : UInt8} (hy : gm (m k c) y = 1) :
    El m0 R n (clr (scl (swp m lead.length k) lead.length y) lead.length c R) (lead ++ [c]) (c + 1) := by
  have ha : lead.length < R := by omega
  have hy0 : y ≠ 0 := fun e => by rw [e, gm_zero] at hy; exact absurd hy (by decide)
  obtain ⟨a, hae⟩ : ∃ a, lead.length = a := ⟨_, rfl⟩
  rw [hae] at h1 ha ⊢
  -- the rows from a on are 0 left of c, swapped or not
  have s0 : ∀ i, a ≤ i → i < R → ∀ j, j < c → swp m a k i j = 0 := fun i h2 h3 j hj => by
    unfold swp
    split
    · exact h.zero k (by omega) hk j hj
    · split
      · exact h.zero a (by omega) ha j hj
      · exact h.zero i (by omega) h3 j hj
  have s1 : ∀ i, i < a → ∀ j, swp m a k i j = m i j := fun i h2 j => by unfold swp; rw [if_neg (by omega), if_neg (by omega)]
  have s2 : ∀ i, i ≠ a → ∀ j, scl (swp m a k) a y i j = swp m a k i j := fun i h2 j => by unfold scl; rw [if_neg h2]
  have s3 : ∀ j, scl (swp m a k) a y a j = gm (m k j) y := fun j => by unfold scl swp; rw [if_pos rfl, if_pos rfl]
  have s4 : ∀ i, i < R → i ≠ a → ∀ j, clr (scl (swp m a k) a y) a c R i j = swp m a k i j ^^^ gm (swp m a k i c) (gm (m k j) y) := fun i h2 h3 j => by
    unfold clr
    rw [if_neg (by omega), s2 i h3, s2 i h3, s3]
  have s5 : ∀ j, clr (scl (swp m a k) a y) a c R a j = gm (m k j) y := fun j => by
    unfold clr
    rw [if_pos (.inl rfl), s3]
  have l1 : ∀ t, t < a → (lead ++ [c]).getD t 0 = lead.getD t 0 := fun t ht => by
    simp [List.getD_eq_getElem?_getD, List.getElem?_append_left (show t < lead.length by omega)]
  have l2 : (lead ++ [c]).getD a 0 = c := by simp [List.getD_eq_getElem?_getD, ← hae]
  have l3 : (lead ++ [c]).length = a + 1 := by simp [hae]
  have kz : ∀ t, t < a → m k (lead.getD t 0) = 0 := fun t ht => h.else_ t (by omega) k hk (by omega)
  refine ⟨by omega, fun x => ?_, fun t ht => ?_, fun t ht => ?_, fun t ht i hi hne => ?_, fun i h2 h3 j hj => ?_⟩
  · rw [Sol.clr ha, Sol.scl hy0, Sol.swp ha hk]
    exact h.sol x
  · rw [l3] at ht
    by_cases e : t = a
    · rw [e, l2]; omega
    · rw [l1 t (by omega)]
      have := h.low t (by omega)
      omega
  · rw [l3] at ht
    by_cases e : t = a
    · rw [e, l2, s5, hy]
    · rw [l1 t (by omega), s4 t (by omega) (by omega), kz t (by omega), zero_gm, gm_zero, UInt8.xor_zero, s1 t (by omega), h.one t (by omega)]
  · rw [l3] at ht
    by_cases e : t = a
    · subst e
      rw [l2, s4 i hi hne, hy, gm_one, UInt8.xor_self]
    · rw [l1 t (by omega)]
      have hz : ∀ r, r < R → r ≠ t → m r (lead.getD t 0) = 0 := h.else_ t (by omega)
      by_cases ei : i = a
      · subst ei
        rw [s5, hz k hk (by omega), zero_gm]
      · rw [s4 i hi ei, kz t (by omega), zero_gm, gm_zero, UInt8.xor_zero]
        unfold swp
        rw [if_neg ei]
        split
        · exact hz a ha (by omega)
        · exact hz i hi hne
  · rw [l3] at h2
    rw [s4 i h3 (by omega)]
    by_cases e : j = c
    · subst e
      rw [hy, gm_one, UInt8.xor_self]
    · have hk0 : m k j = 0 := h.zero k (by omega) hk j (by omega)
      rw [s0 i (by omega) h3 j (by omega), hk0, zero_gm, gm_zero]; rfl
/-- a row without coefficients whose right side isn't 0: there is no solution -/
theorem El.never {m0 m : Nat → Nat → UInt8} {R n : Nat} {lead : List Nat} (h : El m0 R n m lead n) {i : Nat} (h1 : lead.length ≤ i) (h2 : i < R) (hz : m i n ≠ 0) (x : Nat → UInt8) : ¬ Sol m0 R n x := fun hs => hz (by
  rw [← ((h.sol x).1 hs) i h2]
  exact sm_zero fun j hj => by rw [h.zero i h1 h2 j hj, zero_gm])
/-- the right sides at the leading columns, and 0 elsewhere, are one -/
theorem El.done {m0 m : Nat → Nat → UInt8} {R n c : Nat} {lead : List Nat} (h : El m0 R n m lead c) (hc : c ≤ n) (hend : c = n ∨ lead.length = R) (hz : ∀ i, lead.length ≤ i → i < R → m i n = 0)
    {x : Nat → UInt8} (hx : ∀ t, t < lead.length → x (lead.getD t 0) = m t n) (hx0 : ∀ j, (∀ t, t < lead.length → lead.getD t 0 ≠ j) → x j = 0) : Sol m0 R n x := by
  refine (h.sol x).2 fun i hi => ?_
  by_cases e : i < lead.length
  · have hl := h.low i e
    have e1 : ∀ j, j < n → gm (m i j) (x j) = (if j = lead.getD i 0 then (fun _ => m i n) j else 0) := fun j _ => by
      by_cases ej : j = lead.getD i 0
      · rw [if_pos ej, ej, h.one i e, hx i e, one_gm]
      · rw [if_neg ej]
        by_cases hall : ∀ t, t < lead.length → lead.getD t 0 ≠ j
        · rw [hx0 j hall, gm_zero]
        · have ⟨t, ht⟩ := Classical.not_forall.1 hall
          have ⟨ht1, ht2⟩ := Classical.not_imp.1 ht
          have ht3 : lead.getD t 0 = j := Classical.not_not.1 ht2
          rw [← ht3, h.else_ t ht1 i hi (fun e2 => ej (by rw [← ht3, e2])), zero_gm]
    rw [sm_congr e1, sm_one _ _ _ (by omega)]
  · rcases hend with rfl | hR
    · rw [hz i (by omega) hi]
      exact sm_zero fun j hj => by rw [h.zero i (by omega) hi j hj, zero_gm]
    · omega
end Gf
end Go.Proofs.YtomkkkbdipcjgaaDoor
namespace Go.Proofs.YtomkkkbdipcjgaaDoor
set_option linter.unusedVariables false
theorem nodup_sub {α : Type} [DecidableEq α] (a b : List α) (h : a.Nodup) (hs : ∀ x ∈ a, x ∈ b) : a.length ≤ b.length := by
  induction a generalizing b with
  | nil => simp
  | cons x a ih =>
    have hx := hs x (by simp)
    have hn := List.nodup_cons.1 h
    have := ih (b.erase x) hn.2 fun y hy => by
      have hne : y ≠ x := fun e => hn.1 (e ▸ hy)
      exact (List.mem_erase_of_ne hne).2 (hs y (by simp [hy]))
    rw [List.length_erase_of_mem hx] at this
    have := List.length_pos_of_mem hx
    simp; omega
theorem sm_rev (F : Nat → UInt8) (n : Nat) : Gf.sm F (n + 1) = Gf.sm (fun i => F (n - i)) (n + 1) := by
  induction n generalizing F with
  | zero => rfl
  | succ n ih =>
    rw [Gf.sm_left, ih (fun i => F (i + 1))]
    show _ = Gf.sm _ (n + 1) ^^^ F (n + 1 - (n + 1))
    rw [Nat.sub_self, UInt8.xor_comm]
    congr 1
    exact Gf.sm_congr fun i hi => by rw [show n - i + 1 = n + 1 - i by omega]
theorem co_mulL_comm (p q : List UInt8) (k : Nat) : co (mulL p q) k = co (mulL q p) k := by
  rw [co_mulL', co_mulL', sm_rev]
  exact Gf.sm_congr fun i hi => by rw [show k - (k - i) = i by omega, Gf.gm_comm]
/-- the product by one more factor -/
theorem co_by (p : List UInt8) (y : UInt8) (m : Nat) : co (mulL p [1, y]) m = co p m ^^^ Gf.gm y (if m = 0 then 0 else co p (m - 1)) := by
  rw [co_mulL']
  cases m with
  | zero =>
    rw [if_pos rfl, Gf.gm_zero, UInt8.xor_zero]
    show (0 : UInt8) ^^^ Gf.gm (co p 0) (co [1, y] 0) = _
    rw [show co [1, y] 0 = 1 from rfl, Gf.gm_one, UInt8.zero_xor]
  | succ m =>
    rw [if_neg (by omega), Nat.add_sub_cancel]
    show (Gf.sm _ m ^^^ Gf.gm (co p m) (co [1, y] (m + 1 - m))) ^^^ Gf.gm (co p (m + 1)) (co [1, y] (m + 1 - (m + 1))) = _
    rw [show m + 1 - m = 1 by omega, Nat.sub_self, show co [1, y] 1 = y from rfl, show co [1, y] 0 = 1 from rfl, Gf.gm_one]
    rw [show Gf.sm (fun i => Gf.gm (co p i) (co [1, y] (m + 1 - i))) m = 0 from Gf.sm_zero fun i hi => by
      rw [show co [1, y] (m + 1 - i) = 0 from co_ge (by show 2 ≤ _; omega), Gf.gm_zero]]
    rw [UInt8.zero_xor, UInt8.xor_comm, Gf.gm_comm]
namespace Gf
theorem co_ny (G : List UInt8) (y : UInt8) (m : Nat) : co (ny G y) m = co G m ^^^ gm y (if m = 0 then 0 else co G (m - 1)) := co_tab' _ _ _ fun j hj => by
  rw [co_ge (by omega), if_neg (by omega), co_ge (by omega), gm_zero]; rfl
theorem prod_loc (z : List UInt8) (k : Nat) (h : k ≤ z.length) (m : Nat) : co (prodL (fun r => [1, r]) z k) m = co (locL (z.take k)) m := by
  induction k generalizing m with
  | zero => simp [prodL, locL]
  | succ k ih =>
    have e : z.take (k + 1) = z.take k ++ [co z k] := by
      rw [List.take_add_one, List.getElem?_eq_getElem (by omega)]
      simp [co, List.getD_eq_getElem?_getD, List.getElem?_eq_getElem (show k < z.length by omega)]
    rw [prodL, e, locL_snoc, co_by, co_ny, ih (by omega), ih (by omega)]
theorem loc_top (ys : List UInt8) (h : ∀ y ∈ ys, y ≠ 0) : co (locL ys) ys.length ≠ 0 := by
  have hg : ∀ (ys : List UInt8) (G : List UInt8), (∀ y ∈ ys, y ≠ 0) → co G (G.length - 1) ≠ 0 → 0 < G.length → co (ys.foldl ny G) (G.length - 1 + ys.length) ≠ 0 := by
    intro ys
    induction ys with
    | nil => intro G _ h1 _; exact h1
    | cons y ys ih =>
      intro G h1 h2 h3
      rw [List.foldl_cons]
      have := ih (ny G y) (fun a ha => h1 a (by simp [ha])) (by
        rw [ny_length, Nat.add_sub_cancel, co_ny, co_ge (Nat.le_refl _), if_neg (by omega), UInt8.zero_xor]
        intro h
        exact h2 ((gm_eq_zero _ _ (h1 y (by simp))).1 h)) (by simp)
      rw [ny_length] at this
      rw [show G.length - 1 + (y :: ys).length = G.length + 1 - 1 + ys.length by simp; omega]
      exact this
  have := hg ys [1] h (by decide) (by decide)
  simpa [locL] using this
theorem tr_loc (ys : List UInt8) (h : ∀ y ∈ ys, y ≠ 0) : tr (locL ys) = locL ys := by
  have hl := locL_length ys
  have e : tl (locL ys) (locL ys).length = (locL ys).length := tl_unique _ _ _ (Nat.le_refl _) (fun i h1 h2 => by omega) fun _ => by
    rw [hl, Nat.add_sub_cancel]
    exact loc_top ys h
  unfold tr
  rw [e, List.take_length]
theorem Run.congr {s r : Nat → UInt8} {n L : Nat} {c : Nat → UInt8} (h : Run s n c L) (he : ∀ i, i < n → s i = r i) : Run r n c L := ⟨h.one, fun i h1 h2 => by
  rw [← h.run i h1 h2]
  exact sm_congr fun j _ => by rw [he (i - j) (by omega)]⟩
theorem Least.congr {s r : Nat → UInt8} {n L : Nat} (h : Least s n L) (he : ∀ i, i < n → s i = r i) : Least r n L := fun d M k => h d M (k.congr fun i hi => (he i hi).symm)
theorem Run.cong {s : Nat → UInt8} {n L : Nat} {c d : Nat → UInt8} (h : Run s n c L) (he : ∀ j, c j = d j) : Run s n d L := by
  have : c = d := funext he
  subst this; exact h
/-- values at a value and its inverse -/
theorem hv_ev (G : List UInt8) (x y : UInt8) (h : gm x y = 1) (h0 : 1 ≤ G.length) : hv x G = gm (px x (G.length - 1)) (evL G y) := by
  obtain ⟨L, hL⟩ : ∃ L, G.length = L + 1 := ⟨G.length - 1, by omega⟩
  rw [hv_sm x G L hL, hL, Nat.add_sub_cancel]
  show _ = gm _ (ev G.length (co G) y)
  unfold ev
  rw [hL, ← sm_gm]
  refine sm_congr fun j hj => ?_
  have h1 : ∀ k, gm (px x k) (px y k) = 1 := fun k => by
    induction k with
    | zero => rw [px, px, one_gm]
    | succ k ih =>
      rw [px, px, gm_comm (px x k) x, gm_assoc, ← gm_assoc (px x k), ih, one_gm, h]
  have h2 : px x L = gm (px x (L - j)) (px x j) := by rw [← px_add, show L - j + j = L by omega]
  rw [h2, gm_comm (co G j), gm_assoc, ← gm_assoc (px x j), gm_comm (px x j) (co G j), gm_assoc (co G j), h1, gm_one]
theorem ls_drop (l : List (UInt8 × UInt8)) (P : UInt8 × UInt8 → Bool) (f : UInt8 × UInt8 → UInt8 × UInt8) (h : ∀ q ∈ l, P q = false → (f q).1 = 0) (j : Nat) : ls ((l.filter P).map f) j = ls (l.map f) j := by
  induction l with
  | nil => rfl
  | cons q l ih =>
    have ih := ih fun q hq => h q (by simp [hq])
    rw [List.filter_cons, List.map_cons, ls_cons]
    by_cases hp : P q = true
    · rw [if_pos hp, List.map_cons, ls_cons, ih]
    · rw [if_neg hp, ih, h q (by simp) (by simpa using hp), zero_gm, UInt8.zero_xor]
/-- the changed places that aren't erased -/
def oth (E d : List UInt8) : List (UInt8 × UInt8) := (pr d).filter fun q => q.1 != 0 && !(E.contains q.2)
theorem oth_nodup (E d : List UInt8) (h : d.length ≤ 255) : ((oth E d).map (·.2)).Nodup := (List.filter_sublist.map _).nodup (pr_nodup d h)
/-- the polynomials of what is changed -/
theorem oth_row (E d s G : List UInt8) (hG : ∀ i, co G i = co (locL E) i) (hs : ∀ j, j < 32 → co s j = hv (al j) d) (i : Nat) (hi : E.length + i < 32) :
    co (mulL s G) (E.length + i) = ls ((oth E d).map fun q => (gm q.1 (hv q.2 (locL E)), q.2)) i := by
  have e1 : co (mulL s G) (E.length + i) = co (mulL s (locL E)) (E.length + i) := mulL_congr (fun _ => rfl) hG _
  unfold oth
  rw [e1, co_mulL_comm, co_mulL', ls_drop]
  · have h2 := dis_ls (pr d) (locL E) E.length (E.length + i) (locL_length E) (by omega)
    rw [show E.length + i - E.length = i by omega] at h2
    rw [← h2]
    unfold dis
    rw [sm_more (n := E.length + 1) (m := E.length + i + 1) (by omega) (fun j hj => by rw [co_ge (by rw [locL_length]; exact hj), zero_gm])]
    exact sm_congr fun j hj => by rw [hs _ (by omega), ls_pr]
  · intro q hq hP
    simp at hP
    by_cases h0 : q.1 = 0
    · show gm q.1 _ = 0
      rw [h0, zero_gm]
    · show gm q.1 (hv q.2 (locL E)) = 0
      rw [(hv_locL E q.2).2 (hP h0), gm_zero]
/-- the shortest register is that of what is changed -/
theorem oth_reg (E d s G R C : List UInt8) (L m : Nat) (hd : d.length ≤ 255) (hG : ∀ i, co G i = co (locL E) i) (hs : ∀ j, j < 32 → co s j = hv (al j) d) (hm : E.length + m = 32)
    (hR : ∀ i, i < m → co R i = co (mulL s G) (E.length + i)) (h2 : 2 * (oth E d).length ≤ m) (hr : Run (co R) m (co C) L) (hl : Least (co R) m L) (hC : C.length ≤ L + 1) :
    L = (oth E d).length ∧ ∀ j, co C j = co (locL ((oth E d).map (·.2))) j := by
  obtain ⟨l, hle⟩ : ∃ l, l = (oth E d).map (fun q => (gm q.1 (hv q.2 (locL E)), q.2)) := ⟨_, rfl⟩
  have hlen : l.length = (oth E d).length := by rw [hle]; simp
  have hsnd : l.map (·.2) = (oth E d).map (·.2) := by rw [hle]; simp
  have hrow : ∀ i, i < m → co R i = ls l i := fun i hi => by rw [hR i hi, oth_row E d s G hG hs i (by omega), hle]
  have hr2 := hr.congr hrow
  have hl2 := hl.congr hrow
  have hle2 := ls_least l (by rw [hsnd]; exact oth_nodup E d hd) (fun e he => by
    rw [hle] at he
    obtain ⟨q, hq, rfl⟩ := List.mem_map.1 he
    have hq := (List.mem_filter.1 hq).2
    simp at hq
    show gm q.1 (hv q.2 (locL E)) ≠ 0
    intro h
    exact hq.2 ((hv_locL E q.2).1 ((gm_eq_zero _ _ hq.1).1 h))) m (by omega)
  have hlr := loc_run l m
  have h3 := hl2 _ _ hlr
  have h4 := hle2 _ _ hr2
  have hL : L = l.length := by omega
  refine ⟨by omega, fun j => ?_⟩
  rw [← hsnd]
  by_cases hj : j ≤ L
  · exact Run.only (hL ▸ hle2) hr2 (hL ▸ hlr) (by omega) j hj
  · rw [co_ge (by omega), co_ge (by rw [locL_length]; simp; omega)]
theorem oth_ne (E d : List UInt8) : ∀ y ∈ (oth E d).map (·.2), y ≠ 0 := fun y hy => by
  obtain ⟨q, hq, rfl⟩ := List.mem_map.1 hy
  obtain ⟨k, _, hk⟩ := mem_pr (List.mem_filter.1 hq).1
  rw [hk]; exact al_ne k
theorem mem_pr_iff (d : List UInt8) (q : UInt8 × UInt8) : q ∈ pr d ↔ ∃ p, p < d.length ∧ q = (co d p, al (d.length - 1 - p)) := by
  induction d with
  | nil => simp [pr]
  | cons c d ih =>
    rw [pr, List.mem_cons, ih]
    constructor
    · rintro (rfl | ⟨p, hp, rfl⟩)
      · exact ⟨0, by simp, by simp [co]⟩
      · exact ⟨p + 1, by simp; omega, by simp [co]; congr 1; omega⟩
    · rintro ⟨p, hp, rfl⟩
      cases p with
      | zero => exact .inl (by simp [co])
      | succ p => exact .inr ⟨p, by simpa using hp, by simp [co]; congr 1; omega⟩
/-- which values there are -/
theorem mem_oth (E d : List UInt8) (hd : d.length ≤ 255) (p : Nat) (hp : p < d.length) : al (d.length - 1 - p) ∈ (oth E d).map (·.2) ↔ co d p ≠ 0 ∧ al (d.length - 1 - p) ∉ E := by
  constructor
  · intro h
    obtain ⟨q, hq, he⟩ := List.mem_map.1 h
    obtain ⟨h1, h2⟩ := List.mem_filter.1 hq
    obtain ⟨p', hp', rfl⟩ := (mem_pr_iff d q).1 h1
    have := (al_inj _ _).1 he
    obtain rfl : p' = p := by omega
    simpa using h2
  · rintro ⟨h1, h2⟩
    exact List.mem_map.2 ⟨(co d p, al (d.length - 1 - p)), List.mem_filter.2 ⟨(mem_pr_iff d _).2 ⟨p, hp, rfl⟩, by simpa using ⟨h1, h2⟩⟩, rfl⟩
/-- how many there are: no more than the places of a list that has them all -/
theorem oth_le (E d : List UInt8) (hd : d.length ≤ 255) (H : List Nat) (h : ∀ p, p < d.length → co d p ≠ 0 → al (d.length - 1 - p) ∉ E → p ∈ H) : (oth E d).length ≤ H.length := by
  have := nodup_sub ((oth E d).map (·.2)) (H.map fun p => al (d.length - 1 - p)) (oth_nodup E d hd) fun x hx => by
    obtain ⟨q, hq, rfl⟩ := List.mem_map.1 hx
    obtain ⟨h1, h2⟩ := List.mem_filter.1 hq
    obtain ⟨p, hp, rfl⟩ := (mem_pr_iff d q).1 h1
    simp at h2
    exact List.mem_map.2 ⟨p, h p hp h2.1 h2.2, rfl⟩
  simpa using this
theorem oth_ge (E d : List UInt8) (hd : d.length ≤ 255) (H : List Nat) (hn : H.Nodup) (h : ∀ p ∈ H, p < d.length ∧ co d p ≠ 0 ∧ al (d.length - 1 - p) ∉ E) : H.length ≤ (oth E d).length := by
  have hmap : (H.map fun p => al (d.length - 1 - p)).Nodup := by
    induction H with
    | nil => exact List.nodup_nil
    | cons p H ih =>
      have hn2 := List.nodup_cons.1 hn
      rw [List.map_cons, List.nodup_cons]
      refine ⟨fun hm => ?_, ih hn2.2 (fun q hq => h q (by simp [hq]))⟩
      obtain ⟨q, hq, he⟩ := List.mem_map.1 hm
      have h1 := (h p (by simp)).1
      have h2 := (h q (by simp [hq])).1
      have he := (al_inj _ _).1 he
      obtain rfl : p = q := by omega
      exact hn2.1 hq
  have := nodup_sub (H.map fun p => al (d.length - 1 - p)) ((oth E d).map (·.2)) hmap fun x hx => by
    obtain ⟨p, hp, rfl⟩ := List.mem_map.1 hx
    obtain ⟨h1, h2, h3⟩ := h p hp
    exact (mem_oth E d hd p h1).2 ⟨h2, h3⟩
  simpa using this
end Gf
end Go.Proofs.YtomkkkbdipcjgaaDoor
namespace Go.Proofs.YtomkkkbdipcjgaaDoor
set_option linter.unusedVariables false
namespace Gf
theorem ls_map_gd (x : UInt8) (l : List (UInt8 × UInt8)) (h : ∀ e ∈ l, e.2 ^^^ x ≠ 0) : (l.map fun e => (gd e.1 (e.2 ^^^ x), e.2)).map (fun d => (gm d.1 (d.2 ^^^ x), d.2)) = l := by
  rw [List.map_map]
  conv => rhs; rw [← List.map_id l]
  refine List.map_congr_left fun e he => ?_
  show (gm (gd e.1 (e.2 ^^^ x)) (e.2 ^^^ x), e.2) = e
  rw [gd_gm _ _ (h e he)]
/-- the first numbers of a row are sums of powers of values that are apart -/
theorem vexist (xs : List UInt8) (hn : xs.Nodup) (s : Nat → UInt8) : ∃ l : List (UInt8 × UInt8), l.map (·.2) = xs ∧ ∀ j, j < xs.length → ls l j = s j := by
  induction xs generalizing s with
  | nil => exact ⟨[], rfl, fun j hj => absurd hj (by simp)⟩
  | cons x xs ih =>
    rw [List.nodup_cons] at hn
    obtain ⟨l, hl, hs⟩ := ih hn.2 (fun j => s (j + 1) ^^^ gm x (s j))
    have hne : ∀ e ∈ l, e.2 ^^^ x ≠ 0 := fun e he h => hn.1 (by rw [← xor_eq_zero _ _ h, ← hl]; exact List.mem_map.2 ⟨e, he, rfl⟩)
    have ht := ls_map_gd x l hne
    obtain ⟨l2, hl2⟩ : ∃ l2 : List (UInt8 × UInt8), l2 = l.map fun e => (gd e.1 (e.2 ^^^ x), e.2) := ⟨_, rfl⟩
    rw [← hl2] at ht
    have h2 : ∀ j, ls l j = ls l2 (j + 1) ^^^ gm x (ls l2 j) := fun j => by
      rw [← ls_turn, ht]
    have hsnd : l2.map (·.2) = xs := by rw [hl2, List.map_map, ← hl]; rfl
    refine ⟨(s 0 ^^^ ls l2 0, x) :: l2, by rw [List.map_cons, hsnd], fun j hj => ?_⟩
    rw [ls_cons]
    have hc : ∀ k, k ≤ xs.length → gm (s 0 ^^^ ls l2 0) (px x k) = s k ^^^ ls l2 k := fun k => by
      induction k with
      | zero => intro _; rw [px, gm_one]
      | succ k ihk =>
        intro hk
        have e1 := hs k (by omega)
        rw [h2] at e1
        have e2 := ihk (by omega)
        rw [px, ← gm_assoc, e2, gm_comm _ x, gm_xor]
        have e3 : ls l2 (k + 1) = s (k + 1) ^^^ gm x (s k) ^^^ gm x (ls l2 k) := by
          rw [← e1, xor_cancel]
        rw [e3, ← UInt8.xor_assoc, ← UInt8.xor_assoc, UInt8.xor_self, UInt8.zero_xor]
    rw [hc j (by simp at hj; omega), xor_cancel]
/-- two rows that one register makes, and that begin alike, are the same -/
theorem Run.same {s r c : Nat → UInt8} {n L : Nat} (h : Run s n c L) (k : Run r n c L) (he : ∀ j, j < L → s j = r j) : ∀ j, j < n → s j = r j := by
  intro j
  induction j using Nat.strongRecOn with
  | ind j ih =>
    intro hj
    by_cases h1 : j < L
    · exact he j h1
    · have e1 := h.run j (by omega) hj
      have e2 := k.run j (by omega) hj
      unfold dis at e1 e2
      rw [sm_left, h.one, one_gm, Nat.sub_zero] at e1 e2
      have e3 : sm (fun i => gm (c (i + 1)) (s (j - (i + 1)))) L = sm (fun i => gm (c (i + 1)) (r (j - (i + 1)))) L := sm_congr fun i hi => by rw [ih (j - (i + 1)) (by omega) (by omega)]
      rw [xor_eq_zero _ _ e1, xor_eq_zero _ _ e2, e3]
/-- what the product of the values' factors makes 0 is a row of sums of powers -/
theorem sums_of (xs : List UInt8) (hn : xs.Nodup) (s : Nat → UInt8) (n : Nat) (h : Run s n (co (locL xs)) xs.length) : ∃ l : List (UInt8 × UInt8), l.map (·.2) = xs ∧ ∀ j, j < n → ls l j = s j := by
  obtain ⟨l, hl, hs⟩ := vexist xs hn s
  have h2 := loc_run l n
  have hlen : l.length = xs.length := by rw [← hl]; simp
  rw [hl, hlen] at h2
  exact ⟨l, hl, h2.same h hs⟩
theorem roots_zero (xs : List UInt8) (hn : xs.Nodup) (G : List UInt8) (hl : G.length ≤ xs.length) (hr : ∀ x ∈ xs, hv x G = 0) : ∀ c ∈ G, c = 0 := by
  induction G with
  | nil => intro c hc; cases hc
  | cons g G ih =>
    by_cases h0 : g = 0
    · subst h0
      have := ih (by simp at hl; omega) fun x hx => by
        have := hr x hx
        rwa [hv_cons, zero_gm, UInt8.zero_xor] at this
      intro c hc
      rcases List.mem_cons.1 hc with rfl | hc
      · rfl
      · exact this c hc
    · have := roots_few xs (g :: G) h0 hn hr
      omega
/-- the only polynomial of the degree, that begins with 1, with these roots -/
theorem loc_of (G : List UInt8) (xs : List UInt8) (hn : xs.Nodup) (h1 : co G 0 = 1) (hl : ∀ j, xs.length < j → co G j = 0) (hr : ∀ x ∈ xs, ∃ y, gm x y = 1 ∧ evL G y = 0) : ∀ j, co G j = co (locL xs) j := by
  obtain ⟨T, hT⟩ : ∃ T, T = tab (co G) (xs.length + 1) := ⟨_, rfl⟩
  have hTl : T.length = xs.length + 1 := by rw [hT]; simp
  have hco : ∀ j, co T j = co G j := fun j => by rw [hT, co_tab' _ _ _ fun j hj => hl j (by omega)]
  have hlen := locL_length xs
  have hd : ∀ c ∈ sumW T (locL xs), c = 0 := by
    have hD : (sumW T (locL xs)).length = xs.length + 1 := by simp [sumW, hTl, hlen]
    have h0 : co (sumW T (locL xs)) 0 = 0 := by
      have : (sumW T (locL xs)) = List.zipWith (· ^^^ ·) T (locL xs) := rfl
      rw [this]
      simp only [co, List.getD_eq_getElem?_getD, List.getElem?_zipWith]
      rw [List.getElem?_eq_getElem (by omega : 0 < T.length), List.getElem?_eq_getElem (by omega : 0 < (locL xs).length)]
      have e1 : T[0]'(by omega) = 1 := by
        have := hco 0
        rw [h1] at this
        simpa [co, List.getD_eq_getElem?_getD, List.getElem?_eq_getElem (by omega : 0 < T.length)] using this
      have e2 : (locL xs)[0]'(by omega) = 1 := by
        have := locL_one xs
        simpa [co, List.getD_eq_getElem?_getD, List.getElem?_eq_getElem (by omega : 0 < (locL xs).length)] using this
      rw [e1, e2]; rfl
    have hroot : ∀ x ∈ xs, hv x (sumW T (locL xs)) = 0 := fun x hx => by
      obtain ⟨y, hy, he⟩ := hr x hx
      rw [hv_sum _ _ _ (by rw [hTl, hlen]), (hv_locL xs x).2 hx, UInt8.xor_zero, hv_ev T x y hy (by omega), evL_congr hco, he, gm_zero]
    match hw : sumW T (locL xs) with
    | [] => intro c hc; cases hc
    | d :: D =>
      rw [hw] at hD h0 hroot
      have hd0 : d = 0 := h0
      subst hd0
      have := roots_zero xs hn D (by simp at hD; omega) fun x hx => by
        have := hroot x hx
        rwa [hv_cons, zero_gm, UInt8.zero_xor] at this
      intro c hc
      rcases List.mem_cons.1 hc with rfl | hc
      · rfl
      · exact this c hc
  have := sumW_zero (by rw [hTl, hlen]) hd
  intro j
  rw [← hco, this]
theorem loc_zero (xs : List UInt8) (x y : UInt8) (hx : x ≠ 0) (h : gm x y = 1) : evL (locL xs) y = 0 ↔ x ∈ xs := by
  rw [← hv_locL, hv_ev _ _ _ h (by rw [locL_length]; omega), gm_eq_zero _ _ (px_ne hx _)]
/-- the product of two is the product over both -/
theorem loc_app (a b : List UInt8) (hn : (a ++ b).Nodup) (h0 : ∀ x ∈ a ++ b, ∃ y, gm x y = 1) (j : Nat) : co (mulL (locL a) (locL b)) j = co (locL (a ++ b)) j := by
  refine loc_of _ _ hn ?_ (fun j hj => ?_) (fun x hx => ?_) j
  · rw [co_mulL']
    show (0 : UInt8) ^^^ gm (co (locL a) 0) (co (locL b) 0) = 1
    rw [locL_one, locL_one, one_gm, UInt8.zero_xor]
  · rw [co_mulL']
    refine sm_zero fun i hi => ?_
    rw [List.length_append] at hj
    by_cases h : i ≤ a.length
    · rw [show co (locL b) (j - i) = 0 from co_ge (by rw [locL_length]; omega), gm_zero]
    · rw [show co (locL a) i = 0 from co_ge (by rw [locL_length]; omega), zero_gm]
  · obtain ⟨y, hy⟩ := h0 x hx
    have hx0 : x ≠ 0 := fun e => by rw [e, zero_gm] at hy; exact absurd hy (by decide)
    refine ⟨y, hy, ?_⟩
    rw [evL_mul]
    rcases List.mem_append.1 hx with h | h
    · rw [(loc_zero a x y hx0 hy).2 h, zero_gm]
    · rw [(loc_zero b x y hx0 hy).2 h, gm_zero]
/-- the coefficients of a product of rows -/
def cv (f s : Nat → UInt8) (k : Nat) : UInt8 := sm (fun i => gm (f i) (s (k - i))) (k + 1)
theorem cv_ny (G : List UInt8) (x : UInt8) (s : Nat → UInt8) (k : Nat) : cv (co (ny G x)) s k = cv (co G) s k ^^^ gm x (ps 1 (cv (co G) s) k) := by
  unfold cv
  have e : ∀ i, i < k + 1 → gm (co (ny G x) i) (s (k - i)) = gm (co G i) (s (k - i)) ^^^ gm x (gm (if i = 0 then 0 else co G (i - 1)) (s (k - i))) := fun i _ => by
    rw [co_ny, xor_gm, gm_assoc]
  rw [sm_congr e, sm_xor, sm_gm]
  congr 2
  rw [sm_left, if_pos rfl, zero_gm, UInt8.zero_xor]
  unfold ps
  cases k with
  | zero => rw [if_neg (by omega)]; rfl
  | succ k =>
    rw [if_pos (by omega), Nat.add_sub_cancel]
    exact sm_congr fun i _ => by rw [if_neg (by omega), Nat.add_sub_cancel, show k + 1 - (i + 1) = k - i by omega]
theorem cv_px (G : List UInt8) (x : UInt8) (k : Nat) : cv (co (ny G x)) (px x) k = co G k := by
  rw [cv_ny]
  unfold ps
  cases k with
  | zero =>
    rw [if_neg (by omega), gm_zero, UInt8.xor_zero]
    show (0 : UInt8) ^^^ gm (co G 0) 1 = _
    rw [gm_one, UInt8.zero_xor]
  | succ k =>
    rw [if_pos (by omega), Nat.add_sub_cancel]
    unfold cv
    show (sm (fun i => gm (co G i) (px x (k + 1 - i))) (k + 1) ^^^ gm (co G (k + 1)) (px x (k + 1 - (k + 1)))) ^^^ _ = _
    have e : ∀ i, i < k + 1 → gm (co G i) (px x (k + 1 - i)) = gm x (gm (co G i) (px x (k - i))) := fun i hi => by
      rw [show k + 1 - i = k - i + 1 by omega, px, ← gm_assoc, gm_comm]
    rw [sm_congr e, sm_gm, Nat.sub_self, px, gm_one, UInt8.xor_comm, ← UInt8.xor_assoc, UInt8.xor_self, UInt8.zero_xor]
theorem cv_xor (f s r : Nat → UInt8) (y : UInt8) (k : Nat) : cv f (fun j => s j ^^^ gm y (r j)) k = cv f s k ^^^ gm y (cv f r k) := by
  unfold cv
  rw [← sm_gm, ← sm_xor]
  refine sm_congr fun i _ => ?_
  rw [gm_xor, ← gm_assoc, gm_comm (f i) y, gm_assoc]
theorem ls_snoc (l : List (UInt8 × UInt8)) (e : UInt8 × UInt8) (j : Nat) : ls (l ++ [e]) j = ls l j ^^^ gm e.1 (px e.2 j) := by
  induction l with
  | nil =>
    show gm e.1 (px e.2 j) ^^^ 0 = 0 ^^^ _
    rw [UInt8.xor_zero, UInt8.zero_xor]
  | cons d l ih => rw [List.cons_append, ls_cons, ls_cons, ih, UInt8.xor_assoc]
theorem cv_loc (l : List (UInt8 × UInt8)) (k : Nat) (hk : l.length ≤ k) : cv (co (locL (l.map (·.2)))) (ls l) k = 0 := by
  have h := (loc_run l (k + 1)).run k hk (by omega)
  rw [← h]
  unfold cv dis
  exact sm_more (by omega) fun i hi => by rw [co_ge (by rw [locL_length]; simp; omega), zero_gm]
theorem ev_ny (O G : Nat → UInt8) (x y z : UInt8) (N m : Nat) (hm : m < N) (hO : ∀ k, m ≤ k → O k = 0) : ev N (fun k => (O k ^^^ gm x (ps 1 O k)) ^^^ gm y (G k)) z = gm (1 ^^^ gm x z) (ev N O z) ^^^ gm y (ev N G z) := by
  rw [ev_xor, ev_xor, ev_gm, ev_gm]
  congr 1
  have h := ev_ps 1 (N - 1) O z
  rw [show 1 + (N - 1) = N by omega] at h
  rw [h, xor_gm, one_gm, gm_assoc]
  congr 2
  rw [show px z 1 = z from by rw [px, px, one_gm]]
  rw [← ev_more (show N - 1 ≤ N by omega) (fun i hi => hO i (by omega))]
theorem pd_ny (G : List UInt8) (x : UInt8) (k : Nat) : pd (co (ny G x)) k = (pd (co G) k ^^^ gm x (ps 1 (pd (co G)) k)) ^^^ gm x (co G k) := by
  have e : co (ny G x) = fun k => co G k ^^^ gm x (ps 1 (co G) k) := funext fun k => by
    rw [co_ny]
    congr 2
    unfold ps
    by_cases h : k = 0
    · subst h; rw [if_pos rfl, if_neg (by omega)]
    · rw [if_neg h, if_pos (by omega)]
  rw [e, pd_xor, pd_gm, pd_ps, if_pos (by decide), gm_xor]
  have e2 : ps (1 - 1) (co G) k = co G k := by
    unfold ps; rw [if_pos (by omega), Nat.sub_zero]
  rw [e2, UInt8.xor_assoc]
  congr 1
  exact UInt8.xor_comm _ _
theorem pd_ge {f : Nat → UInt8} {n : Nat} (h : ∀ i, n < i → f i = 0) (i : Nat) (hi : n ≤ i) : pd f i = 0 := by
  unfold pd
  split
  · exact h _ (by omega)
  · rfl
/-- Forney's rule -/
theorem forney (l : List (UInt8 × UInt8)) (N : Nat) (hN : l.length < N) : ∀ e ∈ l, ∀ z, gm e.2 z = 1 →
    gm e.2 (ev N (cv (co (locL (l.map (·.2)))) (ls l)) z) = gm e.1 (ev N (pd (co (locL (l.map (·.2))))) z) := by
  have hr : ∀ (r : List (UInt8 × UInt8)), r.length < N → ∀ e ∈ r.reverse, ∀ z, gm e.2 z = 1 → gm e.2 (ev N (cv (co (locL (r.reverse.map (·.2)))) (ls r.reverse)) z) = gm e.1 (ev N (pd (co (locL (r.reverse.map (·.2))))) z) := by
    intro r
    induction r with
    | nil => intro _ e he; cases he
    | cons d r ih =>
      intro hN e he z hz
      simp only [List.length_cons] at hN
      rw [List.reverse_cons] at he ⊢
      obtain ⟨l, hl⟩ : ∃ l, r.reverse = l := ⟨_, rfl⟩
      have hll : l.length = r.length := by rw [← hl]; simp
      rw [hl] at he ih ⊢
      obtain ⟨G, hG⟩ : ∃ G, locL (l.map (·.2)) = G := ⟨_, rfl⟩
      have e1 : locL ((l ++ [d]).map (·.2)) = ny G d.2 := by
        rw [List.map_append, List.map_cons, List.map_nil, locL_snoc, hG]
      have e2 : cv (co (ny G d.2)) (ls (l ++ [d])) = fun k => (cv (co G) (ls l) k ^^^ gm d.2 (ps 1 (cv (co G) (ls l)) k)) ^^^ gm d.1 (co G k) := funext fun k => by
        have : ls (l ++ [d]) = fun j => ls l j ^^^ gm d.1 (px d.2 j) := funext fun j => ls_snoc l d j
        rw [this, cv_xor, cv_px, cv_ny]
      have e3 : pd (co (ny G d.2)) = fun k => (pd (co G) k ^^^ gm d.2 (ps 1 (pd (co G)) k)) ^^^ gm d.2 (co G k) := funext fun k => pd_ny G d.2 k
      have hGl : ∀ i, l.length < i → co G i = 0 := fun i hi => by rw [← hG]; exact co_ge (by rw [locL_length]; simp; omega)
      rw [e1, e2, e3, ev_ny _ _ _ _ _ N l.length (by omega) (fun k hk => by rw [← hG]; exact cv_loc l k hk), ev_ny _ _ _ _ _ N l.length (by omega) (fun k hk => pd_ge hGl k hk)]
      by_cases hde : gm d.2 z = 1
      · -- the last one, or of its value
        have hez : e.2 = d.2 := by
          have h1 : gm e.2 (gm d.2 z) = gm d.2 (gm e.2 z) := by rw [← gm_assoc, gm_comm e.2 d.2, gm_assoc]
          rw [hde, hz, gm_one, gm_one] at h1
          exact h1
        rw [hde, UInt8.xor_self, zero_gm, zero_gm, UInt8.zero_xor, UInt8.zero_xor]
        rcases List.mem_append.1 he with hel | hed
        · -- then the product is 0 there
          have hx0 : e.2 ≠ 0 := fun h => by rw [h, zero_gm] at hz; exact absurd hz (by decide)
          have h0 := (loc_zero (l.map (·.2)) e.2 z hx0 hz).2 (List.mem_map.2 ⟨e, hel, rfl⟩)
          have hev : ev N (co G) z = 0 := by
            rw [← h0, ← hG]
            unfold evL
            exact ev_more (by rw [locL_length]; simp; omega) (fun i hi => co_ge hi)
          rw [hev, gm_zero, gm_zero, gm_zero, gm_zero]
        · have : e = d := by simpa using hed
          subst this
          rw [← gm_assoc, ← gm_assoc, gm_comm e.2 e.1]
      · rcases List.mem_append.1 he with hel | hed
        · have hx0 : e.2 ≠ 0 := fun h => by rw [h, zero_gm] at hz; exact absurd hz (by decide)
          have h0 := (loc_zero (l.map (·.2)) e.2 z hx0 hz).2 (List.mem_map.2 ⟨e, hel, rfl⟩)
          have hev : ev N (co G) z = 0 := by
            rw [← h0, ← hG]
            unfold evL
            exact ev_more (by rw [locL_length]; simp; omega) (fun i hi => co_ge hi)
          have h3 := ih (by omega) e hel z hz
          rw [hG] at h3
          rw [hev, gm_zero, gm_zero, UInt8.xor_zero, UInt8.xor_zero]
          generalize 1 ^^^ gm d.2 z = u at *
          rw [← gm_assoc, gm_comm e.2 u, gm_assoc, h3, ← gm_assoc, ← gm_assoc, gm_comm u e.1]
        · have : e = d := by simpa using hed
          subst this
          exact absurd hz hde
  intro e he
  have := hr l.reverse (by simpa using hN)
  rw [List.reverse_reverse] at this
  exact this e he
/-- the derivative isn't 0 at a root that is there once -/
theorem slope_ne (xs : List UInt8) (hn : xs.Nodup) (N : Nat) (hN : xs.length < N) : ∀ x ∈ xs, ∀ z, gm x z = 1 → ev N (pd (co (locL xs))) z ≠ 0 := by
  have hr : ∀ (r : List UInt8), r.reverse.Nodup → r.length < N → ∀ x ∈ r.reverse, ∀ z, gm x z = 1 → ev N (pd (co (locL r.reverse))) z ≠ 0 := by
    intro r
    induction r with
    | nil => intro _ _ x hx; cases hx
    | cons d r ih =>
      intro hn hN x hx z hz
      simp only [List.length_cons] at hN
      rw [List.reverse_cons] at hx hn ⊢
      obtain ⟨l, hl⟩ : ∃ l, r.reverse = l := ⟨_, rfl⟩
      have hll : l.length = r.length := by rw [← hl]; simp
      rw [hl] at hx ih hn ⊢
      have hna := List.nodup_append.1 hn
      obtain ⟨G, hG⟩ : ∃ G, locL l = G := ⟨_, rfl⟩
      have hx0 : x ≠ 0 := fun h => by rw [h, zero_gm] at hz; exact absurd hz (by decide)
      have e3 : pd (co (ny G d)) = fun k => (pd (co G) k ^^^ gm d (ps 1 (pd (co G)) k)) ^^^ gm d (co G k) := funext fun k => pd_ny G d k
      have hGl : ∀ i, l.length < i → co G i = 0 := fun i hi => by rw [← hG]; exact co_ge (by rw [locL_length]; omega)
      have hev : ev N (co G) z = evL (locL l) z := by
        rw [← hG]
        unfold evL
        exact ev_more (by rw [locL_length]; omega) (fun i hi => co_ge hi)
      rw [locL_snoc, hG, e3, ev_ny _ _ _ _ _ N l.length (by omega) (fun k hk => pd_ge hGl k hk), hev]
      rcases List.mem_append.1 hx with hxl | hxd
      · rw [(loc_zero l x z hx0 hz).2 hxl, gm_zero, UInt8.xor_zero]
        have h3 := ih hna.1 (by omega) x hxl z hz
        rw [hG] at h3
        have hne : 1 ^^^ gm d z ≠ 0 := fun h => by
          have h1 : (1 : UInt8) = gm d z := xor_eq_zero _ _ h
          have h2 : gm x (gm d z) = gm d (gm x z) := by rw [← gm_assoc, gm_comm x d, gm_assoc]
          rw [← h1, hz, gm_one, gm_one] at h2
          exact hna.2.2 x hxl d (by simp) h2
        intro h
        exact h3 ((gm_eq_zero _ _ hne).1 h)
      · have : x = d := by simpa using hxd
        subst this
        rw [hz, UInt8.xor_self, zero_gm, UInt8.zero_xor]
        intro h
        have := (gm_eq_zero _ _ hx0).1 h
        exact hna.2.2 x ((loc_zero l x z hx0 hz).1 this) x (by simp) rfl
  have := hr xs.reverse (by rw [List.reverse_reverse]; exact hn) (by simpa using hN)
  rw [List.reverse_reverse] at this
  exact this
end Gf
end Go.Proofs.YtomkkkbdipcjgaaDoor
