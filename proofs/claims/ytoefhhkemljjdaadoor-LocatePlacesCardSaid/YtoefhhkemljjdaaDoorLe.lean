/- Locators, plain: a row of sums of powers has a shortest register, of as many numbers as there are powers: the product of (1 + X x). -/
import Derived.Test.YtoefhhkemljjdaaDoorMs
namespace Go.Proofs.YtoefhhkemljjdaaDoor
set_option linter.unusedVariables false
namespace Gf
/-- Horner's rule as a sum -/
theorem hv_sm (x : UInt8) (G : List UInt8) (L : Nat) (h : G.length = L + 1) : hv x G = sm (fun j => gm (co G j) (px x (L - j))) (L + 1) := by
  induction G generalizing L with
  | nil => cases h
  | cons c G ih =>
    have hG : G.length = L := by simpa using h
    rw [hv_cons, sm_left, hG]
    have e1 : ∀ i, co (c :: G) (i + 1) = co G i := fun i => by simp [co]
    congr 1
    cases L with
    | zero =>
      rw [List.eq_nil_of_length_eq_zero hG]
      rfl
    | succ L =>
      rw [ih L hG]
      exact sm_congr fun j hj => by rw [e1, show L + 1 - (j + 1) = L - j by omega]
/-- what a register makes of a row of sums of powers -/
theorem dis_ls (l : List (UInt8 × UInt8)) (G : List UInt8) (L i : Nat) (h : G.length = L + 1) (hi : L ≤ i) : dis (ls l) (co G) L i = ls (l.map fun e => (gm e.1 (hv e.2 G), e.2)) (i - L) := by
  induction l with
  | nil =>
    exact sm_zero fun j _ => by rw [show ls [] (i - j) = 0 from rfl, gm_zero]
  | cons e l ih =>
    rw [List.map_cons, ls_cons, ← ih]
    unfold dis
    have e1 : ∀ j, j < L + 1 → gm (co G j) (ls (e :: l) (i - j)) = gm (gm e.1 (px e.2 (i - L))) (gm (co G j) (px e.2 (L - j))) ^^^ gm (co G j) (ls l (i - j)) := fun j hj => by
      rw [ls_cons, gm_xor]
      congr 1
      rw [show i - j = (i - L) + (L - j) by omega, px_add, ← gm_assoc, ← gm_assoc, gm_comm (co G j) e.1, gm_assoc e.1, gm_assoc, gm_comm (co G j) (px e.2 (i - L)), ← gm_assoc e.1, gm_assoc, gm_assoc, gm_assoc]
    rw [sm_congr e1, sm_xor, sm_gm, ← hv_sm e.2 G L h]
    congr 1
    show gm (gm e.1 (px e.2 (i - L))) (hv e.2 G) = gm (gm e.1 (hv e.2 G)) (px e.2 (i - L))
    rw [gm_assoc, gm_assoc, gm_comm (px e.2 (i - L))]
/-- division by (x + r) -/
theorem hv_root (r : UInt8) (G : List UInt8) : ∃ Q : List UInt8, Q.length = G.length - 1 ∧ (Q ≠ [] → co Q 0 = co G 0) ∧ ∀ x, hv x G = gm (x ^^^ r) (hv x Q) ^^^ hv r G := by
  obtain ⟨T, rfl⟩ : ∃ T : List UInt8, G = T.reverse := ⟨G.reverse, by simp⟩
  induction T with
  | nil => exact ⟨[], rfl, fun h => absurd rfl h, fun x => by
      show (0 : UInt8) = gm (x ^^^ r) 0 ^^^ 0
      rw [gm_zero]; rfl⟩
  | cons c T ih =>
    obtain ⟨Q, hl, h0, hx⟩ := ih
    rw [List.reverse_cons]
    generalize T.reverse = G at *
    cases G with
    | nil => exact ⟨[], by simp, fun h => absurd rfl h, fun x => by
        rw [show hv x [] = 0 from rfl, gm_zero, UInt8.zero_xor]
        show hv x ([] ++ [c]) = hv r ([] ++ [c])
        rw [hv_snoc, hv_snoc, show hv x [] = 0 from rfl, show hv r [] = 0 from rfl, zero_gm, zero_gm]⟩
    | cons g G =>
      refine ⟨Q ++ [hv r (g :: G)], by simp at hl ⊢; omega, fun _ => ?_, fun x => ?_⟩
      · cases Q with
        | nil =>
          have : G = [] := List.eq_nil_of_length_eq_zero (by simpa using hl.symm)
          subst this
          show hv r [g] = g
          show hv r ([] ++ [g]) = g
          rw [hv_snoc, show hv r [] = 0 from rfl, zero_gm, UInt8.zero_xor]
        | cons q Q => exact h0 (by simp)
      · rw [hv_snoc, hv_snoc, hv_snoc, hx x]
        generalize hv x Q = u
        generalize hv r (g :: G) = v
        rw [gm_xor, xor_gm, gm_assoc, gm_comm u x, xor_gm x r v, gm_comm x v, gm_comm r v]
        generalize gm (x ^^^ r) (gm x u) = A
        generalize gm v x = B
        generalize gm v r = C
        rw [UInt8.xor_assoc A B c, UInt8.xor_assoc A (B ^^^ C) (C ^^^ c), UInt8.xor_assoc B C (C ^^^ c), ← UInt8.xor_assoc C C c, UInt8.xor_self, UInt8.zero_xor]
/-- no more roots than the degree tells -/
theorem roots_few (xs : List UInt8) : ∀ (G : List UInt8), co G 0 ≠ 0 → xs.Nodup → (∀ x ∈ xs, hv x G = 0) → xs.length + 1 ≤ G.length := by
  induction xs with
  | nil =>
    intro G h0 _ _
    cases G with
    | nil => exact absurd rfl h0
    | cons g G => simp
  | cons r xs ih =>
    intro G h0 hn hx
    rw [List.nodup_cons] at hn
    obtain ⟨Q, hl, hq, he⟩ := hv_root r G
    have hr := hx r (by simp)
    have hG : 2 ≤ G.length := by
      match G, h0, hr with
      | [g], h0, hr =>
        exfalso
        refine h0 ?_
        have : hv r ([] ++ [g]) = 0 := hr
        rw [hv_snoc, show hv r [] = 0 from rfl, zero_gm, UInt8.zero_xor] at this
        exact this
      | g :: g2 :: G, _, _ => simp
    have hQ : Q ≠ [] := fun e => by rw [e] at hl; simp at hl; omega
    have := ih Q (by rw [hq hQ]; exact h0) hn.2 fun x hm => by
      have h1 := he x
      rw [hx x (by simp [hm]), hr, UInt8.xor_zero] at h1
      have hne : x ^^^ r ≠ 0 := fun e => hn.1 (by rw [← xor_eq_zero x r e]; exact hm)
      exact (gm_eq_zero _ _ hne).1 h1.symm
    simp
    omega
/-- no register is shorter than there are powers, if the row is twice as long -/
theorem ls_least (l : List (UInt8 × UInt8)) (hn : (l.map (·.2)).Nodup) (h0 : ∀ e ∈ l, e.1 ≠ 0) (n : Nat) (h2 : 2 * l.length ≤ n) : Least (ls l) n l.length := by
  intro d M hd
  by_cases hM : l.length ≤ M
  · exact hM
  exfalso
  have hG : (tab d (M + 1)).length = M + 1 := by simp
  have hz : ∀ e ∈ l.map (fun e => (gm e.1 (hv e.2 (tab d (M + 1))), e.2)), e.1 = 0 := by
    refine vander _ (by simpa [Function.comp_def] using hn) fun j hj => ?_
    simp at hj
    have h1 := dis_ls l (tab d (M + 1)) M (M + j) hG (by omega)
    rw [show M + j - M = j by omega] at h1
    rw [← h1, ← hd.run (M + j) (by omega) (by omega)]
    exact sm_congr fun i hi => by rw [co_tab _ _ _ hi]
  have := roots_few (l.map (·.2)) (tab d (M + 1)) (by rw [co_tab _ _ _ (by omega), hd.one]; decide) hn fun x hx => by
    obtain ⟨e, he, rfl⟩ := List.mem_map.1 hx
    have h1 := hz _ (List.mem_map.2 ⟨e, he, rfl⟩)
    exact (gm_eq_zero _ _ (h0 e he)).1 h1
  simp at this
  omega
/-- a register that is 0 at all powers runs, however long the row -/
theorem ls_run (l : List (UInt8 × UInt8)) (G : List UInt8) (L n : Nat) (h : G.length = L + 1) (h1 : co G 0 = 1) (hz : ∀ e ∈ l, hv e.2 G = 0) : Run (ls l) n (co G) L :=
  ⟨h1, fun i hi _ => by
    rw [dis_ls l G L i h hi]
    refine ls_zero (fun e he => ?_) _
    obtain ⟨d, hd, rfl⟩ := List.mem_map.1 he
    show gm d.1 (hv d.2 G) = 0
    rw [hz d hd, gm_zero]⟩
/-- times (1 + y x), the lowest power first -/
def ny (G : List UInt8) (y : UInt8) : List UInt8 := tab (fun m => co G m ^^^ gm y (if m = 0 then 0 else co G (m - 1))) (G.length + 1)
/-- the product of (1 + y x) over ys -/
def locL (ys : List UInt8) : List UInt8 := ys.foldl ny [1]
@[simp] theorem ny_length (G : List UInt8) (y : UInt8) : (ny G y).length = G.length + 1 := by simp [ny]
theorem hv_ny (G : List UInt8) (x y : UInt8) : hv x (ny G y) = gm (hv x G) (x ^^^ y) := by
  have e : ny G y = sumW (G ++ [0]) (0 :: G.map (gm y)) := by
    refine list_ext (by simp [sumW]) fun m hm => ?_
    simp at hm
    have e1 : co (ny G y) m = co G m ^^^ gm y (if m = 0 then 0 else co G (m - 1)) := co_tab _ _ _ hm
    have e2 : co (sumW (G ++ [0]) (0 :: G.map (gm y))) m = co (G ++ [0]) m ^^^ co (0 :: G.map (gm y)) m := by
      simp only [co, sumW, List.getD_eq_getElem?_getD, List.getElem?_zipWith]
      rw [List.getElem?_eq_getElem (l := G ++ [0]) (by simp; omega), List.getElem?_eq_getElem (l := 0 :: G.map (gm y)) (by simp; omega)]
      rfl
    rw [e1, e2]
    congr 1
    · simp only [co, List.getD_eq_getElem?_getD]
      by_cases h : m < G.length
      · rw [List.getElem?_append_left h]
      · rw [List.getElem?_append_right (by omega), List.getElem?_eq_none (by omega), show m - G.length = 0 by omega]
        rfl
    · cases m with
      | zero => rw [if_pos rfl, gm_zero]; rfl
      | succ m =>
        rw [if_neg (by omega), Nat.add_sub_cancel]
        simp only [co, List.getD_eq_getElem?_getD, List.getElem?_cons_succ, List.getElem?_map]
        rw [List.getElem?_eq_getElem (by omega)]
        rfl
  rw [e, hv_sum _ _ _ (by simp), hv_snoc, hv_cons, zero_gm, UInt8.zero_xor, hv_scale, UInt8.xor_zero, gm_xor, gm_comm y]
theorem locL_length (ys : List UInt8) : (locL ys).length = ys.length + 1 := by
  have h : ∀ (ys : List UInt8) (G : List UInt8), (ys.foldl ny G).length = G.length + ys.length := by
    intro ys
    induction ys with
    | nil => intro G; rfl
    | cons y ys ih => intro G; rw [List.foldl_cons, ih]; simp; omega
  rw [locL, h]
  simp; omega
theorem locL_snoc (ys : List UInt8) (y : UInt8) : locL (ys ++ [y]) = ny (locL ys) y := by
  unfold locL
  rw [List.foldl_append]
  rfl
theorem locL_one (ys : List UInt8) : co (locL ys) 0 = 1 := by
  have h : ∀ (ys : List UInt8) (G : List UInt8), co (ys.foldl ny G) 0 = co G 0 := by
    intro ys
    induction ys with
    | nil => intro G; rfl
    | cons y ys ih =>
      intro G
      rw [List.foldl_cons, ih, show co (ny G y) 0 = _ from co_tab _ _ _ (by omega), if_pos rfl, gm_zero, UInt8.xor_zero]
  rw [locL, h]
  rfl
theorem hv_locL (ys : List UInt8) (x : UInt8) : hv x (locL ys) = 0 ↔ x ∈ ys := by
  have h : ∀ (ys : List UInt8) (G : List UInt8), hv x (ys.foldl ny G) = 0 ↔ hv x G = 0 ∨ x ∈ ys := by
    intro ys
    induction ys with
    | nil => intro G; simp
    | cons y ys ih =>
      intro G
      rw [List.foldl_cons, ih, hv_ny, List.mem_cons]
      by_cases hG : hv x G = 0
      · simp [hG, zero_gm]
      · rw [gm_eq_zero _ _ hG]
        constructor
        · rintro (h | h)
          · exact .inr (.inl (xor_eq_zero _ _ h))
          · exact .inr (.inr h)
        · rintro (h | h | h)
          · exact absurd h hG
          · exact .inl (by rw [h, UInt8.xor_self])
          · exact .inr h
  rw [locL, h]
  constructor
  · rintro (h | h)
    · rw [show hv x [1] = gm 0 x ^^^ 1 from rfl, zero_gm] at h
      exact absurd h (by decide)
    · exact h
  · exact .inr
/-- the locator of the powers is the shortest register -/
theorem loc_run (l : List (UInt8 × UInt8)) (n : Nat) : Run (ls l) n (co (locL (l.map (·.2)))) l.length :=
  ls_run l _ _ n (by rw [locL_length]; simp) (locL_one _) fun e he => (hv_locL _ _).2 (List.mem_map.2 ⟨e, he, rfl⟩)
end Gf
end Go.Proofs.YtoefhhkemljjdaaDoor
