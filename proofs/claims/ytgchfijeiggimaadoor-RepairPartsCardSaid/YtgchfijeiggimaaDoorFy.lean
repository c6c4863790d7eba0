/- Amounts, plain: the first numbers of a row as sums of powers; Forney's rule; a polynomial that has as many roots as its degree is their product; a word mended place by place. -/
import Derived.Test.YtgchfijeiggimaaDoorPl
namespace Go.Proofs.YtgchfijeiggimaaDoor
set_option linter.unusedVariables false
namespace Gf
theorem ls_map_gd (x : UInt8) (l : List (UInt8 × UInt8)) (h : ∀ e ∈ l, e.2 ^^^ x ≠ 0) : (l.map fun e => (gd e.1 (e.2 ^^^ x), e.2)).map (fun d => (gm d.1 (d.2 ^^^ x), d.2)) = l := by
  rw [List.map_map]
  conv => rhs; rw [← List.map_id l]
  refine List.map_congr_left fun e he => ?_
  show (gm (gd e.1 (e.2 ^^^ x)) (e.2 ^^^ x), e.2) = e
  rw [gd_gm _ _ (h e he)]
/-- the first numbers of a row are sums of powers of values that are apart -/
theorem vexist (xs : List UInt8) (hn : xs.Nodup) (s : Nat → UInt8) : ∃ l : List (UInt8 × UInt8), l.map (·.2) = xs ∧ ∀ j, j < xs.length → ls l j = s j := by
  induction xs generalizing s with
  | nil => exact ⟨[], rfl, fun j hj => absurd hj (by simp)⟩
  | cons x xs ih =>
    rw [List.nodup_cons] at hn
    obtain ⟨l, hl, hs⟩ := ih hn.2 (fun j => s (j + 1) ^^^ gm x (s j))
    have hne : ∀ e ∈ l, e.2 ^^^ x ≠ 0 := fun e he h => hn.1 (by rw [← xor_eq_zero _ _ h, ← hl]; exact List.mem_map.2 ⟨e, he, rfl⟩)
    have ht := ls_map_gd x l hne
    obtain ⟨l2, hl2⟩ : ∃ l2 : List (UInt8 × UInt8), l2 = l.map fun e => (gd e.1 (e.2 ^^^ x), e.2) := ⟨_, rfl⟩
    rw [← hl2] at ht
    have h2 : ∀ j, ls l j = ls l2 (j + 1) ^^^ gm x (ls l2 j) := fun j => by
      rw [← ls_turn, ht]
    have hsnd : l2.map (·.2) = xs := by rw [hl2, List.map_map, ← hl]; rfl
    refine ⟨(s 0 ^^^ ls l2 0, x) :: l2, by rw [List.map_cons, hsnd], fun j hj => ?_⟩
    rw [ls_cons]
    have hc : ∀ k, k ≤ xs.length → gm (s 0 ^^^ ls l2 0) (px x k) = s k ^^^ ls l2 k := fun k => by
      induction k with
      | zero => intro _; rw [px, gm_one]
      | succ k ihk =>
        intro hk
        have e1 := hs k (by omega)
        rw [h2] at e1
        have e2 := ihk (by omega)
        rw [px, ← gm_assoc, e2, gm_comm _ x, gm_xor]
        have e3 : ls l2 (k + 1) = s (k + 1) ^^^ gm x (s k) ^^^ gm x (ls l2 k) := by
          rw [← e1, xor_cancel]
        rw [e3, ← UInt8.xor_assoc, ← UInt8.xor_assoc, UInt8.xor_self, UInt8.zero_xor]
    rw [hc j (by simp at hj; omega), xor_cancel]
/-- two rows that one register makes, and that begin alike, are the same -/
theorem Run.same {s r c : Nat → UInt8} {n L : Nat} (h : Run s n c L) (k : Run r n c L) (he : ∀ j, j < L → s j = r j) : ∀ j, j < n → s j = r j := by
  intro j
  induction j using Nat.strongRecOn with
  | ind j ih =>
    intro hj
    by_cases h1 : j < L
    · exact he j h1
    · have e1 := h.run j (by omega) hj
      have e2 := k.run j (by omega) hj
      unfold dis at e1 e2
      rw [sm_left, h.one, one_gm, Nat.sub_zero] at e1 e2
      have e3 : sm (fun i => gm (c (i + 1)) (s (j - (i + 1)))) L = sm (fun i => gm (c (i + 1)) (r (j - (i + 1)))) L := sm_congr fun i hi => by rw [ih (j - (i + 1)) (by omega) (by omega)]
      rw [xor_eq_zero _ _ e1, xor_eq_zero _ _ e2, e3]
/-- what the product of the values' factors makes 0 is a row of sums of powers -/
theorem sums_of (xs : List UInt8) (hn : xs.Nodup) (s : Nat → UInt8) (n : Nat) (h : Run s n (co (locL xs)) xs.length) : ∃ l : List (UInt8 × UInt8), l.map (·.2) = xs ∧ ∀ j, j < n → ls l j = s j := by
  obtain ⟨l, hl, hs⟩ := vexist xs hn s
  have h2 := loc_run l n
  have hlen : l.length = xs.length := by rw [← hl]; simp
  rw [hl, hlen] at h2
  exact ⟨l, hl, h2.same h hs⟩
theorem roots_zero (xs : List UInt8) (hn : xs.Nodup) (G : List UInt8) (hl : G.length ≤ xs.length) (hr : ∀ x ∈ xs, hv x G = 0) : ∀ c ∈ G, c = 0 := by
  induction G with
  | nil => intro c hc; cases hc
  | cons g G ih =>
    by_cases h0 : g = 0
    · subst h0
      have := ih (by simp at hl; omega) fun x hx => by
        have := hr x hx
        rwa [hv_cons, zero_gm, UInt8.zero_xor] at this
      intro c hc
      rcases List.mem_cons.1 hc with rfl | hc
      · rfl
      · exact this c hc
    · have := roots_few xs (g :: G) h0 hn hr
      omega
/-- the only polynomial of the degree, that begins with 1, with these roots -/
theorem loc_of (G : List UInt8) (xs : List UInt8) (hn : xs.Nodup) (h1 : co G 0 = 1) (hl : ∀ j, xs.length < j → co G j = 0) (hr : ∀ x ∈ xs, ∃ y, gm x y = 1 ∧ evL G y = 0) : ∀ j, co G j = co (locL xs) j := by
  obtain ⟨T, hT⟩ : ∃ T, T = tab (co G) (xs.length + 1) := ⟨_, rfl⟩
  have hTl : T.length = xs.length + 1 := by rw [hT]; simp
  have hco : ∀ j, co T j = co G j := fun j => by rw [hT, co_tab' _ _ _ fun j hj => hl j (by omega)]
  have hlen := locL_length xs
  have hd : ∀ c ∈ sumW T (locL xs), c = 0 := by
    have hD : (sumW T (locL xs)).length = xs.length + 1 := by simp [sumW, hTl, hlen]
    have h0 : co (sumW T (locL xs)) 0 = 0 := by
      have : (sumW T (locL xs)) = List.zipWith (· ^^^ ·) T (locL xs) := rfl
      rw [this]
      simp only [co, List.getD_eq_getElem?_getD, List.getElem?_zipWith]
      rw [List.getElem?_eq_getElem (by omega : 0 < T.length), List.getElem?_eq_getElem (by omega : 0 < (locL xs).length)]
      have e1 : T[0]'(by omega) = 1 := by
        have := hco 0
        rw [h1] at this
        simpa [co, List.getD_eq_getElem?_getD, List.getElem?_eq_getElem (by omega : 0 < T.length)] using this
      have e2 : (locL xs)[0]'(by omega) = 1 := by
        have := locL_one xs
        simpa [co, List.getD_eq_getElem?_getD, List.getElem?_eq_getElem (by omega : 0 < (locL xs).length)] using this
      rw [e1, e2]; rfl
    have hroot : ∀ x ∈ xs, hv x (sumW T (locL xs)) = 0 := fun x hx => by
      obtain ⟨y, hy, he⟩ := hr x hx
      rw [hv_sum _ _ _ (by rw [hTl, hlen]), (hv_locL xs x).2 hx, UInt8.xor_zero, hv_ev T x y hy (by omega), evL_congr hco, he, gm_zero]
    match hw : sumW T (locL xs) with
    | [] => intro c hc; cases hc
    | d :: D =>
      rw [hw] at hD h0 hroot
      have hd0 : d = 0 := h0
      subst hd0
      have := roots_zero xs hn D (by simp at hD; omega) fun x hx => by
        have := hroot x hx
        rwa [hv_cons, zero_gm, UInt8.zero_xor] at this
      intro c hc
      rcases List.mem_cons.1 hc with rfl | hc
      · rfl
      · exact this c hc
  have := sumW_zero (by rw [hTl, hlen]) hd
  intro j
  rw [← hco, this]
theorem loc_zero (xs : List UInt8) (x y : UInt8) (hx : x ≠ 0) (h : gm x y = 1) : evL (locL xs) y = 0 ↔ x ∈ xs := by
  rw [← hv_locL, hv_ev _ _ _ h (by rw [locL_length]; omega), gm_eq_zero _ _ (px_ne hx _)]
/-- the product of two is the product over both -/
theorem loc_app (a b : List UInt8) (hn : (a ++ b).Nodup) (h0 : ∀ x ∈ a ++ b, ∃ y, gm x y = 1) (j : Nat) : co (mulL (locL a) (locL b)) j = co (locL (a ++ b)) j := by
  refine loc_of _ _ hn ?_ (fun j hj => ?_) (fun x hx => ?_) j
  · rw [co_mulL']
    show (0 : UInt8) ^^^ gm (co (locL a) 0) (co (locL b) 0) = 1
    rw [locL_one, locL_one, one_gm, UInt8.zero_xor]
  · rw [co_mulL']
    refine sm_zero fun i hi => ?_
    rw [List.length_append] at hj
    by_cases h : i ≤ a.length
    · rw [show co (locL b) (j - i) = 0 from co_ge (by rw [locL_length]; omega), gm_zero]
    · rw [show co (locL a) i = 0 from co_ge (by rw [locL_length]; omega), zero_gm]
  · obtain ⟨y, hy⟩ := h0 x hx
    have hx0 : x ≠ 0 := fun e => by rw [e, zero_gm] at hy; exact absurd hy (by decide)
    refine ⟨y, hy, ?_⟩
    rw [evL_mul]
    rcases List.mem_append.1 hx with h | h
    · rw [(loc_zero a x y hx0 hy).2 h, zero_gm]
    · rw [(loc_zero b x y hx0 hy).2 h, gm_zero]
/-- the coefficients of a product of rows -/
def cv (f s : Nat → UInt8) (k : Nat) : UInt8 := sm (fun i => gm (f i) (s (k - i))) (k + 1)
theorem cv_ny (G : List UInt8) (x : UInt8) (s : Nat → UInt8) (k : Nat) : cv (co (ny G x)) s k = cv (co G) s k ^^^ gm x (ps 1 (cv (co G) s) k) := by
  unfold cv
  have e : ∀ i, i < k + 1 → gm (co (ny G x) i) (s (k - i)) = gm (co G i) (s (k - i)) ^^^ gm x (gm (if i = 0 then 0 else co G (i - 1)) (s (k - i))) := fun i _ => by
    rw [co_ny, xor_gm, gm_assoc]
  rw [sm_congr e, sm_xor, sm_gm]
  congr 2
  rw [sm_left, if_pos rfl, zero_gm, UInt8.zero_xor]
  unfold ps
  cases k with
  | zero => rw [if_neg (by omega)]; rfl
  | succ k =>
    rw [if_pos (by omega), Nat.add_sub_cancel]
    exact sm_congr fun i _ => by rw [if_neg (by omega), Nat.add_sub_cancel, show k + 1 - (i + 1) = k - i by omega]
theorem cv_px (G : List UInt8) (x : UInt8) (k : Nat) : cv (co (ny G x)) (px x) k = co G k := by
  rw [cv_ny]
  unfold ps
  cases k with
  | zero =>
    rw [if_neg (by omega), gm_zero, UInt8.xor_zero]
    show (0 : UInt8) ^^^ gm (co G 0) 1 = _
    rw [gm_one, UInt8.zero_xor]
  | succ k =>
    rw [if_pos (by omega), Nat.add_sub_cancel]
    unfold cv
    show (sm (fun i => gm (co G i) (px x (k + 1 - i))) (k + 1) ^^^ gm (co G (k + 1)) (px x (k + 1 - (k + 1)))) ^^^ _ = _
    have e : ∀ i, i < k + 1 → gm (co G i) (px x (k + 1 - i)) = gm x (gm (co G i) (px x (k - i))) := fun i hi => by
      rw [show k + 1 - i = k - i + 1 by omega, px, ← gm_assoc, gm_comm]
    rw [sm_congr e, sm_gm, Nat.sub_self, px, gm_one, UInt8.xor_comm, ← UInt8.xor_assoc, UInt8.xor_self, UInt8.zero_xor]
theorem cv_xor (f s r : Nat → UInt8) (y : UInt8) (k : Nat) : cv f (fun j => s j ^^^ gm y (r j)) k = cv f s k ^^^ gm y (cv f r k) := by
  unfold cv
  rw [← sm_gm, ← sm_xor]
  refine sm_congr fun i _ => ?_
  rw [gm_xor, ← gm_assoc, gm_comm (f i) y, gm_assoc]
theorem ls_snoc (l : List (UInt8 × UInt8)) (e : UInt8 × UInt8) (j : Nat) : ls (l ++ [e]) j = ls l j ^^^ gm e.1 (px e.2 j) := by
  induction l with
  | nil =>
    show gm e.1 (px e.2 j) ^^^ 0 = 0 ^^^ _
    rw [UInt8.xor_zero, UInt8.zero_xor]
  | cons d l ih => rw [List.cons_append, ls_cons, ls_cons, ih, UInt8.xor_assoc]
theorem cv_loc (l : List (UInt8 × UInt8)) (k : Nat) (hk : l.length ≤ k) : cv (co (locL (l.map (·.2)))) (ls l) k = 0 := by
  have h := (loc_run l (k + 1)).run k hk (by omega)
  rw [← h]
  unfold cv dis
  exact sm_more (by omega) fun i hi => by rw [co_ge (by rw [locL_length]; simp; omega), zero_gm]
theorem ev_ny (O G : Nat → UInt8) (x y z : UInt8) (N m : Nat) (hm : m < N) (hO : ∀ k, m ≤ k → O k = 0) : ev N (fun k => (O k ^^^ gm x (ps 1 O k)) ^^^ gm y (G k)) z = gm (1 ^^^ gm x z) (ev N O z) ^^^ gm y (ev N G z) := by
  rw [ev_xor, ev_xor, ev_gm, ev_gm]
  congr 1
  have h := ev_ps 1 (N - 1) O z
  rw [show 1 + (N - 1) = N by omega] at h
  rw [h, xor_gm, one_gm, gm_assoc]
  congr 2
  rw [show px z 1 = z from by rw [px, px, one_gm]]
  rw [← ev_more (show N - 1 ≤ N by omega) (fun i hi => hO i (by omega))]
theorem pd_ny (G : List UInt8) (x : UInt8) (k : Nat) : pd (co (ny G x)) k = (pd (co G) k ^^^ gm x (ps 1 (pd (co G)) k)) ^^^ gm x (co G k) := by
  have e : co (ny G x) = fun k => co G k ^^^ gm x (ps 1 (co G) k) := funext fun k => by
    rw [co_ny]
    congr 2
    unfold ps
    by_cases h : k = 0
    · subst h; rw [if_pos rfl, if_neg (by omega)]
    · rw [if_neg h, if_pos (by omega)]
  rw [e, pd_xor, pd_gm, pd_ps, if_pos (by decide), gm_xor]
  have e2 : ps (1 - 1) (co G) k = co G k := by
    unfold ps; rw [if_pos (by omega), Nat.sub_zero]
  rw [e2, UInt8.xor_assoc]
  congr 1
  exact UInt8.xor_comm _ _
theorem pd_ge {f : Nat → UInt8} {n : Nat} (h : ∀ i, n < i → f i = 0) (i : Nat) (hi : n ≤ i) : pd f i = 0 := by
  unfold pd
  split
  · exact h _ (by omega)
  · rfl
/-- Forney's rule -/
theorem forney (l : List (UInt8 × UInt8)) (N : Nat) (hN : l.length < N) : ∀ e ∈ l, ∀ z, gm e.2 z = 1 →
    gm e.2 (ev N (cv (co (locL (l.map (·.2)))) (ls l)) z) = gm e.1 (ev N (pd (co (locL (l.map (·.2))))) z) := by
  have hr : ∀ (r : List (UInt8 × UInt8)), r.length < N → ∀ e ∈ r.reverse, ∀ z, gm e.2 z = 1 → gm e.2 (ev N (cv (co (locL (r.reverse.map (·.2)))) (ls r.reverse)) z) = gm e.1 (ev N (pd (co (locL (r.reverse.map (·.2))))) z) := by
    intro r
    induction r with
    | nil => intro _ e he; cases he
    | cons d r ih =>
      intro hN e he z hz
      simp only [List.length_cons] at hN
      rw [List.reverse_cons] at he ⊢
      obtain ⟨l, hl⟩ : ∃ l, r.reverse = l := ⟨_, rfl⟩
      have hll : l.length = r.length := by rw [← hl]; simp
      rw [hl] at he ih ⊢
      obtain ⟨G, hG⟩ : ∃ G, locL (l.map (·.2)) = G := ⟨_, rfl⟩
      have e1 : locL ((l ++ [d]).map (·.2)) = ny G d.2 := by
        rw [List.map_append, List.map_cons, List.map_nil, locL_snoc, hG]
      have e2 : cv (co (ny G d.2)) (ls (l ++ [d])) = fun k => (cv (co G) (ls l) k ^^^ gm d.2 (ps 1 (cv (co G) (ls l)) k)) ^^^ gm d.1 (co G k) := funext fun k => by
        have : ls (l ++ [d]) = fun j => ls l j ^^^ gm d.1 (px d.2 j) := funext fun j => ls_snoc l d j
        rw [this, cv_xor, cv_px, cv_ny]
      have e3 : pd (co (ny G d.2)) = fun k => (pd (co G) k ^^^ gm d.2 (ps 1 (pd (co G)) k)) ^^^ gm d.2 (co G k) := funext fun k => pd_ny G d.2 k
      have hGl : ∀ i, l.length < i → co G i = 0 := fun i hi => by rw [← hG]; exact co_ge (by rw [locL_length]; simp; omega)
      rw [e1, e2, e3, ev_ny _ _ _ _ _ N l.length (by omega) (fun k hk => by rw [← hG]; exact cv_loc l k hk), ev_ny _ _ _ _ _ N l.length (by omega) (fun k hk => pd_ge hGl k hk)]
      by_cases hde : gm d.2 z = 1
      · -- the last one, or of its value
        have hez : e.2 = d.2 := by
          have h1 : gm e.2 (gm d.2 z) = gm d.2 (gm e.2 z) := by rw [← gm_assoc, gm_comm e.2 d.2, gm_assoc]
          rw [hde, hz, gm_one, gm_one] at h1
          exact h1
        rw [hde, UInt8.xor_self, zero_gm, zero_gm, UInt8.zero_xor, UInt8.zero_xor]
        rcases List.mem_append.1 he with hel | hed
        · -- then the product is 0 there
          have hx0 : e.2 ≠ 0 := fun h => by rw [h, zero_gm] at hz; exact absurd hz (by decide)
          have h0 := (loc_zero (l.map (·.2)) e.2 z hx0 hz).2 (List.mem_map.2 ⟨e, hel, rfl⟩)
          have hev : ev N (co G) z = 0 := by
            rw [← h0, ← hG]
            unfold evL
            exact ev_more (by rw [locL_length]; simp; omega) (fun i hi => co_ge hi)
          rw [hev, gm_zero, gm_zero, gm_zero, gm_zero]
        · have : e = d := by simpa using hed
          subst this
          rw [← gm_assoc, ← gm_assoc, gm_comm e.2 e.1]
      · rcases List.mem_append.1 he with hel | hed
        · have hx0 : e.2 ≠ 0 := fun h => by rw [h, zero_gm] at hz; exact absurd hz (by decide)
          have h0 := (loc_zero (l.map (·.2)) e.2 z hx0 hz).2 (List.mem_map.2 ⟨e, hel, rfl⟩)
          have hev : ev N (co G) z = 0 := by
            rw [← h0, ← hG]
            unfold evL
            exact ev_more (by rw [locL_length]; simp; omega) (fun i hi => co_ge hi)
          have h3 := ih (by omega) e hel z hz
          rw [hG] at h3
          rw [hev, gm_zero, gm_zero, UInt8.xor_zero, UInt8.xor_zero]
          generalize 1 ^^^ gm d.2 z = u at *
          rw [← gm_assoc, gm_comm e.2 u, gm_assoc, h3, ← gm_assoc, ← gm_assoc, gm_comm u e.1]
        · have : e = d := by simpa using hed
          subst this
          exact absurd hz hde
  intro e he
  have := hr l.reverse (by simpa using hN)
  rw [List.reverse_reverse] at this
  exact this e he
/-- the derivative isn't 0 at a root that is there once -/
theorem slope_ne (xs : List UInt8) (hn : xs.Nodup) (N : Nat) (hN : xs.length < N) : ∀ x ∈ xs, ∀ z, gm x z = 1 → ev N (pd (co (locL xs))) z ≠ 0 := by
  have hr : ∀ (r : List UInt8), r.reverse.Nodup → r.length < N → ∀ x ∈ r.reverse, ∀ z, gm x z = 1 → ev N (pd (co (locL r.reverse))) z ≠ 0 := by
    intro r
    induction r with
    | nil => intro _ _ x hx; cases hx
    | cons d r ih =>
      intro hn hN x hx z hz
      simp only [List.length_cons] at hN
      rw [List.reverse_cons] at hx hn ⊢
      obtain ⟨l, hl⟩ : ∃ l, r.reverse = l := ⟨_, rfl⟩
      have hll : l.length = r.length := by rw [← hl]; simp
      rw [hl] at hx ih hn ⊢
      have hna := List.nodup_append.1 hn
      obtain ⟨G, hG⟩ : ∃ G, locL l = G := ⟨_, rfl⟩
      have hx0 : x ≠ 0 := fun h => by rw [h, zero_gm] at hz; exact absurd hz (by decide)
      have e3 : pd (co (ny G d)) = fun k => (pd (co G) k ^^^ gm d (ps 1 (pd (co G)) k)) ^^^ gm d (co G k) := funext fun k => pd_ny G d k
      have hGl : ∀ i, l.length < i → co G i = 0 := fun i hi => by rw [← hG]; exact co_ge (by rw [locL_length]; omega)
      have hev : ev N (co G) z = evL (locL l) z := by
        rw [← hG]
        unfold evL
        exact ev_more (by rw [locL_length]; omega) (fun i hi => co_ge hi)
      rw [locL_snoc, hG, e3, ev_ny _ _ _ _ _ N l.length (by omega) (fun k hk => pd_ge hGl k hk), hev]
      rcases List.mem_append.1 hx with hxl | hxd
      · rw [(loc_zero l x z hx0 hz).2 hxl, gm_zero, UInt8.xor_zero]
        have h3 := ih hna.1 (by omega) x hxl z hz
        rw [hG] at h3
        have hne : 1 ^^^ gm d z ≠ 0 := fun h => by
          have h1 : (1 : UInt8) = gm d z := xor_eq_zero _ _ h
          have h2 : gm x (gm d z) = gm d (gm x z) := by rw [← gm_assoc, gm_comm x d, gm_assoc]
          rw [← h1, hz, gm_one, gm_one] at h2
          exact hna.2.2 x hxl d (by simp) h2
        intro h
        exact h3 ((gm_eq_zero _ _ hne).1 h)
      · have : x = d := by simpa using hxd
        subst this
        rw [hz, UInt8.xor_self, zero_gm, UInt8.zero_xor]
        intro h
        have := (gm_eq_zero _ _ hx0).1 h
        exact hna.2.2 x ((loc_zero l x z hx0 hz).1 this) x (by simp) rfl
  have := hr xs.reverse (by rw [List.reverse_reverse]; exact hn) (by simpa using hN)
  rw [List.reverse_reverse] at this
  exact this
end Gf
end Go.Proofs.YtgchfijeiggimaaDoor
