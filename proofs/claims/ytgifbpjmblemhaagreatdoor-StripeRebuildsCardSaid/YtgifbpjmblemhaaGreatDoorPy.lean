/- Where a word is wrong, plain: of a word's difference and erased values, the register's polynomial is the product over the values of the other changed places. Amounts, plain: the first numbers of a row as sums of powers; Forney's rule; a polynomial that has as many roots as its degree is their product; a word mended place by place. -/
import Derived.Test.YtgifbpjmblemhaaGreatDoorMs
import Derived.Test.YtgifbpjmblemhaaGreatDoorMu
namespace Go.Proofs.YtgifbpjmblemhaaGreatDoor
set_option linter.unusedVariables false
theorem nodup_sub {α : Type} [DecidableEq α] (a b : List α) (h : a.Nodup) (hs : ∀ x ∈ a, x ∈ b) : a.length ≤ b.length := by
  induction a generalizing b with
  | nil => simp
  | cons x a ih =>
    have hx := hs x (by simp)
    have hn := List.nodup_cons.1 h
    have := ih (b.erase x) hn.2 fun y hy => by
      have hne : y ≠ x := fun e => hn.1 (e ▸ hy)
      exact (List.mem_erase_of_ne hne).2 (hs y (by simp [hy]))
    rw [List.length_erase_of_mem hx] at this
    have := List.length_pos_of_mem hx
    simp; omega
theorem sm_rev (F : Nat → UInt8) (n : Nat) : Gf.sm F (n + 1) = Gf.sm (fun i => F (n - i)) (n + 1) := by
  induction n generalizing F with
  | zero => rfl
  | succ n ih =>
    rw [Gf.sm_left, ih (fun i => F (i + 1))]
    show _ = Gf.sm _ (n + 1) ^^^ F (n + 1 - (n + 1))
    rw [Nat.sub_self, UInt8.xor_comm]
    congr 1
    exact Gf.sm_congr fun i hi => by rw [show n - i + 1 = n + 1 - i by omega]
theorem co_mulL_comm (p q : List UInt8) (k : Nat) : co (mulL p q) k = co (mulL q p) k := by
  rw [co_mulL', co_mulL', sm_rev]
  exact Gf.sm_congr fun i hi => by rw [show k - (k - i) = i by omega, Gf.gm_comm]
/-- the product by one more factor -/
theorem co_by (p : List UInt8) (y : UInt8) (m : Nat) : co (mulL p [1, y]) m = co p m ^^^ Gf.gm y (if m = 0 then 0 else co p (m - 1)) := by
  rw [co_mulL']
  cases m with
  | zero =>
    rw [if_pos rfl, Gf.gm_zero, UInt8.xor_zero]
    show (0 : UInt8) ^^^ Gf.gm (co p 0) (co [1, y] 0) = _
    rw [show co [1, y] 0 = 1 from rfl, Gf.gm_one, UInt8.zero_xor]
  | succ m =>
    rw [if_neg (by omega), Nat.add_sub_cancel]
    show (Gf.sm _ m ^^^ Gf.gm (co p m) (co [1, y] (m + 1 - m))) ^^^ Gf.gm (co p (m + 1)) (co [1, y] (m + 1 - (m + 1))) = _
    rw [show m + 1 - m = 1 by omega, Nat.sub_self, show co [1, y] 1 = y from rfl, show co [1, y] 0 = 1 from rfl, Gf.gm_one]
    rw [show Gf.sm (fun i => Gf.gm (co p i) (co [1, y] (m + 1 - i))) m = 0 from Gf.sm_zero fun i hi => by
      rw [show co [1, y] (m + 1 - i) = 0 from co_ge (by show 2 ≤ _; omega), Gf.gm_zero]]
    rw [UInt8.zero_xor, UInt8.xor_comm, Gf.gm_comm]
namespace Gf
theorem co_ny (G : List UInt8) (y : UInt8) (m : Nat) : co (ny G y) m = co G m ^^^ gm y (if m = 0 then 0 else co G (m - 1)) := co_tab' _ _ _ fun j hj => by
  rw [co_ge (by omega), if_neg (by omega), co_ge (by omega), gm_zero]; rfl
theorem prod_loc (z : List UInt8) (k : Nat) (h : k ≤ z.length) (m : Nat) : co (prodL (fun r => [1, r]) z k) m = co (locL (z.take k)) m := by
  induction k generalizing m with
  | zero => simp [prodL, locL]
  | succ k ih =>
    have e : z.take (k + 1) = z.take k ++ [co z k] := by
      rw [List.take_add_one, List.getElem?_eq_getElem (by omega)]
      simp [co, List.getD_eq_getElem?_getD, List.getElem?_eq_getElem (show k < z.length by omega)]
    rw [prodL, e, locL_snoc, co_by, co_ny, ih (by omega), ih (by omega)]
theorem loc_top (ys : List UInt8) (h : ∀ y ∈ ys, y ≠ 0) : co (locL ys) ys.length ≠ 0 := by
  have hg : ∀ (ys : List UInt8) (G : List UInt8), (∀ y ∈ ys, y ≠ 0) → co G (G.length - 1) ≠ 0 → 0 < G.length → co (ys.foldl ny G) (G.length - 1 + ys.length) ≠ 0 := by
    intro ys
    induction ys with
    | nil => intro G _ h1 _; exact h1
    | cons y ys ih =>
      intro G h1 h2 h3
      rw [List.foldl_cons]
      have := ih (ny G y) (fun a ha => h1 a (by simp [ha])) (by
        rw [ny_length, Nat.add_sub_cancel, co_ny, co_ge (Nat.le_refl _), if_neg (by omega), UInt8.zero_xor]
        intro h
        exact h2 ((gm_eq_zero _ _ (h1 y (by simp))).1 h)) (by simp)
      rw [ny_length] at this
      rw [show G.length - 1 + (y :: ys).length = G.length + 1 - 1 + ys.length by simp; omega]
      exact this
  have := hg ys [1] h (by decide) (by decide)
  simpa [locL] using this
theorem tr_loc (ys : List UInt8) (h : ∀ y ∈ ys, y ≠ 0) : tr (locL ys) = locL ys := by
  have hl := locL_length ys
  have e : tl (locL ys) (locL ys).length = (locL ys).length := tl_unique _ _ _ (Nat.le_refl _) (fun i h1 h2 => by omega) fun _ => by
    rw [hl, Nat.add_sub_cancel]
    exact loc_top ys h
  unfold tr
  rw [e, List.take_length]
theorem Run.congr {s r : Nat → UInt8} {n L : Nat} {c : Nat → UInt8} (h : Run s n c L) (he : ∀ i, i < n → s i = r i) : Run r n c L := ⟨h.one, fun i h1 h2 => by
  rw [← h.run i h1 h2]
  exact sm_congr fun j _ => by rw [he (i - j) (by omega)]⟩
theorem Least.congr {s r : Nat → UInt8} {n L : Nat} (h : Least s n L) (he : ∀ i, i < n → s i = r i) : Least r n L := fun d M k => h d M (k.congr fun i hi => (he i hi).symm)
theorem Run.cong {s : Nat → UInt8} {n L : Nat} {c d : Nat → UInt8} (h : Run s n c L) (he : ∀ j, c j = d j) : Run s n d L := by
  have : c = d := funext he
  subst this; exact h
/-- values at a value and its inverse -/
theorem hv_ev (G : List UInt8) (x y : UInt8) (h : gm x y = 1) (h0 : 1 ≤ G.length) : hv x G = gm (px x (G.length - 1)) (evL G y) := by
  obtain ⟨L, hL⟩ : ∃ L, G.length = L + 1 := ⟨G.length - 1, by omega⟩
  rw [hv_sm x G L hL, hL, Nat.add_sub_cancel]
  show _ = gm _ (ev G.length (co G) y)
  unfold ev
  rw [hL, ← sm_gm]
  refine sm_congr fun j hj => ?_
  have h1 : ∀ k, gm (px x k) (px y k) = 1 := fun k => by
    induction k with
    | zero => rw [px, px, one_gm]
    | succ k ih =>
      rw [px, px, gm_comm (px x k) x, gm_assoc, ← gm_assoc (px x k), ih, one_gm, h]
  have h2 : px x L = gm (px x (L - j)) (px x j) := by rw [← px_add, show L - j + j = L by omega]
  rw [h2, gm_comm (co G j), gm_assoc, ← gm_assoc (px x j), gm_comm (px x j) (co G j), gm_assoc (co G j), h1, gm_one]
theorem ls_drop (l : List (UInt8 × UInt8)) (P : UInt8 × UInt8 → Bool) (f : UInt8 × UInt8 → UInt8 × UInt8) (h : ∀ q ∈ l, P q = false → (f q).1 = 0) (j : Nat) : ls ((l.filter P).map f) j = ls (l.map f) j := by
  induction l with
  | nil => rfl
  | cons q l ih =>
    have ih := ih fun q hq => h q (by simp [hq])
    rw [List.filter_cons, List.map_cons, ls_cons]
    by_cases hp : P q = true
    · rw [if_pos hp, List.map_cons, ls_cons, ih]
    · rw [if_neg hp, ih, h q (by simp) (by simpa using hp), zero_gm, UInt8.zero_xor]
/-- the changed places that aren't erased -/
def oth (E d : List UInt8) : List (UInt8 × UInt8) := (pr d).filter fun q => q.1 != 0 && !(E.contains q.2)
theorem oth_nodup (E d : List UInt8) (h : d.length ≤ 255) : ((oth E d).map (·.2)).Nodup := (List.filter_sublist.map _).nodup (pr_nodup d h)
/-- the polynomials of what is changed -/
theorem oth_row (E d s G : List UInt8) (hG : ∀ i, co G i = co (locL E) i) (hs : ∀ j, j < 32 → co s j = hv (al j) d) (i : Nat) (hi : E.length + i < 32) :
    co (mulL s G) (E.length + i) = ls ((oth E d).map fun q => (gm q.1 (hv q.2 (locL E)), q.2)) i := by
  have e1 : co (mulL s G) (E.length + i) = co (mulL s (locL E)) (E.length + i) := mulL_congr (fun _ => rfl) hG _
  unfold oth
  rw [e1, co_mulL_comm, co_mulL', ls_drop]
  · have h2 := dis_ls (pr d) (locL E) E.length (E.length + i) (locL_length E) (by omega)
    rw [show E.length + i - E.length = i by omega] at h2
    rw [← h2]
    unfold dis
    rw [sm_more (n := E.length + 1) (m := E.length + i + 1) (by omega) (fun j hj => by rw [co_ge (by rw [locL_length]; exact hj), zero_gm])]
    exact sm_congr fun j hj => by rw [hs _ (by omega), ls_pr]
  · intro q hq hP
    simp at hP
    by_cases h0 : q.1 = 0
    · show gm q.1 _ = 0
      rw [h0, zero_gm]
    · show gm q.1 (hv q.2 (locL E)) = 0
      rw [(hv_locL E q.2).2 (hP h0), gm_zero]
/-- the shortest register is that of what is changed -/
theorem oth_reg (E d s G R C : List UInt8) (L m : Nat) (hd : d.length ≤ 255) (hG : ∀ i, co G i = co (locL E) i) (hs : ∀ j, j < 32 → co s j = hv (al j) d) (hm : E.length + m = 32)
    (hR : ∀ i, i < m → co R i = co (mulL s G) (E.length + i)) (h2 : 2 * (oth E d).length ≤ m) (hr : Run (co R) m (co C) L) (hl : Least (co R) m L) (hC : C.length ≤ L + 1) :
    L = (oth E d).length ∧ ∀ j, co C j = co (locL ((oth E d).map (·.2))) j := by
  obtain ⟨l, hle⟩ : ∃ l, l = (oth E d).map (fun q => (gm q.1 (hv q.2 (locL E)), q.2)) := ⟨_, rfl⟩
  have hlen : l.length = (oth E d).length := by rw [hle]; simp
  have hsnd : l.map (·.2) = (oth E d).map (·.2) := by rw [hle]; simp
  have hrow : ∀ i, i < m → co R i = ls l i := fun i hi => by rw [hR i hi, oth_row E d s G hG hs i (by omega), hle]
  have hr2 := hr.congr hrow
  have hl2 := hl.congr hrow
  have hle2 := ls_least l (by rw [hsnd]; exact oth_nodup E d hd) (fun e he => by
    rw [hle] at he
    obtain ⟨q, hq, rfl⟩ := List.mem_map.1 he
    have hq := (List.mem_filter.1 hq).2
    simp at hq
    show gm q.1 (hv q.2 (locL E)) ≠ 0
    intro h
    exact hq.2 ((hv_locL E q.2).1 ((gm_eq_zero _ _ hq.1).1 h))) m (by omega)
  have hlr := loc_run l m
  have h3 := hl2 _ _ hlr
  have h4 := hle2 _ _ hr2
  have hL : L = l.length := by omega
  refine ⟨by omega, fun j => ?_⟩
  rw [← hsnd]
  by_cases hj : j ≤ L
  · exact Run.only (hL ▸ hle2) hr2 (hL ▸ hlr) (by omega) j hj
  · rw [co_ge (by omega), co_ge (by rw [locL_length]; simp; omega)]
theorem oth_ne (E d : List UInt8) : ∀ y ∈ (oth E d).map (·.2), y ≠ 0 := fun y hy => by
  obtain ⟨q, hq, rfl⟩ := List.mem_map.1 hy
  obtain ⟨k, _, hk⟩ := mem_pr (List.mem_filter.1 hq).1
  rw [hk]; exact al_ne k
theorem mem_pr_iff (d : List UInt8) (q : UInt8 × UInt8) : q ∈ pr d ↔ ∃ p, p < d.length ∧ q = (co d p, al (d.length - 1 - p)) := by
  induction d with
  | nil => simp [pr]
  | cons c d ih =>
    rw [pr, List.mem_cons, ih]
    constructor
    · rintro (rfl | ⟨p, hp, rfl⟩)
      · exact ⟨0, by simp, by simp [co]⟩
      · exact ⟨p + 1, by simp; omega, by simp [co]; congr 1; omega⟩
    · rintro ⟨p, hp, rfl⟩
      cases p with
      | zero => exact .inl (by simp [co])
      | succ p => exact .inr ⟨p, by simpa using hp, by simp [co]; congr 1; omega⟩
/-- which values there are -/
theorem mem_oth (E d : List UInt8) (hd : d.length ≤ 255) (p : Nat) (hp : p < d.length) : al (d.length - 1 - p) ∈ (oth E d).map (·.2) ↔ co d p ≠ 0 ∧ al (d.length - 1 - p) ∉ E := by
  constructor
  · intro h
    obtain ⟨q, hq, he⟩ := List.mem_map.1 h
    obtain ⟨h1, h2⟩ := List.mem_filter.1 hq
    obtain ⟨p', hp', rfl⟩ := (mem_pr_iff d q).1 h1
    have := (al_inj _ _).1 he
    obtain rfl : p' = p := by omega
    simpa using h2
  · rintro ⟨h1, h2⟩
    exact List.mem_map.2 ⟨(co d p, al (d.length - 1 - p)), List.mem_filter.2 ⟨(mem_pr_iff d _).2 ⟨p, hp, rfl⟩, by simpa using ⟨h1, h2⟩⟩, rfl⟩
/-- how many there are: no more than the places of a list that has them all -/
theorem oth_le (E d : List UInt8) (hd : d.length ≤ 255) (H : List Nat) (h : ∀ p, p < d.length → co d p ≠ 0 → al (d.length - 1 - p) ∉ E → p ∈ H) : (oth E d).length ≤ H.length := by
  have := nodup_sub ((oth E d).map (·.2)) (H.map fun p => al (d.length - 1 - p)) (oth_nodup E d hd) fun x hx => by
    obtain ⟨q, hq, rfl⟩ := List.mem_map.1 hx
    obtain ⟨h1, h2⟩ := List.mem_filter.1 hq
    obtain ⟨p, hp, rfl⟩ := (mem_pr_iff d q).1 h1
    simp at h2
    exact List.mem_map.2 ⟨p, h p hp h2.1 h2.2, rfl⟩
  simpa using this
theorem oth_ge (E d : List UInt8) (hd : d.length ≤ 255) (H : List Nat) (hn : H.Nodup) (h : ∀ p ∈ H, p < d.length ∧ co d p ≠ 0 ∧ al (d.length - 1 - p) ∉ E) : H.length ≤ (oth E d).length := by
  have hmap : (H.map fun p => al (d.length - 1 - p)).Nodup := by
    induction H with
    | nil => exact List.nodup_nil
    | cons p H ih =>
      have hn2 := List.nodup_cons.1 hn
      rw [List.map_cons, List.nodup_cons]
      refine ⟨fun hm => ?_, ih hn2.2 (fun q hq => h q (by simp [hq]))⟩
      obtain ⟨q, hq, he⟩ := List.mem_map.1 hm
      have h1 := (h p (by simp)).1
      have h2 := (h q (by simp [hq])).1
      have he := (al_inj _ _).1 he
      obtain rfl : p = q := by omega
      exact hn2.1 hq
  have := nodup_sub (H.map fun p => al (d.length - 1 - p)) ((oth E d).map (·.2)) hmap fun x hx => by
    obtain ⟨p, hp, rfl⟩ := List.mem_map.1 hx
    obtain ⟨h1, h2, h3⟩ := h p hp
    exact (mem_oth E d hd p h1).2 ⟨h2, h3⟩
  simpa using this
end Gf
end Go.Proofs.YtgifbpjmblemhaaGreatDoor
namespace Go.Proofs.YtgifbpjmblemhaaGreatDoor
set_option linter.unusedVariables false
namespace Gf
theorem ls_map_gd (x : UInt8) (l : List (UInt8 × UInt8)) (h : ∀ e ∈ l, e.2 ^^^ x ≠ 0) : (l.map fun e => (gd e.1 (e.2 ^^^ x), e.2)).map (fun d => (gm d.1 (d.2 ^^^ x), d.2)) = l := by
  rw [List.map_map]
  conv => rhs; rw [← List.map_id l]
  refine List.map_congr_left fun e he => ?_
  show (gm (gd e.1 (e.2 ^^^ x)) (e.2 ^^^ x), e.2) = e
  rw [gd_gm _ _ (h e he)]
/-- the first numbers of a row are sums of powers of values that are apart -/
theorem vexist (xs : List UInt8) (hn : xs.Nodup) (s : Nat → UInt8) : ∃ l : List (UInt8 × UInt8), l.map (·.2) = xs ∧ ∀ j, j < xs.length → ls l j = s j := by
  induction xs generalizing s with
  | nil => exact ⟨[], rfl, fun j hj => absurd hj (by simp)⟩
  | cons x xs ih =>
    rw [List.nodup_cons] at hn
    obtain ⟨l, hl, hs⟩ := ih hn.2 (fun j => s (j + 1) ^^^ gm x (s j))
    have hne : ∀ e ∈ l, e.2 ^^^ x ≠ 0 := fun e he h => hn.1 (by rw [← xor_eq_zero _ _ h, ← hl]; exact List.mem_map.2 ⟨e, he, rfl⟩)
    have ht := ls_map_gd x l hne
    obtain ⟨l2, hl2⟩ : ∃ l2 : List (UInt8 × UInt8), l2 = l.map fun e => (gd e.1 (e.2 ^^^ x), e.2) := ⟨_, rfl⟩
    rw [← hl2] at ht
    have h2 : ∀ j, ls l j = ls l2 (j + 1) ^^^ gm x (ls l2 j) := fun j => by
      rw [← ls_turn, ht]
    have hsnd : l2.map (·.2) = xs := by rw [hl2, List.map_map, ← hl]; rfl
    refine ⟨(s 0 ^^^ ls l2 0, x) :: l2, by rw [List.map_cons, hsnd], fun j hj => ?_⟩
    rw [ls_cons]
    have hc : ∀ k, k ≤ xs.length → gm (s 0 ^^^ ls l2 0) (px x k) = s k ^^^ ls l2 k := fun k => by
      induction k with
      | zero => intro _; rw [px, gm_one]
      | succ k ihk =>
        intro hk
        have e1 := hs k (by omega)
        rw [h2] at e1
        have e2 := ihk (by omega)
        rw [px, ← gm_assoc, e2, gm_comm _ x, gm_xor]
        have e3 : ls l2 (k + 1) = s (k + 1) ^^^ gm x (s k) ^^^ gm x (ls l2 k) := by
          rw [← e1, xor_cancel]
        rw [e3, ← UInt8.xor_assoc, ← UInt8.xor_assoc, UInt8.xor_self, UInt8.zero_xor]
    rw [hc j (by simp at hj; omega), xor_cancel]
/-- two rows that one register makes, and that begin alike, are the same -/
theorem Run.same {s r c : Nat → UInt8} {n L : Nat} (h : Run s n c L) (k : Run r n c L) (he : ∀ j, j < L → s j = r j) : ∀ j, j < n → s j = r j := by
  intro j
  induction j using Nat.strongRecOn with
  | ind j ih =>
    intro hj
    by_cases h1 : j < L
    · exact he j h1
    · have e1 := h.run j (by omega) hj
      have e2 := k.run j (by omega) hj
      unfold dis at e1 e2
      rw [sm_left, h.one, one_gm, Nat.sub_zero] at e1 e2
      have e3 : sm (fun i => gm (c (i + 1)) (s (j - (i + 1)))) L = sm (fun i => gm (c (i + 1)) (r (j - (i + 1)))) L := sm_congr fun i hi => by rw [ih (j - (i + 1)) (by omega) (by omega)]
      rw [xor_eq_zero _ _ e1, xor_eq_zero _ _ e2, e3]
/-- what the product of the values' factors makes 0 is a row of sums of powers -/
theorem sums_of (xs : List UInt8) (hn : xs.Nodup) (s : Nat → UInt8) (n : Nat) (h : Run s n (co (locL xs)) xs.length) : ∃ l : List (UInt8 × UInt8), l.map (·.2) = xs ∧ ∀ j, j < n → ls l j = s j := by
  obtain ⟨l, hl, hs⟩ := vexist xs hn s
  have h2 := loc_run l n
  have hlen : l.length = xs.length := by rw [← hl]; simp
  rw [hl, hlen] at h2
  exact ⟨l, hl, h2.same h hs⟩
theorem roots_zero (xs : List UInt8) (hn : xs.Nodup) (G : List UInt8) (hl : G.length ≤ xs.length) (hr : ∀ x ∈ xs, hv x G = 0) : ∀ c ∈ G, c = 0 := by
  induction G with
  | nil => intro c hc; cases hc
  | cons g G ih =>
    by_cases h0 : g = 0
    · subst h0
      have := ih (by simp at hl; omega) fun x hx => by
        have := hr x hx
        rwa [hv_cons, zero_gm, UInt8.zero_xor] at this
      intro c hc
      rcases List.mem_cons.1 hc with rfl | hc
      · rfl
      · exact this c hc
    · have := roots_few xs (g :: G) h0 hn hr
      omega
/-- the only polynomial of the degree, that begins with 1, with these roots -/
theorem loc_of (G : List UInt8) (xs : List UInt8) (hn : xs.Nodup) (h1 : co G 0 = 1) (hl : ∀ j, xs.length < j → co G j = 0) (hr : ∀ x ∈ xs, ∃ y, gm x y = 1 ∧ evL G y = 0) : ∀ j, co G j = co (locL xs) j := by
  obtain ⟨T, hT⟩ : ∃ T, T = tab (co G) (xs.length + 1) := ⟨_, rfl⟩
  have hTl : T.length = xs.length + 1 := by rw [hT]; simp
  have hco : ∀ j, co T j = co G j := fun j => by rw [hT, co_tab' _ _ _ fun j hj => hl j (by omega)]
  have hlen := locL_length xs
  have hd : ∀ c ∈ sumW T (locL xs), c = 0 := by
    have hD : (sumW T (locL xs)).length = xs.length + 1 := by simp [sumW, hTl, hlen]
    have h0 : co (sumW T (locL xs)) 0 = 0 := by
      have : (sumW T (locL xs)) = List.zipWith (· ^^^ ·) T (locL xs) := rfl
      rw [this]
      simp only [co, List.getD_eq_getElem?_getD, List.getElem?_zipWith]
      rw [List.getElem?_eq_getElem (by omega : 0 < T.length), List.getElem?_eq_getElem (by omega : 0 < (locL xs).length)]
      have e1 : T[0]'(by omega) = 1 := by
        have := hco 0
        rw [h1] at this
        simpa [co, List.getD_eq_getElem?_getD, List.getElem?_eq_getElem (by omega : 0 < T.length)] using this
      have e2 : (locL xs)[0]'(by omega) = 1 := by
        have := locL_one xs
        simpa [co, List.getD_eq_getElem?_getD, List.getElem?_eq_getElem (by omega : 0 < (locL xs).length)] using this
      rw [e1, e2]; rfl
    have hroot : ∀ x ∈ xs, hv x (sumW T (locL xs)) = 0 := fun x hx => by
      obtain ⟨y, hy, he⟩ := hr x hx
      rw [hv_sum _ _ _ (by rw [hTl, hlen]), (hv_locL xs x).2 hx, UInt8.xor_zero, hv_ev T x y hy (by omega), evL_congr hco, he, gm_zero]
    match hw : sumW T (locL xs) with
    | [] => intro c hc; cases hc
    | d :: D =>
      rw [hw] at hD h0 hroot
      have hd0 : d = 0 := h0
      subst hd0
      have := roots_zero xs hn D (by simp at hD; omega) fun x hx => by
        have := hroot x hx
        rwa [hv_cons, zero_gm, UInt8.zero_xor] at this
      intro c hc
      rcases List.mem_cons.1 hc with rfl | hc
      · rfl
      · exact this c hc
  have := sumW_zero (by rw [hTl, hlen]) hd
  intro j
  rw [← hco, this]
theorem loc_zero (xs : List UInt8) (x y : UInt8) (hx : x ≠ 0) (h : gm x y = 1) : evL (locL xs) y = 0 ↔ x ∈ xs := by
  rw [← hv_locL, hv_ev _ _ _ h (by rw [locL_length]; omega), gm_eq_zero _ _ (px_ne hx _)]
/-- the product of two is the product over both -/
theorem loc_app (a b : List UInt8) (hn : (a ++ b).Nodup) (h0 : ∀ x ∈ a ++ b, ∃ y, gm x y = 1) (j : Nat) : co (mulL (locL a) (locL b)) j = co (locL (a ++ b)) j := by
  refine loc_of _ _ hn ?_ (fun j hj => ?_) (fun x hx => ?_) j
  · rw [co_mulL']
    show (0 : UInt8) ^^^ gm (co (locL a) 0) (co (locL b) 0) = 1
    rw [locL_one, locL_one, one_gm, UInt8.zero_xor]
  · rw [co_mulL']
    refine sm_zero fun i hi => ?_
    rw [List.length_append] at hj
    by_cases h : i ≤ a.length
    · rw [show co (locL b) (j - i) = 0 from co_ge (by rw [locL_length]; omega), gm_zero]
    · rw [show co (locL a) i = 0 from co_ge (by rw [locL_length]; omega), zero_gm]
  · obtain ⟨y, hy⟩ := h0 x hx
    have hx0 : x ≠ 0 := fun e => by rw [e, zero_gm] at hy; exact absurd hy (by decide)
    refine ⟨y, hy, ?_⟩
    rw [evL_mul]
    rcases List.mem_append.1 hx with h | h
    · rw [(loc_zero a x y hx0 hy).2 h, zero_gm]
    · rw [(loc_zero b x y hx0 hy).2 h, gm_zero]
/-- the coefficients of a product of rows -/
def cv (f s : Nat → UInt8) (k : Nat) : UInt8 := sm (fun i => gm (f i) (s (k - i))) (k + 1)
theorem cv_ny (G : List UInt8) (x : UInt8) (s : Nat → UInt8) (k : Nat) : cv (co (ny G x)) s k = cv (co G) s k ^^^ gm x (ps 1 (cv (co G) s) k) := by
  unfold cv
  have e : ∀ i, i < k + 1 → gm (co (ny G x) i) (s (k - i)) = gm (co G i) (s (k - i)) ^^^ gm x (gm (if i = 0 then 0 else co G (i - 1)) (s (k - i))) := fun i _ => by
    rw [co_ny, xor_gm, gm_assoc]
  rw [sm_congr e, sm_xor, sm_gm]
  congr 2
  rw [sm_left, if_pos rfl, zero_gm, UInt8.zero_xor]
  unfold ps
  cases k with
  | zero => rw [if_neg (by omega)]; rfl
  | succ k =>
    rw [if_pos (by omega), Nat.add_sub_cancel]
    exact sm_congr fun i _ => by rw [if_neg (by omega), Nat.add_sub_cancel, show k + 1 - (i + 1) = k - i by omega]
theorem cv_px (G : List UInt8) (x : UInt8) (k : Nat) : cv (co (ny G x)) (px x) k = co G k := by
  rw [cv_ny]
  unfold ps
  cases k with
  | zero =>
    rw [if_neg (by omega), gm_zero, UInt8.xor_zero]
    show (0 : UInt8) ^^^ gm (co G 0) 1 = _
    rw [gm_one, UInt8.zero_xor]
  | succ k =>
    rw [if_pos (by omega), Nat.add_sub_cancel]
    unfold cv
    show (sm (fun i => gm (co G i) (px x (k + 1 - i))) (k + 1) ^^^ gm (co G (k + 1)) (px x (k + 1 - (k + 1)))) ^^^ _ = _
    have e : ∀ i, i < k + 1 → gm (co G i) (px x (k + 1 - i)) = gm x (gm (co G i) (px x (k - i))) := fun i hi => by
      rw [show k + 1 - i = k - i + 1 by omega, px, ← gm_assoc, gm_comm]
    rw [sm_congr e, sm_gm, Nat.sub_self, px, gm_one, UInt8.xor_comm, ← UInt8.xor_assoc, UInt8.xor_self, UInt8.zero_xor]
theorem cv_xor (f s r : Nat → UInt8) (y : UInt8) (k : Nat) : cv f (fun j => s j ^^^ gm y (r j)) k = cv f s k ^^^ gm y (cv f r k) := by
  unfold cv
  rw [← sm_gm, ← sm_xor]
  refine sm_congr fun i _ => ?_
  rw [gm_xor, ← gm_assoc, gm_comm (f i) y, gm_assoc]
theorem ls_snoc (l : List (UInt8 × UInt8)) (e : UInt8 × UInt8) (j : Nat) : ls (l ++ [e]) j = ls l j ^^^ gm e.1 (px e.2 j) := by
  induction l with
  | nil =>
    show gm e.1 (px e.2 j) ^^^ 0 = 0 ^^^ _
    rw [UInt8.xor_zero, UInt8.zero_xor]
  | cons d l ih => rw [List.cons_append, ls_cons, ls_cons, ih, UInt8.xor_assoc]
theorem cv_loc (l : List (UInt8 × UInt8)) (k : Nat) (hk : l.length ≤ k) : cv (co (locL (l.map (·.2)))) (ls l) k = 0 := by
  have h := (loc_run l (k + 1)).run k hk (by omega)
  rw [← h]
  unfold cv dis
  exact sm_more (by omega) fun i hi => by rw [co_ge (by rw [locL_length]; simp; omega), zero_gm]
theorem ev_ny (O G : Nat → UInt8) (x y z : UInt8) (N m : Nat) (hm : m < N) (hO : ∀ k, m ≤ k → O k = 0) : ev N (fun k => (O k ^^^ gm x (ps 1 O k)) ^^^ gm y (G k)) z = gm (1 ^^^ gm x z) (ev N O z) ^^^ gm y (ev N G z) := by
  rw [ev_xor, ev_xor, ev_gm, ev_gm]
  congr 1
  have h := ev_ps 1 (N - 1) O z
  rw [show 1 + (N - 1) = N by omega] at h
  rw [h, xor_gm, one_gm, gm_assoc]
  congr 2
  rw [show px z 1 = z from by rw [px, px, one_gm]]
  rw [← ev_more (show N - 1 ≤ N by omega) (fun i hi => hO i (by omega))]
theorem pd_ny (G : List UInt8) (x : UInt8) (k : Nat) : pd (co (ny G x)) k = (pd (co G) k ^^^ gm x (ps 1 (pd (co G)) k)) ^^^ gm x (co G k) := by
  have e : co (ny G x) = fun k => co G k ^^^ gm x (ps 1 (co G) k) := funext fun k => by
    rw [co_ny]
    congr 2
    unfold ps
    by_cases h : k = 0
    · subst h; rw [if_pos rfl, if_neg (by omega)]
    · rw [if_neg h, if_pos (by omega)]
  rw [e, pd_xor, pd_gm, pd_ps, if_pos (by decide), gm_xor]
  have e2 : ps (1 - 1) (co G) k = co G k := by
    unfold ps; rw [if_pos (by omega), Nat.sub_zero]
  rw [e2, UInt8.xor_assoc]
  congr 1
  exact UInt8.xor_comm _ _
theorem pd_ge {f : Nat → UInt8} {n : Nat} (h : ∀ i, n < i → f i = 0) (i : Nat) (hi : n ≤ i) : pd f i = 0 := by
  unfold pd
  split
  · exact h _ (by omega)
  · rfl
/-- Forney's rule -/
theorem forney (l : List (UInt8 × UInt8)) (N : Nat) (hN : l.length < N) : ∀ e ∈ l, ∀ z, gm e.2 z = 1 →
    gm e.2 (ev N (cv (co (locL (l.map (·.2)))) (ls l)) z) = gm e.1 (ev N (pd (co (locL (l.map (·.2))))) z) := by
  have hr : ∀ (r : List (UInt8 × UInt8)), r.length < N → ∀ e ∈ r.reverse, ∀ z, gm e.2 z = 1 → gm e.2 (ev N (cv (co (locL (r.reverse.map (·.2)))) (ls r.reverse)) z) = gm e.1 (ev N (pd (co (locL (r.reverse.map (·.2))))) z) := by
    intro r
    induction r with
    | nil => intro _ e he; cases he
    | cons d r ih =>
      intro hN e he z hz
      simp only [List.length_cons] at hN
      rw [List.reverse_cons] at he ⊢
      obtain ⟨l, hl⟩ : ∃ l, r.reverse = l := ⟨_, rfl⟩
      have hll : l.length = r.length := by rw [← hl]; simp
      rw [hl] at he ih ⊢
      obtain ⟨G, hG⟩ : ∃ G, locL (l.map (·.2)) = G := ⟨_, rfl⟩
      have e1 : locL ((l ++ [d]).map (·.2)) = ny G d.2 := by
        rw [List.map_append, List.map_cons, List.map_nil, locL_snoc, hG]
      have e2 : cv (co (ny G d.2)) (ls (l ++ [d])) = fun k => (cv (co G) (ls l) k ^^^ gm d.2 (ps 1 (cv (co G) (ls l)) k)) ^^^ gm d.1 (co G k) := funext fun k => by
        have : ls (l ++ [d]) = fun j => ls l j ^^^ gm d.1 (px d.2 j) := funext fun j => ls_snoc l d j
        rw [this, cv_xor, cv_px, cv_ny]
      have e3 : pd (co (ny G d.2)) = fun k => (pd (co G) k ^^^ gm d.2 (ps 1 (pd (co G)) k)) ^^^ gm d.2 (co G k) := funext fun k => pd_ny G d.2 k
      have hGl : ∀ i, l.length < i → co G i = 0 := fun i hi => by rw [← hG]; exact co_ge (by rw [locL_length]; simp; omega)
      rw [e1, e2, e3, ev_ny _ _ _ _ _ N l.length (by omega) (fun k hk => by rw [← hG]; exact cv_loc l k hk), ev_ny _ _ _ _ _ N l.length (by omega) (fun k hk => pd_ge hGl k hk)]
      by_cases hde : gm d.2 z = 1
      · -- the last one, or of its value
        have hez : e.2 = d.2 := by
          have h1 : gm e.2 (gm d.2 z) = gm d.2 (gm e.2 z) := by rw [← gm_assoc, gm_comm e.2 d.2, gm_assoc]
          rw [hde, hz, gm_one, gm_one] at h1
          exact h1
        rw [hde, UInt8.xor_self, zero_gm, zero_gm, UInt8.zero_xor, UInt8.zero_xor]
        rcases List.mem_append.1 he with hel | hed
        · -- then the product is 0 there
          have hx0 : e.2 ≠ 0 := fun h => by rw [h, zero_gm] at hz; exact absurd hz (by decide)
          have h0 := (loc_zero (l.map (·.2)) e.2 z hx0 hz).2 (List.mem_map.2 ⟨e, hel, rfl⟩)
          have hev : ev N (co G) z = 0 := by
            rw [← h0, ← hG]
            unfold evL
            exact ev_more (by rw [locL_length]; simp; omega) (fun i hi => co_ge hi)
          rw [hev, gm_zero, gm_zero, gm_zero, gm_zero]
        · have : e = d := by simpa using hed
          subst this
          rw [← gm_assoc, ← gm_assoc, gm_comm e.2 e.1]
      · rcases List.mem_append.1 he with hel | hed
        · have hx0 : e.2 ≠ 0 := fun h => by rw [h, zero_gm] at hz; exact absurd hz (by decide)
          have h0 := (loc_zero (l.map (·.2)) e.2 z hx0 hz).2 (List.mem_map.2 ⟨e, hel, rfl⟩)
          have hev : ev N (co G) z = 0 := by
            rw [← h0, ← hG]
            unfold evL
            exact ev_more (by rw [locL_length]; simp; omega) (fun i hi => co_ge hi)
          have h3 := ih (by omega) e hel z hz
          rw [hG] at h3
          rw [hev, gm_zero, gm_zero, UInt8.xor_zero, UInt8.xor_zero]
          generalize 1 ^^^ gm d.2 z = u at *
          rw [← gm_assoc, gm_comm e.2 u, gm_assoc, h3, ← gm_assoc, ← gm_assoc, gm_comm u e.1]
        · have : e = d := by simpa using hed
          subst this
          exact absurd hz hde
  intro e he
  have := hr l.reverse (by simpa using hN)
  rw [List.reverse_reverse] at this
  exact this e he
/-- the derivative isn't 0 at a root that is there once -/
theorem slope_ne (xs : List UInt8) (hn : xs.Nodup) (N : Nat) (hN : xs.length < N) : ∀ x ∈ xs, ∀ z, gm x z = 1 → ev N (pd (co (locL xs))) z ≠ 0 := by
  have hr : ∀ (r : List UInt8), r.reverse.Nodup → r.length < N → ∀ x ∈ r.reverse, ∀ z, gm x z = 1 → ev N (pd (co (locL r.reverse))) z ≠ 0 := by
    intro r
    induction r with
    | nil => intro _ _ x hx; cases hx
    | cons d r ih =>
      intro hn hN x hx z hz
      simp only [List.length_cons] at hN
      rw [List.reverse_cons] at hx hn ⊢
      obtain ⟨l, hl⟩ : ∃ l, r.reverse = l := ⟨_, rfl⟩
      have hll : l.length = r.length := by rw [← hl]; simp
      rw [hl] at hx ih hn ⊢
      have hna := List.nodup_append.1 hn
      obtain ⟨G, hG⟩ : ∃ G, locL l = G := ⟨_, rfl⟩
      have hx0 : x ≠ 0 := fun h => by rw [h, zero_gm] at hz; exact absurd hz (by decide)
      have e3 : pd (co (ny G d)) = fun k => (pd (co G) k ^^^ gm d (ps 1 (pd (co G)) k)) ^^^ gm d (co G k) := funext fun k => pd_ny G d k
      have hGl : ∀ i, l.length < i → co G i = 0 := fun i hi => by rw [← hG]; exact co_ge (by rw [locL_length]; omega)
      have hev : ev N (co G) z = evL (locL l) z := by
        rw [← hG]
        unfold evL
        exact ev_more (by rw [locL_length]; omega) (fun i hi => co_ge hi)
      rw [locL_snoc, hG, e3, ev_ny _ _ _ _ _ N l.length (by omega) (fun k hk => pd_ge hGl k hk), hev]
      rcases List.mem_append.1 hx with hxl | hxd
      · rw [(loc_zero l x z hx0 hz).2 hxl, gm_zero, UInt8.xor_zero]
        have h3 := ih hna.1 (by omega) x hxl z hz
        rw [hG] at h3
        have hne : 1 ^^^ gm d z ≠ 0 := fun h => by
          have h1 : (1 : UInt8) = gm d z := xor_eq_zero _ _ h
          have h2 : gm x (gm d z) = gm d (gm x z) := by rw [← gm_assoc, gm_comm x d, gm_assoc]
          rw [← h1, hz, gm_one, gm_one] at h2
          exact hna.2.2 x hxl d (by simp) h2
        intro h
        exact h3 ((gm_eq_zero _ _ hne).1 h)
      · have : x = d := by simpa using hxd
        subst this
        rw [hz, UInt8.xor_self, zero_gm, UInt8.zero_xor]
        intro h
        have := (gm_eq_zero _ _ hx0).1 h
        exact hna.2.2 x ((loc_zero l x z hx0 hz).1 this) x (by simp) rfl
  have := hr xs.reverse (by rw [List.reverse_reverse]; exact hn) (by simpa using hN)
  rw [List.reverse_reverse] at this
  exact this
end Gf
end Go.Proofs.YtgifbpjmblemhaaGreatDoor
