/- Where a word is wrong, plain: of a word's difference and erased values, the register's polynomial is the product over the values of the other changed places. -/
import Derived.Test.YtgchfijeiggimaaDoorMs
import Derived.Test.YtgchfijeiggimaaDoorMu
namespace Go.Proofs.YtgchfijeiggimaaDoor
set_option linter.unusedVariables false
theorem nodup_sub {α : Type} [DecidableEq α] (a b : List α) (h : a.Nodup) (hs : ∀ x ∈ a, x ∈ b) : a.length ≤ b.length := by
  induction a generalizing b with
  | nil => simp
  | cons x a ih =>
    have hx := hs x (by simp)
    have hn := List.nodup_cons.1 h
    have := ih (b.erase x) hn.2 fun y hy => by
      have hne : y ≠ x := fun e => hn.1 (e ▸ hy)
      exact (List.mem_erase_of_ne hne).2 (hs y (by simp [hy]))
    rw [List.length_erase_of_mem hx] at this
    have := List.length_pos_of_mem hx
    simp; omega
theorem sm_rev (F : Nat → UInt8) (n : Nat) : Gf.sm F (n + 1) = Gf.sm (fun i => F (n - i)) (n + 1) := by
  induction n generalizing F with
  | zero => rfl
  | succ n ih =>
    rw [Gf.sm_left, ih (fun i => F (i + 1))]
    show _ = Gf.sm _ (n + 1) ^^^ F (n + 1 - (n + 1))
    rw [Nat.sub_self, UInt8.xor_comm]
    congr 1
    exact Gf.sm_congr fun i hi => by rw [show n - i + 1 = n + 1 - i by omega]
theorem co_mulL_comm (p q : List UInt8) (k : Nat) : co (mulL p q) k = co (mulL q p) k := by
  rw [co_mulL', co_mulL', sm_rev]
  exact Gf.sm_congr fun i hi => by rw [show k - (k - i) = i by omega, Gf.gm_comm]
/-- the product by one more factor -/
theorem co_by (p : List UInt8) (y : UInt8) (m : Nat) : co (mulL p [1, y]) m = co p m ^^^ Gf.gm y (if m = 0 then 0 else co p (m - 1)) := by
  rw [co_mulL']
  cases m with
  | zero =>
    rw [if_pos rfl, Gf.gm_zero, UInt8.xor_zero]
    show (0 : UInt8) ^^^ Gf.gm (co p 0) (co [1, y] 0) = _
    rw [show co [1, y] 0 = 1 from rfl, Gf.gm_one, UInt8.zero_xor]
  | succ m =>
    rw [if_neg (by omega), Nat.add_sub_cancel]
    show (Gf.sm _ m ^^^ Gf.gm (co p m) (co [1, y] (m + 1 - m))) ^^^ Gf.gm (co p (m + 1)) (co [1, y] (m + 1 - (m + 1))) = _
    rw [show m + 1 - m = 1 by omega, Nat.sub_self, show co [1, y] 1 = y from rfl, show co [1, y] 0 = 1 from rfl, Gf.gm_one]
    rw [show Gf.sm (fun i => Gf.gm (co p i) (co [1, y] (m + 1 - i))) m = 0 from Gf.sm_zero fun i hi => by
      rw [show co [1, y] (m + 1 - i) = 0 from co_ge (by show 2 ≤ _; omega), Gf.gm_zero]]
    rw [UInt8.zero_xor, UInt8.xor_comm, Gf.gm_comm]
namespace Gf
theorem co_ny (G : List UInt8) (y : UInt8) (m : Nat) : co (ny G y) m = co G m ^^^ gm y (if m = 0 then 0 else co G (m - 1)) := co_tab' _ _ _ fun j hj => by
  rw [co_ge (by omega), if_neg (by omega), co_ge (by omega), gm_zero]; rfl
theorem prod_loc (z : List UInt8) (k : Nat) (h : k ≤ z.length) (m : Nat) : co (prodL (fun r => [1, r]) z k) m = co (locL (z.take k)) m := by
  induction k generalizing m with
  | zero => simp [prodL, locL]
  | succ k ih =>
    have e : z.take (k + 1) = z.take k ++ [co z k] := by
      rw [List.take_add_one, List.getElem?_eq_getElem (by omega)]
      simp [co, List.getD_eq_getElem?_getD, List.getElem?_eq_getElem (show k < z.length by omega)]
    rw [prodL, e, locL_snoc, co_by, co_ny, ih (by omega), ih (by omega)]
theorem loc_top (ys : List UInt8) (h : ∀ y ∈ ys, y ≠ 0) : co (locL ys) ys.length ≠ 0 := by
  have hg : ∀ (ys : List UInt8) (G : List UInt8), (∀ y ∈ ys, y ≠ 0) → co G (G.length - 1) ≠ 0 → 0 < G.length → co (ys.foldl ny G) (G.length - 1 + ys.length) ≠ 0 := by
    intro ys
    induction ys with
    | nil => intro G _ h1 _; exact h1
    | cons y ys ih =>
      intro G h1 h2 h3
      rw [List.foldl_cons]
      have := ih (ny G y) (fun a ha => h1 a (by simp [ha])) (by
        rw [ny_length, Nat.add_sub_cancel, co_ny, co_ge (Nat.le_refl _), if_neg (by omega), UInt8.zero_xor]
        intro h
        exact h2 ((gm_eq_zero _ _ (h1 y (by simp))).1 h)) (by simp)
      rw [ny_length] at this
      rw [show G.length - 1 + (y :: ys).length = G.length + 1 - 1 + ys.length by simp; omega]
      exact this
  have := hg ys [1] h (by decide) (by decide)
  simpa [locL] using this
theorem tr_loc (ys : List UInt8) (h : ∀ y ∈ ys, y ≠ 0) : tr (locL ys) = locL ys := by
  have hl := locL_length ys
  have e : tl (locL ys) (locL ys).length = (locL ys).length := tl_unique _ _ _ (Nat.le_refl _) (fun i h1 h2 => by omega) fun _ => by
    rw [hl, Nat.add_sub_cancel]
    exact loc_top ys h
  unfold tr
  rw [e, List.take_length]
theorem Run.congr {s r : Nat → UInt8} {n L : Nat} {c : Nat → UInt8} (h : Run s n c L) (he : ∀ i, i < n → s i = r i) : Run r n c L := ⟨h.one, fun i h1 h2 => by
  rw [← h.run i h1 h2]
  exact sm_congr fun j _ => by rw [he (i - j) (by omega)]⟩
theorem Least.congr {s r : Nat → UInt8} {n L : Nat} (h : Least s n L) (he : ∀ i, i < n → s i = r i) : Least r n L := fun d M k => h d M (k.congr fun i hi => (he i hi).symm)
theorem Run.cong {s : Nat → UInt8} {n L : Nat} {c d : Nat → UInt8} (h : Run s n c L) (he : ∀ j, c j = d j) : Run s n d L := by
  have : c = d := funext he
  subst this; exact h
/-- values at a value and its inverse -/
theorem hv_ev (G : List UInt8) (x y : UInt8) (h : gm x y = 1) (h0 : 1 ≤ G.length) : hv x G = gm (px x (G.length - 1)) (evL G y) := by
  obtain ⟨L, hL⟩ : ∃ L, G.length = L + 1 := ⟨G.length - 1, by omega⟩
  rw [hv_sm x G L hL, hL, Nat.add_sub_cancel]
  show _ = gm _ (ev G.length (co G) y)
  unfold ev
  rw [hL, ← sm_gm]
  refine sm_congr fun j hj => ?_
  have h1 : ∀ k, gm (px x k) (px y k) = 1 := fun k => by
    induction k with
    | zero => rw [px, px, one_gm]
    | succ k ih =>
      rw [px, px, gm_comm (px x k) x, gm_assoc, ← gm_assoc (px x k), ih, one_gm, h]
  have h2 : px x L = gm (px x (L - j)) (px x j) := by rw [← px_add, show L - j + j = L by omega]
  rw [h2, gm_comm (co G j), gm_assoc, ← gm_assoc (px x j), gm_comm (px x j) (co G j), gm_assoc (co G j), h1, gm_one]
theorem ls_drop (l : List (UInt8 × UInt8)) (P : UInt8 × UInt8 → Bool) (f : UInt8 × UInt8 → UInt8 × UInt8) (h : ∀ q ∈ l, P q = false → (f q).1 = 0) (j : Nat) : ls ((l.filter P).map f) j = ls (l.map f) j := by
  induction l with
  | nil => rfl
  | cons q l ih =>
    have ih := ih fun q hq => h q (by simp [hq])
    rw [List.filter_cons, List.map_cons, ls_cons]
    by_cases hp : P q = true
    · rw [if_pos hp, List.map_cons, ls_cons, ih]
    · rw [if_neg hp, ih, h q (by simp) (by simpa using hp), zero_gm, UInt8.zero_xor]
/-- the changed places that aren't erased -/
def oth (E d : List UInt8) : List (UInt8 × UInt8) := (pr d).filter fun q => q.1 != 0 && !(E.contains q.2)
theorem oth_nodup (E d : List UInt8) (h : d.length ≤ 255) : ((oth E d).map (·.2)).Nodup := (List.filter_sublist.map _).nodup (pr_nodup d h)
/-- the polynomials of what is changed -/
theorem oth_row (E d s G : List UInt8) (hG : ∀ i, co G i = co (locL E) i) (hs : ∀ j, j < 32 → co s j = hv (al j) d) (i : Nat) (hi : E.length + i < 32) :
    co (mulL s G) (E.length + i) = ls ((oth E d).map fun q => (gm q.1 (hv q.2 (locL E)), q.2)) i := by
  have e1 : co (mulL s G) (E.length + i) = co (mulL s (locL E)) (E.length + i) := mulL_congr (fun _ => rfl) hG _
  unfold oth
  rw [e1, co_mulL_comm, co_mulL', ls_drop]
  · have h2 := dis_ls (pr d) (locL E) E.length (E.length + i) (locL_length E) (by omega)
    rw [show E.length + i - E.length = i by omega] at h2
    rw [← h2]
    unfold dis
    rw [sm_more (n := E.length + 1) (m := E.length + i + 1) (by omega) (fun j hj => by rw [co_ge (by rw [locL_length]; exact hj), zero_gm])]
    exact sm_congr fun j hj => by rw [hs _ (by omega), ls_pr]
  · intro q hq hP
    simp at hP
    by_cases h0 : q.1 = 0
    · show gm q.1 _ = 0
      rw [h0, zero_gm]
    · show gm q.1 (hv q.2 (locL E)) = 0
      rw [(hv_locL E q.2).2 (hP h0), gm_zero]
/-- the shortest register is that of what is changed -/
theorem oth_reg (E d s G R C : List UInt8) (L m : Nat) (hd : d.length ≤ 255) (hG : ∀ i, co G i = co (locL E) i) (hs : ∀ j, j < 32 → co s j = hv (al j) d) (hm : E.length + m = 32)
    (hR : ∀ i, i < m → co R i = co (mulL s G) (E.length + i)) (h2 : 2 * (oth E d).length ≤ m) (hr : Run (co R) m (co C) L) (hl : Least (co R) m L) (hC : C.length ≤ L + 1) :
    L = (oth E d).length ∧ ∀ j, co C j = co (locL ((oth E d).map (·.2))) j := by
  obtain ⟨l, hle⟩ : ∃ l, l = (oth E d).map (fun q => (gm q.1 (hv q.2 (locL E)), q.2)) := ⟨_, rfl⟩
  have hlen : l.length = (oth E d).length := by rw [hle]; simp
  have hsnd : l.map (·.2) = (oth E d).map (·.2) := by rw [hle]; simp
  have hrow : ∀ i, i < m → co R i = ls l i := fun i hi => by rw [hR i hi, oth_row E d s G hG hs i (by omega), hle]
  have hr2 := hr.congr hrow
  have hl2 := hl.congr hrow
  have hle2 := ls_least l (by rw [hsnd]; exact oth_nodup E d hd) (fun e he => by
    rw [hle] at he
    obtain ⟨q, hq, rfl⟩ := List.mem_map.1 he
    have hq := (List.mem_filter.1 hq).2
    simp at hq
    show gm q.1 (hv q.2 (locL E)) ≠ 0
    intro h
    exact hq.2 ((hv_locL E q.2).1 ((gm_eq_zero _ _ hq.1).1 h))) m (by omega)
  have hlr := loc_run l m
  have h3 := hl2 _ _ hlr
  have h4 := hle2 _ _ hr2
  have hL : L = l.length := by omega
  refine ⟨by omega, fun j => ?_⟩
  rw [← hsnd]
  by_cases hj : j ≤ L
  · exact Run.only (hL ▸ hle2) hr2 (hL ▸ hlr) (by omega) j hj
  · rw [co_ge (by omega), co_ge (by rw [locL_length]; simp; omega)]
theorem oth_ne (E d : List UInt8) : ∀ y ∈ (oth E d).map (·.2), y ≠ 0 := fun y hy => by
  obtain ⟨q, hq, rfl⟩ := List.mem_map.1 hy
  obtain ⟨k, _, hk⟩ := mem_pr (List.mem_filter.1 hq).1
  rw [hk]; exact al_ne k
theorem mem_pr_iff (d : List UInt8) (q : UInt8 × UInt8) : q ∈ pr d ↔ ∃ p, p < d.length ∧ q = (co d p, al (d.length - 1 - p)) := by
  induction d with
  | nil => simp [pr]
  | cons c d ih =>
    rw [pr, List.mem_cons, ih]
    constructor
    · rintro (rfl | ⟨p, hp, rfl⟩)
      · exact ⟨0, by simp, by simp [co]⟩
      · exact ⟨p + 1, by simp; omega, by simp [co]; congr 1; omega⟩
    · rintro ⟨p, hp, rfl⟩
      cases p with
      | zero => exact .inl (by simp [co])
      | succ p => exact .inr ⟨p, by simpa using hp, by simp [co]; congr 1; omega⟩
/-- which values there are -/
theorem mem_oth (E d : List UInt8) (hd : d.length ≤ 255) (p : Nat) (hp : p < d.length) : al (d.length - 1 - p) ∈ (oth E d).map (·.2) ↔ co d p ≠ 0 ∧ al (d.length - 1 - p) ∉ E := by
  constructor
  · intro h
    obtain ⟨q, hq, he⟩ := List.mem_map.1 h
    obtain ⟨h1, h2⟩ := List.mem_filter.1 hq
    obtain ⟨p', hp', rfl⟩ := (mem_pr_iff d q).1 h1
    have := (al_inj _ _).1 he
    obtain rfl : p' = p := by omega
    simpa using h2
  · rintro ⟨h1, h2⟩
    exact List.mem_map.2 ⟨(co d p, al (d.length - 1 - p)), List.mem_filter.2 ⟨(mem_pr_iff d _).2 ⟨p, hp, rfl⟩, by simpa using ⟨h1, h2⟩⟩, rfl⟩
/-- how many there are: no more than the places of a list that has them all -/
theorem oth_le (E d : List UInt8) (hd : d.length ≤ 255) (H : List Nat) (h : ∀ p, p < d.length → co d p ≠ 0 → al (d.length - 1 - p) ∉ E → p ∈ H) : (oth E d).length ≤ H.length := by
  have := nodup_sub ((oth E d).map (·.2)) (H.map fun p => al (d.length - 1 - p)) (oth_nodup E d hd) fun x hx => by
    obtain ⟨q, hq, rfl⟩ := List.mem_map.1 hx
    obtain ⟨h1, h2⟩ := List.mem_filter.1 hq
    obtain ⟨p, hp, rfl⟩ := (mem_pr_iff d q).1 h1
    simp at h2
    exact List.mem_map.2 ⟨p, h p hp h2.1 h2.2, rfl⟩
  simpa using this
theorem oth_ge (E d : List UInt8) (hd : d.length ≤ 255) (H : List Nat) (hn : H.Nodup) (h : ∀ p ∈ H, p < d.length ∧ co d p ≠ 0 ∧ al (d.length - 1 - p) ∉ E) : H.length ≤ (oth E d).length := by
  have hmap : (H.map fun p => al (d.length - 1 - p)).Nodup := by
    induction H with
    | nil => exact List.nodup_nil
    | cons p H ih =>
      have hn2 := List.nodup_cons.1 hn
      rw [List.map_cons, List.nodup_cons]
      refine ⟨fun hm => ?_, ih hn2.2 (fun q hq => h q (by simp [hq]))⟩
      obtain ⟨q, hq, he⟩ := List.mem_map.1 hm
      have h1 := (h p (by simp)).1
      have h2 := (h q (by simp [hq])).1
      have he := (al_inj _ _).1 he
      obtain rfl : p = q := by omega
      exact hn2.1 hq
  have := nodup_sub (H.map fun p => al (d.length - 1 - p)) ((oth E d).map (·.2)) hmap fun x hx => by
    obtain ⟨p, hp, rfl⟩ := List.mem_map.1 hx
    obtain ⟨h1, h2, h3⟩ := h p hp
    exact (mem_oth E d hd p h1).2 ⟨h2, h3⟩
  simpa using this
end Gf
end Go.Proofs.YtgchfijeiggimaaDoor
