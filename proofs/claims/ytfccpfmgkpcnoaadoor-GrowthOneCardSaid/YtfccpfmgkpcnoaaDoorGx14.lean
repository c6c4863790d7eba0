/- Growth, plain: a frontier's peaks, a proof of the first leaves, what it makes; it holds; two old roots under one proof clash. Growth, plain: a leaf pushed onto a frontier, and its root; they are those of the leaves. -/
import Derived.Test.YtfccpfmgkpcnoaaDoorTr
namespace Go.Proofs.YtfccpfmgkpcnoaaDoor.Da
set_option linter.unusedVariables false
set_option linter.unusedSimpArgs false
/-- the roots of whole trees, the greatest first -/
def pks (l : List (List UInt8)) : List (List UInt8) :=
  if h : l.length = 0 then []
  else ov (l.take (2 ^ l.length.log2)) :: pks (l.drop (2 ^ l.length.log2))
termination_by l.length
decreasing_by
  have := Nat.two_pow_pos l.length.log2
  rw [List.length_drop]
  omega
theorem pks_nil : pks [] = [] := by rw [pks]; rfl
theorem pks_app {s a : List (List UInt8)} {j : Nat} (hs : s.length = 2 ^ j) (ha : a.length < 2 ^ j) : pks (s ++ a) = ov s :: pks a := by
  have hp : 0 < 2 ^ j := Nat.two_pow_pos _
  have e : (s ++ a).length.log2 = j := by
    rw [Nat.log2_eq_iff (by rw [List.length_append]; omega), Nat.pow_succ, List.length_append]
    omega
  rw [pks, dif_neg (by rw [List.length_append]; omega), e, ← hs, List.take_left, List.drop_left]
/-- a stack of whole trees has the leaves' peaks -/
theorem Wt.peaks {j c : Nat} {r : List (List (List UInt8))} (h : Wt j c r) : ∀ a : List (List UInt8), a.length < 2 ^ j → pks (r.reverse.flatten ++ a) = (r.map ov).reverse ++ pks a := by
  induction h with
  | nil j => intro a _; simp
  | even h ih => intro a h1; exact ih a (by rw [Nat.pow_succ]; omega)
  | @odd j c s r hs h ih =>
    intro a h1
    rw [show ((s :: r).reverse.flatten ++ a) = r.reverse.flatten ++ (s ++ a) by simp, ih (s ++ a) (by rw [List.length_append, Nat.pow_succ]; omega), pks_app hs h1]
    simp
theorem Wt.peaks0 {c : Nat} {r : List (List (List UInt8))} (h : Wt 0 c r) : pks r.reverse.flatten = (r.map ov).reverse := by
  have := h.peaks [] (by simp)
  rwa [List.append_nil, pks_nil, List.append_nil] at this
/-- how many bits 1 a number has -/
def ones (n : Nat) : Nat := if h : n = 0 then 0 else n % 2 + ones (n / 2)
termination_by n
decreasing_by omega
theorem ones_zero : ones 0 = 0 := by rw [ones]; rfl
theorem ones_pos {n : Nat} (h : n ≠ 0) : ones n = n % 2 + ones (n / 2) := by rw [ones, dif_neg h]
theorem Wt.ones {j c : Nat} {r : List (List (List UInt8))} (h : Wt j c r) : r.length = Da.ones c := by
  induction h with
  | nil j => rw [ones_zero]; rfl
  | @even j c r h ih =>
    by_cases h0 : c = 0
    · rw [h0] at ih ⊢; exact ih
    · rw [ones_pos (by omega), show 2 * c % 2 = 0 by omega, show 2 * c / 2 = c by omega, ih, Nat.zero_add]
  | @odd j c s r hs h ih =>
    rw [ones_pos (by omega), show (2 * c + 1) % 2 = 1 by omega, show (2 * c + 1) / 2 = c by omega, List.length_cons, ih]
    omega
/-- how many digests a proof has -/
def cnt (m n : Nat) (w : Bool) : Nat :=
  if m = n then (if w then 0 else 1)
  else if h : n < 2 then 0
  else if m ≤ spl n then 1 + cnt m (spl n) w
  else 1 + cnt (m - spl n) (n - spl n) false
termination_by n
decreasing_by
  all_goals
    have := spl_lt (n := n) (by omega)
    omega
/-- the proof of the first m -/
def prf (l : List (List UInt8)) (m : Nat) (w : Bool) : List (List UInt8) :=
  if m = l.length then (if w then [] else [ov l])
  else if h : l.length < 2 then []
  else if m ≤ spl l.length then prf (l.take (spl l.length)) m w ++ [ov (l.drop (spl l.length))]
  else prf (l.drop (spl l.length)) (m - spl l.length) false ++ [ov (l.take (spl l.length))]
termination_by l.length
decreasing_by
  all_goals
    have := spl_lt (n := l.length) (by omega)
    simp
    omega
/-- both roots that a proof makes -/
def mde (m n : Nat) (old : List UInt8) (w : Bool) (ps : List (List UInt8)) : List UInt8 × List UInt8 :=
  if m = n then (if w then (old, old) else (bi ps 0, bi ps 0))
  else if h : n < 2 then (old, old)
  else if m ≤ spl n then ((mde m (spl n) old w (ps.take (ps.length - 1))).1, nd (mde m (spl n) old w (ps.take (ps.length - 1))).2 (bi ps (ps.length - 1)))
  else (nd (bi ps (ps.length - 1)) (mde (m - spl n) (n - spl n) old false (ps.take (ps.length - 1))).1, nd (bi ps (ps.length - 1)) (mde (m - spl n) (n - spl n) old false (ps.take (ps.length - 1))).2)
termination_by n
decreasing_by
  all_goals
    have := spl_lt (n := n) (by omega)
    omega
theorem cnt_all (n : Nat) (w : Bool) : cnt n n w = if w then 0 else 1 := by rw [cnt, if_pos rfl]
theorem cnt_left {m n : Nat} (w : Bool) (h : 1 ≤ m) (h1 : m < n) (k : m ≤ spl n) : cnt m n w = 1 + cnt m (spl n) w := by rw [cnt, if_neg (by omega), dif_neg (by omega), if_pos k]
theorem cnt_right {m n : Nat} (w : Bool) (h1 : m < n) (k : spl n < m) : cnt m n w = 1 + cnt (m - spl n) (n - spl n) false := by rw [cnt, if_neg (by omega), dif_neg (by omega), if_neg (by omega)]
theorem prf_all {l : List (List UInt8)} {m : Nat} (w : Bool) (h : m = l.length) : prf l m w = if w then [] else [ov l] := by rw [prf, if_pos h]
theorem prf_left {l : List (List UInt8)} {m : Nat} (w : Bool) (h : 1 ≤ m) (h1 : m < l.length) (k : m ≤ spl l.length) : prf l m w = prf (l.take (spl l.length)) m w ++ [ov (l.drop (spl l.length))] := by
  rw [prf, if_neg (by omega), dif_neg (by omega), if_pos k]
theorem prf_right {l : List (List UInt8)} {m : Nat} (w : Bool) (h1 : m < l.length) (k : spl l.length < m) : prf l m w = prf (l.drop (spl l.length)) (m - spl l.length) false ++ [ov (l.take (spl l.length))] := by
  rw [prf, if_neg (by omega), dif_neg (by omega), if_neg (by omega)]
theorem mde_all {n : Nat} (old : List UInt8) (w : Bool) (ps : List (List UInt8)) : mde n n old w ps = if w then (old, old) else (bi ps 0, bi ps 0) := by rw [mde, if_pos rfl]
theorem mde_left {m n : Nat} (old : List UInt8) (w : Bool) (ps : List (List UInt8)) (h : 1 ≤ m) (h1 : m < n) (k : m ≤ spl n) :
    mde m n old w ps = ((mde m (spl n) old w (ps.take (ps.length - 1))).1, nd (mde m (spl n) old w (ps.take (ps.length - 1))).2 (bi ps (ps.length - 1))) := by rw [mde, if_neg (by omega), dif_neg (by omega), if_pos k]
theorem mde_right {m n : Nat} (old : List UInt8) (w : Bool) (ps : List (List UInt8)) (h1 : m < n) (k : spl n < m) :
    mde m n old w ps = (nd (bi ps (ps.length - 1)) (mde (m - spl n) (n - spl n) old false (ps.take (ps.length - 1))).1, nd (bi ps (ps.length - 1)) (mde (m - spl n) (n - spl n) old false (ps.take (ps.length - 1))).2) := by
  rw [mde, if_neg (by omega), dif_neg (by omega), if_neg (by omega)]
theorem prf_length : ∀ (n : Nat) (l : List (List UInt8)) (m : Nat) (w : Bool), l.length = n → 1 ≤ m → m ≤ n → (prf l m w).length = cnt m n w := by
  intro n
  induction n using Nat.strongRecOn with
  | ind n ih =>
    intro l m w hl h1 h2
    by_cases he : m = n
    · rw [he, prf_all w hl.symm, cnt_all]; split <;> rfl
    obtain ⟨s1, s2, _⟩ := spl_lt (n := n) (by omega)
    by_cases k : m ≤ spl n
    · rw [prf_left w h1 (by omega) (by rw [hl]; exact k), cnt_left w h1 (by omega) k, List.length_append, hl, ih (spl n) s2 _ m w (by rw [List.length_take]; omega) h1 k, Nat.add_comm]
      rfl
    · rw [prf_right w (by omega) (by rw [hl]; omega), cnt_right w (by omega) (by omega), List.length_append, hl, ih (n - spl n) (by omega) _ (m - spl n) false (by rw [List.length_drop]; omega) (by omega) (by omega), Nat.add_comm]
      rfl
theorem prf_all32 : ∀ (n : Nat) (l : List (List UInt8)) (m : Nat) (w : Bool), l.length = n → (∀ d ∈ l, d.length = 32) → 1 ≤ m → m ≤ n → ∀ d ∈ prf l m w, d.length = 32 := by
  intro n
  induction n using Nat.strongRecOn with
  | ind n ih =>
    intro l m w hl ha h1 h2 d hd
    by_cases he : m = n
    · rw [he, prf_all w hl.symm] at hd
      split at hd
      · cases hd
      · rw [List.mem_singleton] at hd; rw [hd]; exact ov_length ha
    obtain ⟨s1, s2, _⟩ := spl_lt (n := n) (by omega)
    have ht : ∀ d ∈ l.take (spl l.length), d.length = 32 := fun d hd => ha d (List.mem_of_mem_take hd)
    have hr : ∀ d ∈ l.drop (spl l.length), d.length = 32 := fun d hd => ha d (List.mem_of_mem_drop hd)
    by_cases k : m ≤ spl n
    · rw [prf_left w h1 (by omega) (by rw [hl]; exact k)] at hd
      rcases List.mem_append.1 hd with hd | hd
      · exact ih (spl n) s2 _ m w (by rw [List.length_take, hl]; omega) ht h1 k d hd
      · rw [List.mem_singleton] at hd; rw [hd]; exact ov_length hr
    · rw [prf_right w (by omega) (by rw [hl]; omega)] at hd
      rcases List.mem_append.1 hd with hd | hd
      · exact ih (n - spl n) (by omega) _ (m - spl l.length) false (by rw [List.length_drop, hl]) hr (by rw [hl]; omega) (by rw [hl]; omega) d hd
      · rw [List.mem_singleton] at hd; rw [hd]; exact ov_length ht
/-- what isn't about all from the beginning has no use for an old root -/
theorem mde_old : ∀ (n m : Nat) (x y : List UInt8) (ps : List (List UInt8)), 1 ≤ m → m ≤ n → mde m n x false ps = mde m n y false ps := by
  intro n
  induction n using Nat.strongRecOn with
  | ind n ih =>
    intro m x y ps h1 h2
    by_cases he : m = n
    · subst he; rw [mde_all, mde_all]; rfl
    obtain ⟨s1, s2, _⟩ := spl_lt (n := n) (by omega)
    by_cases k : m ≤ spl n
    · rw [mde_left x false ps h1 (by omega) k, mde_left y false ps h1 (by omega) k, ih (spl n) s2 m x y _ h1 k]
    · rw [mde_right x false ps (by omega) (by omega), mde_right y false ps (by omega) (by omega), ih (n - spl n) (by omega) (m - spl n) x y _ (by omega) (by omega)]
theorem snoc_last (a : List (List UInt8)) (d : List UInt8) : bi (a ++ [d]) ((a ++ [d]).length - 1) = d ∧ (a ++ [d]).take ((a ++ [d]).length - 1) = a := by
  rw [List.length_append, List.length_singleton, Nat.add_sub_cancel]
  refine ⟨?_, List.take_left⟩
  unfold bi
  simp
/-- what is proved makes both roots -/
theorem mde_prf : ∀ (n : Nat) (l : List (List UInt8)) (m : Nat) (w : Bool) (old : List UInt8), l.length = n → 1 ≤ m → m ≤ n → (w = true → old = ov (l.take m)) → mde m n old w (prf l m w) = (ov (l.take m), ov l) := by
  intro n
  induction n using Nat.strongRecOn with
  | ind n ih =>
    intro l m w old hl h1 h2 hw
    by_cases he : m = n
    · subst he
      rw [mde_all, prf_all w hl.symm, List.take_of_length_le (Nat.le_of_eq hl)]
      rw [List.take_of_length_le (Nat.le_of_eq hl)] at hw
      cases w with
      | true => rw [if_pos rfl, hw rfl]
      | false => rfl
    obtain ⟨s1, s2, s3⟩ := spl_lt (n := n) (by omega)
    by_cases k : m ≤ spl n
    · rw [mde_left old w _ h1 (by omega) k, prf_left w h1 (by omega) (by rw [hl]; exact k)]
      obtain ⟨e1, e2⟩ := snoc_last (prf (l.take (spl l.length)) m w) (ov (l.drop (spl l.length)))
      have ht : (l.take (spl n)).take m = l.take m := by rw [List.take_take, Nat.min_eq_left k]
      rw [e1, e2, hl]
      rw [ih (spl n) s2 (l.take (spl n)) m w old (by rw [List.length_take]; omega) h1 k (fun h => by rw [ht]; exact hw h), ht]
      rw [ov_two (l := l) (by omega), hl]
    · rw [mde_right old w _ (by omega) (by omega), prf_right w (by omega) (by rw [hl]; omega)]
      obtain ⟨e1, e2⟩ := snoc_last (prf (l.drop (spl l.length)) (m - spl l.length) false) (ov (l.take (spl l.length)))
      rw [e1, e2, hl]
      rw [ih (n - spl n) (by omega) (l.drop (spl n)) (m - spl n) false old (by rw [List.length_drop]; omega) (by omega) (by omega) (fun h => by cases h)]
      have hs : spl (l.take m).length = spl n := by
        rw [List.length_take, hl, Nat.min_eq_left h2]
        have e : spl n = 2 ^ (n - 1).log2 := by unfold spl; rw [if_neg (by omega)]
        rw [e] at k s3 ⊢
        exact spl_only (by omega) (by omega)
      rw [ov_two (l := l) (by omega), ov_two (l := l.take m) (by rw [List.length_take]; omega), hs, hl, List.take_take, Nat.min_eq_left (by omega), List.drop_take]
/-- what a proof's check answers -/
def gch (m : Int) (old : List UInt8) (n : Int) (now : List UInt8) (ps : List (List UInt8)) : Nat :=
  if 1 ≤ m ∧ m ≤ n ∧ n ≤ 512 then
    (if ps.length = cnt m.toNat n.toNat true then (if mde m.toNat n.toNat old true ps = (old, now) then 0 else 15) else 8)
  else 1
theorem gch_own (l : List (List UInt8)) (n m : Nat) (hl : l.length = n) (h1 : 1 ≤ m) (h2 : m ≤ n) (h5 : n ≤ 512) : gch (m : Int) (ov (l.take m)) (n : Int) (ov l) (prf l m true) = 0 := by
  unfold gch
  rw [if_pos (by omega), Int.toNat_natCast, Int.toNat_natCast, if_pos (prf_length n l m true hl h1 h2), if_pos (mde_prf n l m true _ hl h1 h2 (fun _ => rfl))]
theorem gch_zero {m n : Int} {old now : List UInt8} {ps : List (List UInt8)} (h : gch m old n now ps = 0) : (1 ≤ m ∧ m ≤ n ∧ n ≤ 512) ∧ ps.length = cnt m.toNat n.toNat true ∧ mde m.toNat n.toNat old true ps = (old, now) := by
  unfold gch at h
  split at h
  · rename_i h1
    split at h
    · rename_i h2
      split at h
      · rename_i h3; exact ⟨h1, h2, h3⟩
      · cases h
    · cases h
  · cases h
/-- how many nodes stand above, as long as all stand left -/
def wyl (m n : Nat) : Option Nat :=
  if n ≤ m then some 0
  else if h : n < 2 then none
  else if spl n < m then none
  else (wyl m (spl n)).map (· + 1)
termination_by n
decreasing_by
  have := spl_lt (n := n) (by omega)
  omega
theorem wyl_all {m n : Nat} (h : n ≤ m) : wyl m n = some 0 := by rw [wyl, if_pos h]
theorem wyl_right {m n : Nat} (h : m < n) (k : spl n < m) : wyl m n = none := by rw [wyl, if_neg (by omega), if_pos k]; split <;> rfl
theorem wyl_left {m n : Nat} (h0 : 1 ≤ m) (h : m < n) (k : m ≤ spl n) : wyl m n = (wyl m (spl n)).map (· + 1) := by rw [wyl, if_neg (by omega), dif_neg (by omega), if_neg (by omega)]
/-- a digest, and what comes above it -/
def upl (x : List UInt8) (ps : List (List UInt8)) : List UInt8 := ps.foldl (fun a d => nd a d) x
theorem mde_way : ∀ (n m : Nat) (ps : List (List UInt8)), 1 ≤ m → m ≤ n → ps.length = cnt m n true →
    (wyl m n = none → ∀ x y, (mde m n x true ps).1 = (mde m n y true ps).1) ∧ (∀ t, wyl m n = some t → ps.length = t ∧ ∀ x, mde m n x true ps = (x, upl x ps)) := by
  intro n
  induction n using Nat.strongRecOn with
  | ind n ih =>
    intro m ps h1 h2 hc
    by_cases he : m = n
    · subst he
      rw [cnt_all, if_pos rfl] at hc
      have hp := List.eq_nil_of_length_eq_zero hc
      subst hp
      rw [wyl_all (Nat.le_refl _)]
      exact ⟨fun h => (by cases h), fun t h => (by cases h; exact ⟨rfl, fun x => by rw [mde_all]; rfl⟩)⟩
    obtain ⟨s1, s2, _⟩ := spl_lt (n := n) (by omega)
    by_cases k : m ≤ spl n
    · rw [cnt_left true h1 (by omega) k] at hc
      rw [wyl_left h1 (by omega) k]
      obtain ⟨i1, i2⟩ := ih (spl n) s2 m (ps.take (ps.length - 1)) h1 k (by rw [List.length_take]; omega)
      refine ⟨fun h x y => ?_, fun t h => ?_⟩
      · rw [mde_left x true ps h1 (by omega) k, mde_left y true ps h1 (by omega) k]
        refine i1 ?_ x y
        cases hw : wyl m (spl n) with
        | none => rfl
        | some t => rw [hw] at h; cases h
      · cases hw : wyl m (spl n) with
        | none => rw [hw] at h; cases h
        | some t' =>
          rw [hw] at h
          cases h
          obtain ⟨j1, j2⟩ := i2 t' hw
          rw [List.length_take] at j1
          refine ⟨by show ps.length = t' + 1; omega, fun x => ?_⟩
          rw [mde_left x true ps h1 (by omega) k, j2 x]
          have hps : ps = ps.take (ps.length - 1) ++ [bi ps (ps.length - 1)] := by
            conv => lhs; rw [← List.take_append_drop (ps.length - 1) ps]
            congr 1
            rw [List.drop_eq_getElem_cons (by omega), show ps.length - 1 + 1 = ps.length by omega, List.drop_length]
            unfold bi
            rw [List.getD_eq_getElem?_getD, List.getElem?_eq_getElem (by omega)]
            rfl
          have : upl x ps = nd (upl x (ps.take (ps.length - 1))) (bi ps (ps.length - 1)) := by
            conv => lhs; rw [hps]
            unfold upl
            rw [List.foldl_append]
            rfl
          rw [this]
    · rw [wyl_right (by omega) (by omega)]
      refine ⟨fun _ x y => ?_, fun t h => by cases h⟩
      rw [mde_right x true ps (by omega) (by omega), mde_right y true ps (by omega) (by omega), mde_old (n - spl n) (m - spl n) x y _ (by omega) (by omega)]
/-- two byte strings of one digest among what two old roots and a proof make -/
def gcl : List UInt8 → List UInt8 → List (List UInt8) → Bool
  | _, _, [] => false
  | x, y, d :: ps => if (1 :: (x ++ d) : List UInt8) ≠ 1 :: (y ++ d) ∧ nd x d = nd y d then true else gcl (nd x d) (nd y d) ps
theorem gcl_true : ∀ (ps : List (List UInt8)) (x y : List UInt8), x ≠ y → upl x ps = upl y ps → gcl x y ps = true
  | [], x, y, hne, he => absurd he hne
  | d :: ps, x, y, hne, he => by
    have h1 : (1 :: (x ++ d) : List UInt8) ≠ 1 :: (y ++ d) := fun h => hne (List.append_cancel_right (List.cons.inj h).2)
    unfold gcl
    by_cases h2 : nd x d = nd y d
    · rw [if_pos ⟨h1, h2⟩]
    · rw [if_neg (fun h => h2 h.2)]
      exact gcl_true ps (nd x d) (nd y d) h2 he
/-- a proof that holds for two old roots -/
theorem gch_clash {m n : Int} {x y now : List UInt8} {ps : List (List UInt8)} (hx : gch m x n now ps = 0) (hy : gch m y n now ps = 0) (hne : x ≠ y) : wyl m.toNat n.toNat = some ps.length ∧ gcl x y ps = true := by
  obtain ⟨h1, h2, h3⟩ := gch_zero hx
  obtain ⟨_, _, h4⟩ := gch_zero hy
  obtain ⟨w1, w2⟩ := mde_way n.toNat m.toNat ps (by omega) (by omega) h2
  cases hw : wyl m.toNat n.toNat with
  | none =>
    have := w1 hw x y
    rw [h3, h4] at this
    exact absurd this hne
  | some t =>
    obtain ⟨e1, e2⟩ := w2 t hw
    rw [e2 x] at h3
    rw [e2 y] at h4
    have ex : upl x ps = now := congrArg Prod.snd h3
    have ey : upl y ps = now := congrArg Prod.snd h4
    exact ⟨by rw [e1], gcl_true ps x y hne (ex.trans ey.symm)⟩
theorem cnt_le : ∀ (n m : Nat) (w : Bool), 1 ≤ m → m ≤ n → cnt m n w ≤ dpt n + 1 := by
  intro n
  induction n using Nat.strongRecOn with
  | ind n ih =>
    intro m w h1 h2
    by_cases he : m = n
    · subst he; rw [cnt_all]; split <;> omega
    obtain ⟨s1, s2, s3⟩ := spl_lt (n := n) (by omega)
    obtain ⟨d1, d2⟩ := spl_dpt (n := n) (by omega)
    have hdl : dpt (spl n) ≤ dpt n - 1 := by
      rw [d1]
      by_cases h0 : dpt n - 1 = 0
      · rw [h0]; unfold dpt; simp
      · have h2 : 2 ≤ 2 ^ (dpt n - 1) := by
          obtain ⟨k, hk⟩ : ∃ k, dpt n - 1 = k + 1 := ⟨dpt n - 2, by omega⟩
          rw [hk, Nat.pow_succ]
          have := Nat.two_pow_pos k
          omega
        rw [dpt_only h2 (Nat.le_refl _) (by omega)]
        exact Nat.le_refl _
    by_cases k : m ≤ spl n
    · rw [cnt_left w h1 (by omega) k]
      have := ih (spl n) s2 m w h1 k
      omega
    · rw [cnt_right w (by omega) (by omega)]
      have := ih (n - spl n) (by omega) (m - spl n) false (by omega) (by omega)
      have hm : dpt (n - spl n) ≤ dpt (spl n) := by
        unfold dpt
        split
        · omega
        · rw [if_neg (by omega)]
          have : (n - spl n - 1).log2 ≤ (spl n - 1).log2 := by
            by_cases h0 : n - spl n - 1 = 0
            · rw [h0]; simp
            · exact (Nat.le_log2 (by omega)).2 (Nat.le_trans (Nat.log2_self_le h0) (by omega))
          omega
      omega
end Go.Proofs.YtfccpfmgkpcnoaaDoor.Da
namespace Go.Proofs.YtfccpfmgkpcnoaaDoor.Da
set_option linter.unusedVariables false
set_option linter.unusedSimpArgs false
/-- a digest pushed onto the peaks of n leaves -/
def psh (n : Nat) (ps : List (List UInt8)) (d : List UInt8) : List (List UInt8) :=
  if h : n % 2 = 0 then ps ++ [d] else psh (n / 2) (ps.take (ps.length - 1)) (nd (bi ps (ps.length - 1)) d)
termination_by n
decreasing_by omega
theorem psh_even {n : Nat} (ps : List (List UInt8)) (d : List UInt8) (h : n % 2 = 0) : psh n ps d = ps ++ [d] := by rw [psh, dif_pos h]
theorem psh_odd {n : Nat} (ps : List (List UInt8)) (d : List UInt8) (h : n % 2 = 1) : psh n ps d = psh (n / 2) (ps.take (ps.length - 1)) (nd (bi ps (ps.length - 1)) d) := by rw [psh, dif_neg (by omega)]
/-- the root of peaks -/
def rtp (ps : List (List UInt8)) : List UInt8 := match ps.reverse with
  | [] => sha []
  | a :: l => l.foldl (fun x p => nd p x) a
theorem Wt.psh : ∀ (c j : Nat) (r : List (List (List UInt8))) (s : List (List UInt8)), Wt j c r → s.length = 2 ^ j → ∃ r2, Wt j (c + 1) r2 ∧ r2.reverse.flatten = r.reverse.flatten ++ s ∧ Da.psh c (r.map ov).reverse (ov s) = (r2.map ov).reverse := by
  intro c
  induction c using Nat.strongRecOn with
  | ind c ih =>
    intro j r s h hs
    have hp := Nat.two_pow_pos j
    by_cases hc : c % 2 = 0
    · exact ⟨s :: r, h.push hc hs, by simp, by rw [psh_even _ _ hc]; simp⟩
    · obtain ⟨s', r', rfl, hs', h'⟩ := h.last (by omega)
      have hss : (s' ++ s).length = 2 ^ (j + 1) := by rw [List.length_append, hs, hs', Nat.pow_succ]; omega
      obtain ⟨r2, g1, g2, g3⟩ := ih (c / 2) (by omega) (j + 1) r' (s' ++ s) h' hss
      have hj : ov (s' ++ s) = nd (ov s') (ov s) := ov_join hs' (by omega) (by omega)
      rw [hj] at g3
      refine ⟨r2, ?_, ?_, ?_⟩
      · have := Wt.even g1
        rwa [show 2 * (c / 2 + 1) = c + 1 by omega] at this
      · rw [g2]; simp
      · obtain ⟨e1, e2⟩ := snoc_last ((r'.map ov).reverse) (ov s')
        rw [psh_odd _ _ (by omega), show ((s' :: r').map ov).reverse = (r'.map ov).reverse ++ [ov s'] by simp, e1, e2]
        exact g3
/-- a stack of whole trees stands for all leaves -/
theorem Wt.all : ∀ l : List (List UInt8), ∃ r, Wt 0 l.length r ∧ r.reverse.flatten = l := by
  intro l
  have h : ∀ n (l : List (List UInt8)), l.length = n → ∃ r, Wt 0 n r ∧ r.reverse.flatten = l := by
    intro n
    induction n with
    | zero => intro l hl; exact ⟨[], Wt.nil 0, by rw [List.eq_nil_of_length_eq_zero hl]; rfl⟩
    | succ n ih =>
      intro l hl
      obtain ⟨r, h1, h2⟩ := ih (l.take n) (by rw [List.length_take]; omega)
      obtain ⟨r2, g1, g2, _⟩ := Wt.psh n 0 r [bi l n] h1 rfl
      refine ⟨r2, g1, ?_⟩
      rw [g2, h2]
      have : l.take (n + 1) = l := List.take_of_length_le (by omega)
      conv => rhs; rw [← this, List.take_add_one]
      congr 1
      rw [List.getElem?_eq_getElem (by omega)]
      unfold bi
      rw [List.getD_eq_getElem?_getD, List.getElem?_eq_getElem (by omega)]
      rfl
  exact h l.length l rfl
theorem psh_pks (l : List (List UInt8)) (d : List UInt8) : psh l.length (pks l) d = pks (l ++ [d]) := by
  obtain ⟨r, h1, h2⟩ := Wt.all l
  obtain ⟨r2, g1, g2, g3⟩ := Wt.psh l.length 0 r [d] h1 rfl
  have e1 := h1.peaks0
  have e2 := g1.peaks0
  rw [h2] at e1
  rw [g2, h2] at e2
  rw [e1, e2, ← g3, ov_one]
theorem pks_ones (l : List (List UInt8)) : (pks l).length = ones l.length := by
  obtain ⟨r, h1, h2⟩ := Wt.all l
  have e1 := h1.peaks0
  rw [h2] at e1
  rw [e1, List.length_reverse, List.length_map, h1.ones]
theorem rtp_pks (l : List (List UInt8)) : rtp (pks l) = ov l := by
  obtain ⟨r, h1, h2⟩ := Wt.all l
  have e1 := h1.peaks0
  rw [h2] at e1
  unfold rtp
  rw [e1, List.reverse_reverse]
  cases r with
  | nil =>
    have : l = [] := by rw [← h2]; rfl
    rw [this, ov_nil]; rfl
  | cons s r' =>
    have := h1.top s r' rfl
    rw [h2] at this
    rw [← this]
    unfold jn
    simp only [List.map_cons]
    rw [List.foldl_map]
theorem pks_all32 {l : List (List UInt8)} (h : ∀ d ∈ l, d.length = 32) : ∀ d ∈ pks l, d.length = 32 := by
  have hh : ∀ n (l : List (List UInt8)), l.length = n → (∀ d ∈ l, d.length = 32) → ∀ d ∈ pks l, d.length = 32 := by
    intro n
    induction n using Nat.strongRecOn with
    | ind n ih =>
      intro l hl ha d hd
      by_cases h0 : l.length = 0
      · rw [pks, dif_pos h0] at hd; cases hd
      · rw [pks, dif_neg h0] at hd
        rcases List.mem_cons.1 hd with rfl | hd
        · exact ov_length (fun x hx => ha x (List.mem_of_mem_take hx))
        · have := Nat.two_pow_pos l.length.log2
          exact ih (l.drop (2 ^ l.length.log2)).length (by rw [List.length_drop]; omega) _ rfl (fun x hx => ha x (List.mem_of_mem_drop hx)) d hd
  exact hh l.length l rfl h
theorem psh_all32 : ∀ (n : Nat) (ps : List (List UInt8)) (d : List UInt8), (∀ x ∈ ps, x.length = 32) → d.length = 32 → ∀ x ∈ psh n ps d, x.length = 32 := by
  intro n
  induction n using Nat.strongRecOn with
  | ind n ih =>
    intro ps d hp hd x hx
    by_cases hc : n % 2 = 0
    · rw [psh_even _ _ hc] at hx
      rcases List.mem_append.1 hx with hx | hx
      · exact hp x hx
      · rw [List.mem_singleton] at hx; rw [hx]; exact hd
    · rw [psh_odd _ _ (by omega)] at hx
      exact ih (n / 2) (by omega) _ _ (fun y hy => hp y (List.mem_of_mem_take hy)) (nd_length _ _) x hx
theorem psh_length : ∀ (n : Nat) (ps : List (List UInt8)) (d : List UInt8), ps.length = ones n → (psh n ps d).length = ones (n + 1) := by
  intro n
  induction n using Nat.strongRecOn with
  | ind n ih =>
    intro ps d hp
    by_cases hc : n % 2 = 0
    · rw [psh_even _ _ hc, List.length_append, List.length_singleton, hp, ones_pos (n := n + 1) (by omega), show (n + 1) % 2 = 1 by omega, show (n + 1) / 2 = n / 2 by omega]
      by_cases h0 : n = 0
      · subst h0; rw [ones_zero]
      · rw [ones_pos h0, hc]; omega
    · have h1 : ones n = 1 + ones (n / 2) := by rw [ones_pos (by omega), show n % 2 = 1 by omega]
      rw [psh_odd _ _ (by omega), ih (n / 2) (by omega) _ _ (by rw [List.length_take, hp, h1]; omega), ones_pos (n := n + 1) (by omega), show (n + 1) % 2 = 0 by omega, show (n + 1) / 2 = n / 2 + 1 by omega, Nat.zero_add]
end Go.Proofs.YtfccpfmgkpcnoaaDoor.Da
