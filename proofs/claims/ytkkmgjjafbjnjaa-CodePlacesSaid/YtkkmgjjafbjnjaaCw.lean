/- Code words, plain: values of words at alpha's powers; a word of few symbols that aren't 0 with 32 roots is none (Vandermonde). -/
import Derived.Test.YtkkmgjjafbjnjaaPo
namespace Go.Proofs.Ytkkmgjjafbjnjaa
set_option linter.unusedVariables false
namespace Gf
/-- alpha to the power n -/
def al (n : Nat) : UInt8 := UInt8.ofNat (ex n)
theorem al_nat (n : Nat) : (al n).toNat = ex n := by
  have := ex_lt n
  simp only [al, UInt8.toNat_ofNat']
  omega
theorem gm_al (n m : Nat) : gm (al n) (al m) = al (n + m) := u8_ext (by rw [gm_nat, al_nat, al_nat, al_nat, mul_ex_ex])
theorem al_inj (n m : Nat) : al n = al m ↔ n % 255 = m % 255 := by
  rw [← ex_inj, ← al_nat n, ← al_nat m]
  exact ⟨fun h => by rw [h], fun h => u8_ext h⟩
theorem al_zero : al 0 = 1 := rfl
theorem al_ne (n : Nat) : al n ≠ 0 := fun h => ex_ne n (by rw [← al_nat, h]; rfl)
theorem px_al (n k : Nat) : px (al n) k = al (n * k) := by
  induction k with
  | zero => rfl
  | succ k ih => rw [px, ih, gm_al, Nat.mul_succ]
theorem px_ne {x : UInt8} (h : x ≠ 0) (k : Nat) : px x k ≠ 0 := by
  induction k with
  | zero => exact (by decide : (1 : UInt8) ≠ 0)
  | succ k ih =>
    rw [px]
    intro e
    exact h ((gm_eq_zero _ _ ih).1 e)
/-- Horner's rule, the highest power first -/
def hv (x : UInt8) (w : List UInt8) : UInt8 := w.foldl (fun v c => gm v x ^^^ c) 0
theorem hv_from (x : UInt8) (w : List UInt8) (v : UInt8) : w.foldl (fun v c => gm v x ^^^ c) v = gm v (px x w.length) ^^^ hv x w := by
  unfold hv
  induction w generalizing v with
  | nil => simp [px, gm_one]
  | cons c w ih =>
    simp only [List.foldl_cons, List.length_cons]
    rw [ih, ih (gm 0 x ^^^ c), px, zero_gm, UInt8.zero_xor, xor_gm, gm_assoc, gm_comm x (px x w.length), UInt8.xor_assoc]
theorem hv_cons (x c : UInt8) (w : List UInt8) : hv x (c :: w) = gm c (px x w.length) ^^^ hv x w := by
  show (c :: w).foldl _ 0 = _
  rw [List.foldl_cons, hv_from, zero_gm, UInt8.zero_xor]
theorem hv_app (x : UInt8) (a b : List UInt8) : hv x (a ++ b) = gm (hv x a) (px x b.length) ^^^ hv x b := by
  show (a ++ b).foldl _ 0 = _
  rw [List.foldl_append, hv_from]
  rfl
theorem hv_snoc (x c : UInt8) (w : List UInt8) : hv x (w ++ [c]) = gm (hv x w) x ^^^ c := by
  unfold hv
  rw [List.foldl_append]
  rfl
theorem hv_zeros (x : UInt8) (n : Nat) : hv x (List.replicate n 0) = 0 := by
  induction n with
  | zero => rfl
  | succ n ih => rw [List.replicate_succ, hv_cons, ih, zero_gm]; rfl
theorem hv_scale (x a : UInt8) (w : List UInt8) : hv x (w.map (gm a)) = gm a (hv x w) := by
  induction w with
  | nil => exact (gm_zero a).symm
  | cons c w ih => rw [List.map_cons, hv_cons, hv_cons, ih, List.length_map, gm_xor, gm_assoc]
/-- the sum of two words of one length -/
def sumW (a b : List UInt8) : List UInt8 := List.zipWith (· ^^^ ·) a b
theorem hv_sum (x : UInt8) (a b : List UInt8) (h : a.length = b.length) : hv x (sumW a b) = hv x a ^^^ hv x b := by
  induction a generalizing b with
  | nil =>
    cases b with
    | nil => exact (by decide : (0 : UInt8) = 0 ^^^ 0)
    | cons d b => cases h
  | cons c a ih =>
    cases b with
    | nil => cases h
    | cons d b =>
      have h := Nat.succ.inj h
      show hv x ((c ^^^ d) :: sumW a b) = _
      rw [hv_cons, ih b h, hv_cons, hv_cons, xor_gm, show (sumW a b).length = a.length by simp [sumW, h], ← h, xor_swap]
end Gf
theorem evL_cons (x c : UInt8) (g : List UInt8) : evL (c :: g) x = c ^^^ Gf.gm (evL g x) x := by
  unfold evL Gf.ev
  rw [List.length_cons, Gf.sm_left]
  have e : ∀ i, Gf.gm (co (c :: g) (i + 1)) (Gf.px x (i + 1)) = Gf.gm x (Gf.gm (co g i) (Gf.px x i)) := fun i => by
    rw [show co (c :: g) (i + 1) = co g i by simp [co], Gf.px, ← Gf.gm_assoc, Gf.gm_comm]
  rw [Gf.sm_congr (G := fun i => Gf.gm x (Gf.gm (co g i) (Gf.px x i))) (fun i _ => e i), Gf.sm_gm, Gf.gm_comm x]
  congr 1
  show Gf.gm c 1 = c
  exact Gf.gm_one c
theorem hv_reverse (x : UInt8) (g : List UInt8) : Gf.hv x g.reverse = evL g x := by
  induction g with
  | nil => rfl
  | cons c g ih => rw [List.reverse_cons, Gf.hv_snoc, ih, evL_cons, UInt8.xor_comm]
namespace Gf
/-- a sum over pairs: number times value to the power j -/
def ls (l : List (UInt8 × UInt8)) (j : Nat) : UInt8 := l.foldr (fun e s => gm e.1 (px e.2 j) ^^^ s) 0
theorem ls_cons (e : UInt8 × UInt8) (l : List (UInt8 × UInt8)) (j : Nat) : ls (e :: l) j = gm e.1 (px e.2 j) ^^^ ls l j := rfl
theorem ls_zero {l : List (UInt8 × UInt8)} (h : ∀ e ∈ l, e.1 = 0) (j : Nat) : ls l j = 0 := by
  induction l with
  | nil => rfl
  | cons e l ih => rw [ls_cons, h e (by simp), zero_gm, ih (fun e he => h e (by simp [he]))]; rfl
theorem ls_turn (y : UInt8) (l : List (UInt8 × UInt8)) (j : Nat) : ls (l.map fun d => (gm d.1 (d.2 ^^^ y), d.2)) j = ls l (j + 1) ^^^ gm y (ls l j) := by
  induction l with
  | nil =>
    show (0 : UInt8) = 0 ^^^ gm y 0
    rw [gm_zero]; rfl
  | cons e l ih =>
    rw [List.map_cons, ls_cons, ls_cons, ls_cons, ih]
    dsimp only
    rw [gm_xor e.1 e.2 y, gm_xor y, xor_swap (gm e.1 (px e.2 (j + 1)))]
    congr 1
    rw [xor_gm, px, gm_assoc, gm_comm e.2, ← gm_assoc y, gm_comm y e.1]
theorem vander : ∀ (l : List (UInt8 × UInt8)), (l.map (·.2)).Nodup → (∀ j, j < l.length → ls l j = 0) → ∀ e ∈ l, e.1 = 0 := by
  intro l
  generalize hn : l.length = n
  induction n generalizing l with
  | zero =>
    intro _ _ e he
    rw [List.eq_nil_of_length_eq_zero hn] at he
    cases he
  | succ n ih =>
    cases l with
    | nil => cases hn
    | cons e l =>
      intro hnd h
      have hl : l.length = n := by simpa using hn
      rw [List.map_cons, List.nodup_cons] at hnd
      have h1 := ih (l.map fun d => (gm d.1 (d.2 ^^^ e.2), d.2)) (by simpa using hl) (by simpa [Function.comp_def] using hnd.2) fun j hj => by
        have h2 := h (j + 1) (by omega)
        have h3 := h j (by omega)
        rw [ls_cons] at h2 h3
        rw [ls_turn]
        have e2 : ls l (j + 1) = gm e.1 (px e.2 (j + 1)) := (xor_eq_zero _ _ h2).symm
        have e3 : ls l j = gm e.1 (px e.2 j) := (xor_eq_zero _ _ h3).symm
        rw [e2, e3, px, ← gm_assoc, gm_comm _ e.2, UInt8.xor_self]
      have h4 : ∀ d ∈ l, d.1 = 0 := by
        intro d hd
        have h5 := h1 (gm d.1 (d.2 ^^^ e.2), d.2) (List.mem_map.2 ⟨d, hd, rfl⟩)
        by_cases h0 : d.2 ^^^ e.2 = 0
        · exact absurd (List.mem_map.2 ⟨d, hd, xor_eq_zero _ _ h0⟩) hnd.1
        · rw [gm_comm] at h5
          exact (gm_eq_zero _ _ h0).1 h5
      intro d hd
      rcases List.mem_cons.1 hd with rfl | hd
      · have h6 := h 0 (by omega)
        rw [ls_cons, ls_zero h4, UInt8.xor_zero] at h6
        rw [show px d.2 0 = 1 from rfl, gm_one] at h6
        exact h6
      · exact h4 d hd
/-- a word's symbols with the values that stand for their places -/
def pr : List UInt8 → List (UInt8 × UInt8)
  | [] => []
  | c :: w => (c, al w.length) :: pr w
theorem ls_pr (w : List UInt8) (j : Nat) : ls (pr w) j = hv (al j) w := by
  induction w with
  | nil => rfl
  | cons c w ih => rw [pr, ls_cons, ih, hv_cons, px_al, px_al, Nat.mul_comm]
theorem mem_pr {w : List UInt8} {e : UInt8 × UInt8} (h : e ∈ pr w) : ∃ k, k < w.length ∧ e.2 = al k := by
  induction w with
  | nil => cases h
  | cons c w ih =>
    rw [pr] at h
    rcases List.mem_cons.1 h with rfl | h
    · exact ⟨w.length, by simp, rfl⟩
    · obtain ⟨k, hk, he⟩ := ih h
      exact ⟨k, by simp; omega, he⟩
theorem pr_nodup (w : List UInt8) (h : w.length ≤ 255) : ((pr w).map (·.2)).Nodup := by
  induction w with
  | nil => exact List.nodup_nil
  | cons c w ih =>
    simp at h
    rw [pr, List.map_cons, List.nodup_cons]
    refine ⟨fun hm => ?_, ih (by omega)⟩
    obtain ⟨e, he, h2⟩ := List.mem_map.1 hm
    obtain ⟨k, hk, h3⟩ := mem_pr he
    rw [h3] at h2
    have := (al_inj _ _).1 h2
    omega
theorem ls_filter (l : List (UInt8 × UInt8)) (j : Nat) : ls (l.filter (fun e => e.1 != 0)) j = ls l j := by
  induction l with
  | nil => rfl
  | cons e l ih =>
    rw [List.filter_cons]
    split
    · rw [ls_cons, ls_cons, ih]
    · rename_i h
      have h0 : e.1 = 0 := by simpa using h
      rw [ls_cons, h0, zero_gm, UInt8.zero_xor, ih]
theorem pr_weight (w : List UInt8) : ((pr w).filter (fun e => e.1 != 0)).length = w.countP (· != 0) := by
  induction w with
  | nil => rfl
  | cons c w ih =>
    rw [pr, List.filter_cons, List.countP_cons]
    split
    · rename_i h
      have h : (c != 0) = true := h
      rw [List.length_cons, ih]
    · rename_i h
      have h : ¬ (c != 0) = true := h
      rw [ih]
      simp
theorem pr_fst (w : List UInt8) : (pr w).map (·.1) = w := by
  induction w with
  | nil => rfl
  | cons c w ih => rw [pr, List.map_cons, ih]
/-- a word of 255 symbols at most, with 32 at most that aren't 0 and the first so many powers as roots, has none -/
theorem few_zero (w : List UInt8) (n : Nat) (hl : w.length ≤ 255) (hw : w.countP (· != 0) ≤ n) (h : ∀ j, j < n → hv (al j) w = 0) : ∀ c ∈ w, c = 0 := by
  have hv := vander ((pr w).filter (fun e => e.1 != 0)) ((List.filter_sublist.map _).nodup (pr_nodup w hl)) fun j hj => by
    rw [pr_weight] at hj
    rw [ls_filter, ls_pr]
    exact h j (by omega)
  intro c hc
  rw [← pr_fst w] at hc
  obtain ⟨e, he, rfl⟩ := List.mem_map.1 hc
  by_cases h0 : e.1 = 0
  · exact h0
  · exact hv e (List.mem_filter.2 ⟨he, by simpa using h0⟩)
end Gf
/-- it is a code word: the first 32 powers are roots -/
def IsCode (w : List UInt8) : Prop := ∀ j, j < 32 → Gf.hv (Gf.al j) w = 0
instance (w : List UInt8) : Decidable (IsCode w) := inferInstanceAs (Decidable (∀ j, j < 32 → _))
theorem IsCode.sum {a b : List UInt8} (h : IsCode a) (k : IsCode b) (hl : a.length = b.length) : IsCode (Gf.sumW a b) := fun j hj => by
  rw [Gf.hv_sum _ _ _ hl, h j hj, k j hj]; rfl
theorem IsCode.scale {a : List UInt8} (h : IsCode a) (x : UInt8) : IsCode (a.map (Gf.gm x)) := fun j hj => by
  rw [Gf.hv_scale, h j hj, Gf.gm_zero]
theorem sumW_zero {a b : List UInt8} (hl : a.length = b.length) (h : ∀ c ∈ Gf.sumW a b, c = 0) : a = b := by
  induction a generalizing b with
  | nil =>
    cases b with
    | nil => rfl
    | cons d b => cases hl
  | cons c a ih =>
    cases b with
    | nil => cases hl
    | cons d b =>
      have e : Gf.sumW (c :: a) (d :: b) = (c ^^^ d) :: Gf.sumW a b := rfl
      rw [e] at h
      rw [Gf.xor_eq_zero c d (h _ (by simp)), ih (Nat.succ.inj hl) (fun x hx => h x (by simp [hx]))]
/-- how many places differ -/
def diffs (a b : List UInt8) : Nat := (Gf.sumW a b).countP (· != 0)
/-- code words of one length that differ in 32 places or fewer are the same -/
theorem IsCode.apart {a b : List UInt8} (h : IsCode a) (k : IsCode b) (hl : a.length = b.length) (hn : a.length ≤ 255) (hd : diffs a b ≤ 32) : a = b :=
  sumW_zero hl (Gf.few_zero _ 32 (by simp [Gf.sumW]; omega) hd (h.sum k hl))
theorem sumW_app (a b r s : List UInt8) (h : a.length = b.length) : Gf.sumW (a ++ r) (b ++ s) = Gf.sumW a b ++ Gf.sumW r s := List.zipWith_append h
theorem sumW_self (a : List UInt8) : Gf.sumW a a = List.replicate a.length 0 := by
  induction a with
  | nil => rfl
  | cons c a ih =>
    show (c ^^^ c) :: Gf.sumW a a = _
    rw [UInt8.xor_self, ih, List.length_cons, List.replicate_succ]
/-- what stands behind data in their code word is the only such row -/
theorem IsCode.only {d r s : List UInt8} (h : IsCode (d ++ r)) (k : IsCode (d ++ s)) (hr : r.length = 32) (hs : s.length = 32) (hn : d.length ≤ 223) : r = s := by
  have e := h.apart k (by simp [hr, hs]) (by simp [hr]; omega) (by
    unfold diffs
    rw [sumW_app _ _ _ _ rfl, sumW_self, List.countP_append]
    have h1 : (List.replicate d.length (0 : UInt8)).countP (· != 0) = 0 := by
      rw [List.countP_eq_zero]
      intro c hc
      rw [(List.mem_replicate.1 hc).2]
      decide
    have h2 : (Gf.sumW r s).countP (· != 0) ≤ (Gf.sumW r s).length := List.countP_le_length
    have h3 : (Gf.sumW r s).length = 32 := by simp [Gf.sumW, hr, hs]
    omega)
  exact List.append_cancel_left e
end Go.Proofs.Ytkkmgjjafbjnjaa
