/- Plain mathematics: bytes as the field's numbers, sums, polynomials as functions of the place. -/
import Derived.Test.YtkkmgjjafbjnjaaGf
namespace Go.Proofs.Ytkkmgjjafbjnjaa
set_option linter.unusedVariables false
set_option linter.unusedSimpArgs false
namespace Gf
/-- the field's product of bytes -/
def gm (a b : UInt8) : UInt8 := UInt8.ofNat (mul a.toNat b.toNat)
theorem gm_nat (a b : UInt8) : (gm a b).toNat = mul a.toNat b.toNat := by
  have := mul_lt a.toNat b.toNat (UInt8.toNat_lt a)
  simp only [gm, UInt8.toNat_ofNat']
  omega
theorem u8_ext {a b : UInt8} (h : a.toNat = b.toNat) : a = b := UInt8.toNat_inj.1 h
theorem gm_comm (a b : UInt8) : gm a b = gm b a := u8_ext (by rw [gm_nat, gm_nat, mul_comm _ _ (UInt8.toNat_lt a) (UInt8.toNat_lt b)])
theorem gm_assoc (a b c : UInt8) : gm (gm a b) c = gm a (gm b c) := u8_ext (by
  rw [gm_nat, gm_nat, gm_nat, gm_nat, mul_assoc _ _ _ (UInt8.toNat_lt a) (UInt8.toNat_lt b) (UInt8.toNat_lt c)])
theorem gm_zero (a : UInt8) : gm a 0 = 0 := u8_ext (by rw [gm_nat]; exact mul_zero_right _)
theorem zero_gm (a : UInt8) : gm 0 a = 0 := by rw [gm_comm, gm_zero]
theorem one_gm (a : UInt8) : gm 1 a = a := u8_ext (by rw [gm_nat]; exact mul_one_left _ (UInt8.toNat_lt a))
theorem gm_one (a : UInt8) : gm a 1 = a := by rw [gm_comm, one_gm]
theorem gm_xor (a b c : UInt8) : gm a (b ^^^ c) = gm a b ^^^ gm a c := u8_ext (by
  rw [gm_nat, UInt8.toNat_xor, UInt8.toNat_xor, gm_nat, gm_nat, mul_xor_right _ _ _ (UInt8.toNat_lt a) (UInt8.toNat_lt b) (UInt8.toNat_lt c)])
theorem xor_gm (a b c : UInt8) : gm (a ^^^ b) c = gm a c ^^^ gm b c := by rw [gm_comm, gm_xor, gm_comm c a, gm_comm c b]
theorem gm_eq_zero (a b : UInt8) (h : a ≠ 0) : gm a b = 0 ↔ b = 0 := by
  have h0 : a.toNat ≠ 0 := fun e => h (u8_ext e)
  have := mul_eq_zero a.toNat b.toNat (UInt8.toNat_lt a) (UInt8.toNat_lt b) h0
  constructor
  · intro e; exact u8_ext (this.1 (by rw [← gm_nat, e]; rfl))
  · intro e; rw [e, gm_zero]
theorem xor_swap (a b c d : UInt8) : (a ^^^ b) ^^^ (c ^^^ d) = (a ^^^ c) ^^^ (b ^^^ d) := by
  rw [UInt8.xor_assoc, UInt8.xor_assoc, ← UInt8.xor_assoc b c d, UInt8.xor_comm b c, UInt8.xor_assoc c b d]
theorem xor_cancel (a b : UInt8) : (a ^^^ b) ^^^ b = a := by rw [UInt8.xor_assoc, UInt8.xor_self, UInt8.xor_zero]
theorem xor_eq_zero (a b : UInt8) (h : a ^^^ b = 0) : a = b := by
  have := xor_cancel a b
  rw [h, UInt8.zero_xor] at this; exact this.symm
/-- a sum -/
def sm (F : Nat → UInt8) : Nat → UInt8
  | 0 => 0
  | n + 1 => sm F n ^^^ F n
theorem sm_congr {F G : Nat → UInt8} {n : Nat} (h : ∀ i, i < n → F i = G i) : sm F n = sm G n := by
  induction n with
  | zero => rfl
  | succ n ih => rw [sm, sm, ih (fun i hi => h i (by omega)), h n (by omega)]
theorem sm_zero {F : Nat → UInt8} {n : Nat} (h : ∀ i, i < n → F i = 0) : sm F n = 0 := by
  induction n with
  | zero => rfl
  | succ n ih => rw [sm, ih (fun i hi => h i (by omega)), h n (by omega)]; rfl
theorem sm_xor (F G : Nat → UInt8) (n : Nat) : sm (fun i => F i ^^^ G i) n = sm F n ^^^ sm G n := by
  induction n with
  | zero => exact UInt8.xor_zero.symm
  | succ n ih => rw [sm, sm, sm, ih, xor_swap]
theorem sm_gm (a : UInt8) (F : Nat → UInt8) (n : Nat) : sm (fun i => gm a (F i)) n = gm a (sm F n) := by
  induction n with
  | zero => rw [sm, sm, gm_zero]
  | succ n ih => rw [sm, sm, ih, gm_xor]
theorem sm_left (F : Nat → UInt8) (n : Nat) : sm F (n + 1) = F 0 ^^^ sm (fun i => F (i + 1)) n := by
  induction n with
  | zero => rw [sm, sm, sm, UInt8.zero_xor, UInt8.xor_zero]
  | succ n ih => rw [sm, ih, sm, UInt8.xor_assoc]
theorem sm_more {F : Nat → UInt8} {n m : Nat} (hn : n ≤ m) (h : ∀ i, n ≤ i → F i = 0) : sm F m = sm F n := by
  induction m with
  | zero => rw [show n = 0 by omega]
  | succ m ih =>
    by_cases e : n = m + 1
    · rw [e]
    · rw [sm, ih (by omega), h m (by omega), UInt8.xor_zero]
theorem sm_add (F : Nat → UInt8) (n m : Nat) : sm F (n + m) = sm F n ^^^ sm (fun i => F (n + i)) m := by
  induction m with
  | zero => rw [Nat.add_zero, sm, UInt8.xor_zero]
  | succ m ih => rw [← Nat.add_assoc, sm, ih, sm, UInt8.xor_assoc]
/-- times x to the power n -/
def ps (n : Nat) (g : Nat → UInt8) (k : Nat) : UInt8 := if n ≤ k then g (k - n) else 0
/-- the product of f, of n coefficients, and g -/
def pm (n : Nat) (f g : Nat → UInt8) (k : Nat) : UInt8 := sm (fun i => gm (f i) (ps i g k)) n
theorem pm_succ (n : Nat) (f g : Nat → UInt8) (k : Nat) : pm (n + 1) f g k = pm n f g k ^^^ gm (f n) (ps n g k) := rfl
theorem pm_more {n m : Nat} {f g : Nat → UInt8} (hn : n ≤ m) (h : ∀ i, n ≤ i → f i = 0) (k : Nat) : pm m f g k = pm n f g k :=
  sm_more hn (fun i hi => by rw [h i hi, zero_gm])
/-- by definition, coefficient by coefficient -/
theorem pm_def {n : Nat} {f g : Nat → UInt8} (h : ∀ i, n ≤ i → f i = 0) (k : Nat) : pm n f g k = sm (fun i => gm (f i) (g (k - i))) (k + 1) := by
  have h1 : pm n f g k = pm (n + (k + 1)) f g k := (pm_more (by omega) h k).symm
  rw [h1]; unfold pm
  rw [sm_more (n := k + 1) (by omega) (fun i hi => by rw [show ps i g k = 0 from if_neg (by omega), gm_zero])]
  exact sm_congr fun i hi => by rw [show ps i g k = g (k - i) from if_pos (by omega)]
theorem pm_zero_of {n m : Nat} {f g : Nat → UInt8} (hg : ∀ i, m ≤ i → g i = 0) (k : Nat) (hk : n + m ≤ k + 1) (h : 0 < n ∨ 0 < m ∨ True) : n + m ≤ k → pm n f g k = 0 := fun hk =>
  sm_zero fun i hi => by
    rw [show ps i g k = 0 from by unfold ps; split <;> first | exact hg _ (by omega) | rfl, gm_zero]
/-- a power -/
def px (x : UInt8) : Nat → UInt8
  | 0 => 1
  | n + 1 => gm (px x n) x
theorem px_add (x : UInt8) (n m : Nat) : px x (n + m) = gm (px x n) (px x m) := by
  induction m with
  | zero => rw [Nat.add_zero, px, gm_one]
  | succ m ih => rw [← Nat.add_assoc, px, ih, px, gm_assoc]
/-- the value of f, of n coefficients -/
def ev (n : Nat) (f : Nat → UInt8) (x : UInt8) : UInt8 := sm (fun i => gm (f i) (px x i)) n
theorem ev_congr {n : Nat} {f g : Nat → UInt8} {x : UInt8} (h : ∀ i, i < n → f i = g i) : ev n f x = ev n g x := sm_congr fun i hi => by rw [h i hi]
theorem ev_more {n m : Nat} {f : Nat → UInt8} {x : UInt8} (hn : n ≤ m) (h : ∀ i, n ≤ i → f i = 0) : ev m f x = ev n f x := sm_more hn (fun i hi => by rw [h i hi, zero_gm])
theorem ev_xor (n : Nat) (f g : Nat → UInt8) (x : UInt8) : ev n (fun i => f i ^^^ g i) x = ev n f x ^^^ ev n g x := by
  unfold ev
  rw [← sm_xor]
  exact sm_congr fun i _ => xor_gm _ _ _
theorem ev_gm (n : Nat) (a : UInt8) (f : Nat → UInt8) (x : UInt8) : ev n (fun i => gm a (f i)) x = gm a (ev n f x) := by
  unfold ev
  rw [← sm_gm]
  exact sm_congr fun i _ => gm_assoc _ _ _
theorem ev_ps (n m : Nat) (g : Nat → UInt8) (x : UInt8) : ev (n + m) (ps n g) x = gm (px x n) (ev m g x) := by
  unfold ev
  rw [sm_add, sm_zero (fun i hi => by rw [show ps n g i = 0 from if_neg (by omega), zero_gm]), UInt8.zero_xor, ← sm_gm]
  refine sm_congr fun i _ => ?_
  rw [show ps n g (n + i) = g i from by unfold ps; rw [if_pos (by omega)]; congr 1; omega, px_add, ← gm_assoc, ← gm_assoc, gm_comm (g i)]
/-- the value of a product -/
theorem ev_pm {n m N : Nat} {f g : Nat → UInt8} (hg : ∀ i, m ≤ i → g i = 0) (hN : n + m ≤ N) (x : UInt8) : ev N (pm n f g) x = gm (ev n f x) (ev m g x) := by
  induction n with
  | zero =>
    rw [show ev 0 f x = 0 from rfl, zero_gm]
    exact sm_zero fun i _ => by rw [show pm 0 f g i = 0 from rfl, zero_gm]
  | succ n ih =>
    have h1 : ev N (pm (n + 1) f g) x = ev N (fun k => pm n f g k ^^^ gm (f n) (ps n g k)) x := rfl
    have h2 : ev N (ps n g) x = gm (px x n) (ev m g x) := by
      rw [← ev_ps]
      refine ev_more (by omega) fun i hi => ?_
      unfold ps; rw [if_pos (by omega)]; exact hg _ (by omega)
    rw [h1, ev_xor, ev_gm, ih (by omega), h2, show ev (n + 1) f x = ev n f x ^^^ gm (f n) (px x n) from rfl, xor_gm, gm_assoc]
/-- Horner's way, from the last coefficient down -/
def horner (f : Nat → UInt8) (x : UInt8) : Nat → Nat → UInt8
  | 0, _ => 0
  | c + 1, i => gm (horner f x c (i + 1)) x ^^^ f i
theorem horner_ev (f : Nat → UInt8) (x : UInt8) (c i : Nat) : horner f x c i = ev c (fun j => f (i + j)) x := by
  induction c generalizing i with
  | zero => rfl
  | succ c ih =>
    rw [horner, ih]
    unfold ev
    rw [sm_left, show px x 0 = 1 from rfl, gm_one, Nat.add_zero, UInt8.xor_comm, gm_comm _ x, ← sm_gm]
    congr 1
    refine sm_congr fun j _ => ?_
    dsimp only
    rw [px, show i + 1 + j = i + (j + 1) by omega, gm_comm (px x j) x, ← gm_assoc, ← gm_assoc, gm_comm x]
/-- the derivative -/
def pd (f : Nat → UInt8) (i : Nat) : UInt8 := if i % 2 = 0 then f (i + 1) else 0
theorem pd_xor (f g : Nat → UInt8) (i : Nat) : pd (fun k => f k ^^^ g k) i = pd f i ^^^ pd g i := by
  unfold pd; split
  · rfl
  · rfl
theorem pd_gm (a : UInt8) (f : Nat → UInt8) (i : Nat) : pd (fun k => gm a (f k)) i = gm a (pd f i) := by
  unfold pd; split
  · rfl
  · rw [gm_zero]
theorem pd_ps (n : Nat) (g : Nat → UInt8) (k : Nat) : pd (ps n g) k = (if n % 2 = 1 then ps (n - 1) g k else 0) ^^^ ps n (pd g) k := by
  unfold pd ps
  dsimp only
  by_cases hk : k % 2 = 0
  · rw [if_pos hk]
    by_cases hn : n % 2 = 1
    · rw [if_pos hn]
      by_cases h1 : n ≤ k + 1
      · rw [if_pos h1, if_pos (show n - 1 ≤ k by omega), show k - (n - 1) = k + 1 - n by omega]
        by_cases h2 : n ≤ k
        · rw [if_pos h2, if_neg (by omega), UInt8.xor_zero]
        · rw [if_neg h2, UInt8.xor_zero]
      · rw [if_neg h1, if_neg (show ¬ n - 1 ≤ k by omega), if_neg (by omega)]; rfl
    · rw [if_neg hn, UInt8.zero_xor]
      by_cases h2 : n ≤ k
      · rw [if_pos (by omega), if_pos h2, if_pos (by omega), show k - n + 1 = k + 1 - n by omega]
      · rw [if_neg (by omega), if_neg h2]
  · rw [if_neg hk]
    by_cases hn : n % 2 = 1
    · rw [if_pos hn]
      by_cases h2 : n ≤ k
      · rw [if_pos (by omega), if_pos h2, if_pos (by omega), show k - (n - 1) = k - n + 1 by omega, UInt8.xor_self]
      · rw [if_neg (by omega), if_neg h2]; rfl
    · rw [if_neg hn, UInt8.zero_xor]
      by_cases h2 : n ≤ k
      · rw [if_pos h2, if_neg (by omega)]
      · rw [if_neg h2]
theorem pd_pm (n : Nat) (f g : Nat → UInt8) (k : Nat) : pd (pm n f g) k = sm (fun i => gm (f i) (if i % 2 = 1 then ps (i - 1) g k else 0)) n ^^^ pm n f (pd g) k := by
  induction n with
  | zero =>
    have h : pd (pm 0 f g) k = 0 := by unfold pd; split <;> rfl
    rw [h]
    show (0 : UInt8) = 0 ^^^ 0
    rfl
  | succ n ih =>
    rw [show pd (pm (n + 1) f g) k = pd (fun k => pm n f g k ^^^ (fun k => gm (f n) (ps n g k)) k) k from rfl, pd_xor, ih, pd_gm, pd_ps, gm_xor, sm, pm_succ, xor_swap]
theorem pd_terms (n : Nat) (f g : Nat → UInt8) (k : Nat) : sm (fun i => gm (f i) (if i % 2 = 1 then ps (i - 1) g k else 0)) (n + 1) = pm n (pd f) g k := by
  rw [sm_left, show (if 0 % 2 = 1 then ps (0 - 1) g k else 0) = (0 : UInt8) from rfl, gm_zero, UInt8.zero_xor]
  refine sm_congr fun i _ => ?_
  unfold pd
  by_cases h : i % 2 = 0
  · rw [if_pos h, if_pos (by omega), Nat.add_sub_cancel]
  · rw [if_neg h, if_neg (by omega), gm_zero, zero_gm]
/-- the derivative of a product -/
theorem leibniz {n : Nat} {f g : Nat → UInt8} (hf : ∀ i, n ≤ i → f i = 0) (k : Nat) : pd (pm n f g) k = pm n (pd f) g k ^^^ pm n f (pd g) k := by
  have h1 : pd (pm n f g) k = pd (pm (n + 1) f g) k := by
    rw [show pm (n + 1) f g = pm n f g from funext fun k => pm_more (by omega) hf k]
  rw [h1, pd_pm, pd_terms, pm_more (by omega) hf]
end Gf
/-! ### Lists -/
/-- the coefficient at a place -/
def co (z : List UInt8) (i : Nat) : UInt8 := z.getD i 0
theorem co_ge {z : List UInt8} {i : Nat} (h : z.length ≤ i) : co z i = 0 := by simp [co, List.getD_eq_getElem?_getD, List.getElem?_eq_none h]
/-- how many are left without the noughts at the end, of the first n -/
def tl (z : List UInt8) : Nat → Nat
  | 0 => 0
  | n + 1 => if co z n = 0 then tl z n else n + 1
theorem tl_le (z : List UInt8) (n : Nat) : tl z n ≤ n := by
  induction n with
  | zero => exact Nat.le_refl _
  | succ n ih => rw [tl]; split <;> omega
theorem tl_zero (z : List UInt8) (n i : Nat) (h : tl z n ≤ i) (hi : i < n) : co z i = 0 := by
  induction n with
  | zero => omega
  | succ n ih =>
    rw [tl] at h
    split at h
    · by_cases e : i = n
      · subst e; assumption
      · exact ih h (by omega)
    · omega
theorem tl_top (z : List UInt8) (n : Nat) (h : tl z n ≠ 0) : co z (tl z n - 1) ≠ 0 := by
  induction n with
  | zero => exact absurd rfl h
  | succ n ih =>
    rw [tl] at h ⊢
    split
    · rw [if_pos (by assumption)] at h; exact ih h
    · rw [Nat.add_sub_cancel]; assumption
theorem tl_unique (z : List UInt8) (n m : Nat) (hm : m ≤ n) (h1 : ∀ i, m ≤ i → i < n → co z i = 0) (h2 : m ≠ 0 → co z (m - 1) ≠ 0) : tl z n = m := by
  have a := tl_le z n
  rcases Nat.lt_trichotomy (tl z n) m with h | h | h
  · exact absurd (tl_zero z n (m - 1) (by omega) (by omega)) (h2 (by omega))
  · exact h
  · exact absurd (h1 (tl z n - 1) (by omega) (by omega)) (tl_top z n (by omega))
/-- the trimmed list -/
def tr (z : List UInt8) : List UInt8 := z.take (tl z z.length)
theorem tr_length (z : List UInt8) : (tr z).length = tl z z.length := by
  have := tl_le z z.length
  simp only [tr, List.length_take]; omega
theorem tr_le (z : List UInt8) : (tr z).length ≤ z.length := by rw [tr_length]; exact tl_le _ _
theorem co_take (z : List UInt8) (n i : Nat) : co (z.take n) i = if i < n then co z i else 0 := by
  unfold co
  by_cases h : i < n
  · rw [if_pos h]; simp [List.getD_eq_getElem?_getD, List.getElem?_take_of_lt h]
  · rw [if_neg h, List.getD_eq_getElem?_getD, List.getElem?_eq_none (by simp; omega)]; rfl
theorem co_tr (z : List UInt8) (i : Nat) : co (tr z) i = co z i := by
  unfold tr
  rw [co_take]
  split
  · rfl
  · by_cases h : i < z.length
    · exact (tl_zero z z.length i (by omega) h).symm
    · exact (co_ge (by omega)).symm
theorem list_ext {a b : List UInt8} (hl : a.length = b.length) (h : ∀ i, i < a.length → co a i = co b i) : a = b := by
  refine List.ext_getElem hl fun i h1 h2 => ?_
  have := h i h1
  simpa [co, List.getD_eq_getElem?_getD, h1, h2] using this
theorem tl_more (z : List UInt8) (n : Nat) (h : z.length ≤ n) : tl z n = tl z z.length := by
  have a := tl_le z z.length
  refine tl_unique z n _ (by omega) (fun i h1 h2 => ?_) (fun h => tl_top z _ h)
  by_cases e : i < z.length
  · exact tl_zero z z.length i h1 e
  · exact co_ge (by omega)
theorem tl_congr (a b : List UInt8) (n : Nat) (h : ∀ i, co a i = co b i) : tl a n = tl b n := by
  induction n with
  | zero => rfl
  | succ n ih => rw [tl, tl, h n, ih]
/-- trimmed lists are told by their coefficients -/
theorem tr_congr {a b : List UInt8} (h : ∀ i, co a i = co b i) : tr a = tr b := by
  have e : tl a a.length = tl b b.length := by
    rw [← tl_more a (a.length + b.length) (by omega), ← tl_more b (a.length + b.length) (by omega)]
    exact tl_congr a b _ h
  refine list_ext (by rw [tr_length, tr_length, e]) fun i _ => by rw [co_tr, co_tr, h]
theorem tr_tr (z : List UInt8) : tr (tr z) = tr z := tr_congr fun i => co_tr z i
/-- the list of the first n values of a function -/
def tab (f : Nat → UInt8) (n : Nat) : List UInt8 := (List.range n).map f
@[simp] theorem tab_length (f : Nat → UInt8) (n : Nat) : (tab f n).length = n := by simp [tab]
theorem co_tab (f : Nat → UInt8) (n i : Nat) (h : i < n) : co (tab f n) i = f i := by
  simp [co, tab, List.getD_eq_getElem?_getD, List.getElem?_range h]
theorem co_tab' (f : Nat → UInt8) (n i : Nat) (h : ∀ j, n ≤ j → f j = 0) : co (tab f n) i = f i := by
  by_cases e : i < n
  · exact co_tab f n i e
  · rw [co_ge (by simpa using e), h i (by omega)]
def addL (p q : List UInt8) : List UInt8 := tab (fun i => co p i ^^^ co q i) (max p.length q.length)
def scaleL (p : List UInt8) (a : UInt8) : List UInt8 := tab (fun i => Gf.gm (co p i) a) p.length
def shiftL (p : List UInt8) (n : Nat) : List UInt8 := List.replicate n 0 ++ p
def slopeL (p : List UInt8) : List UInt8 := tab (Gf.pd (co p)) p.length
def mulL (p q : List UInt8) : List UInt8 := tab (Gf.pm p.length (co p) (co q)) (p.length + q.length)
def evL (p : List UInt8) (x : UInt8) : UInt8 := Gf.ev p.length (co p) x
theorem co_addL (p q : List UInt8) (i : Nat) : co (addL p q) i = co p i ^^^ co q i :=
  co_tab' _ _ _ fun j hj => by rw [co_ge (by omega), co_ge (by omega)]; rfl
theorem co_scaleL (p : List UInt8) (a : UInt8) (i : Nat) : co (scaleL p a) i = Gf.gm (co p i) a :=
  co_tab' _ _ _ fun j hj => by rw [co_ge hj, Gf.zero_gm]
theorem co_slopeL (p : List UInt8) (i : Nat) : co (slopeL p) i = Gf.pd (co p) i :=
  co_tab' _ _ _ fun j hj => by unfold Gf.pd; split <;> first | exact co_ge (by omega) | rfl
theorem pm_ge (p q : List UInt8) (k : Nat) (h : p.length + q.length ≤ k) : Gf.pm p.length (co p) (co q) k = 0 :=
  Gf.sm_zero fun i hi => by
    rw [show Gf.ps i (co q) k = 0 from by unfold Gf.ps; split <;> first | exact co_ge (by omega) | rfl, Gf.gm_zero]
theorem co_mulL (p q : List UInt8) (k : Nat) : co (mulL p q) k = Gf.pm p.length (co p) (co q) k := co_tab' _ _ _ fun j hj => pm_ge p q j hj
theorem co_mulL' (p q : List UInt8) (k : Nat) : co (mulL p q) k = Gf.sm (fun i => Gf.gm (co p i) (co q (k - i))) (k + 1) := by
  rw [co_mulL, Gf.pm_def fun i hi => co_ge hi]
theorem co_shiftL (p : List UInt8) (n i : Nat) : co (shiftL p n) i = Gf.ps n (co p) i := by
  unfold shiftL Gf.ps co
  split
  · rw [List.getD_eq_getElem?_getD, List.getElem?_append_right (by simpa using by assumption)]; simp [List.getD_eq_getElem?_getD]
  · rw [List.getD_eq_getElem?_getD, List.getElem?_append_left (by simp; omega)]; simp only [List.getElem?_replicate]; rw [if_pos (by omega)]; rfl
theorem mulL_congr {a b c d : List UInt8} (h : ∀ i, co a i = co b i) (k : ∀ i, co c i = co d i) (i : Nat) : co (mulL a c) i = co (mulL b d) i := by
  rw [co_mulL', co_mulL']
  exact Gf.sm_congr fun j _ => by rw [h, k]
theorem addL_congr {a b c d : List UInt8} (h : ∀ i, co a i = co b i) (k : ∀ i, co c i = co d i) (i : Nat) : co (addL a c) i = co (addL b d) i := by
  rw [co_addL, co_addL, h, k]
theorem evL_congr {a b : List UInt8} (h : ∀ i, co a i = co b i) (x : UInt8) : evL a x = evL b x := by
  unfold evL
  rw [← Gf.ev_more (f := co a) (n := a.length) (m := a.length + b.length) (by omega) (fun i hi => co_ge hi), ← Gf.ev_more (f := co b) (n := b.length) (m := a.length + b.length) (by omega) (fun i hi => co_ge hi)]
  exact Gf.ev_congr fun i _ => h i
theorem evL_tr (z : List UInt8) (x : UInt8) : evL (tr z) x = evL z x := evL_congr (co_tr z) x
theorem evL_mul (p q : List UInt8) (x : UInt8) : evL (mulL p q) x = Gf.gm (evL p x) (evL q x) := by
  unfold evL
  rw [← Gf.ev_pm (N := p.length + q.length) (fun i hi => co_ge hi) (Nat.le_refl _)]
  rw [show (mulL p q).length = p.length + q.length by simp [mulL]]
  exact Gf.ev_congr fun i _ => co_mulL p q i
theorem evL_add (p q : List UInt8) (x : UInt8) : evL (addL p q) x = evL p x ^^^ evL q x := by
  unfold evL
  rw [show (addL p q).length = max p.length q.length by simp [addL], ← Gf.ev_more (f := co p) (n := p.length) (m := max p.length q.length) (by omega) (fun i hi => co_ge hi), ← Gf.ev_more (f := co q) (n := q.length) (m := max p.length q.length) (by omega) (fun i hi => co_ge hi), ← Gf.ev_xor]
  exact Gf.ev_congr fun i _ => co_addL p q i
/-- the derivative of a product, of lists -/
theorem leibnizL (p q : List UInt8) (i : Nat) : co (slopeL (mulL p q)) i = co (addL (mulL (slopeL p) q) (mulL p (slopeL q))) i := by
  rw [co_addL, co_slopeL, co_mulL, co_mulL]
  rw [show co (mulL p q) = Gf.pm p.length (co p) (co q) from funext fun k => co_mulL p q k, show co (slopeL q) = Gf.pd (co q) from funext fun k => co_slopeL q k, show co (slopeL p) = Gf.pd (co p) from funext fun k => co_slopeL p k, show (slopeL p).length = p.length by simp [slopeL]]
  exact Gf.leibniz (fun i hi => co_ge hi) i
end Go.Proofs.Ytkkmgjjafbjnjaa
