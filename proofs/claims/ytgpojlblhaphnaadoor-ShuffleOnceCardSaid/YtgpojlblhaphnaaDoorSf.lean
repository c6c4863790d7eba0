/- Shuffles, plain: iterates of a map that has an inverse, what comes first below n; the steps of a key, on and back. -/
import Derived.Test.YtgpojlblhaphnaaDoorSr
namespace Go.Proofs.YtgpojlblhaphnaaDoor.Da
/-- iterates -/
def it (f : Nat → Nat) : Nat → Nat → Nat
  | 0, x => x
  | n + 1, x => it f n (f x)
theorem it_succ (f : Nat → Nat) (n x : Nat) : it f (n + 1) x = f (it f n x) := by
  induction n generalizing x with
  | zero => rfl
  | succ n ih => exact ih (f x)
theorem it_add (f : Nat → Nat) (a b x : Nat) : it f (a + b) x = it f b (it f a x) := by
  induction a generalizing x with
  | zero => rw [Nat.zero_add]; rfl
  | succ a ih => rw [Nat.succ_add]; exact ih (f x)
/-- the first iterate below n -/
def Hit (f : Nat → Nat) (n m x : Nat) : Prop := it f m x < n ∧ ∀ j, j < m → n ≤ it f j x
/-- how many steps there are yet -/
def dst (f : Nat → Nat) (n : Nat) : Nat → Nat → Nat
  | 0, _ => 0
  | q + 1, x => if x < n then 0 else dst f n q (f x) + 1
theorem Hit.step {f : Nat → Nat} {n m x : Nat} (h : Hit f n m x) (hx : n ≤ x) : ∃ m', m = m' + 1 ∧ Hit f n m' (f x) := by
  cases m with
  | zero => have := h.1; simp only [it] at this; omega
  | succ m => exact ⟨m, rfl, h.1, fun j hj => h.2 (j + 1) (by omega)⟩
theorem Hit.here {f : Nat → Nat} {n m x : Nat} (h : Hit f n m x) (hx : x < n) : m = 0 := by
  cases m with
  | zero => rfl
  | succ m => have := h.2 0 (by omega); simp only [it] at this; omega
theorem Hit.dst {f : Nat → Nat} {n m x q : Nat} (h : Hit f n m x) (hq : m ≤ q) : dst f n q x = m := by
  induction q generalizing m x with
  | zero => obtain rfl : m = 0 := by omega
            rfl
  | succ q ih =>
    unfold Da.dst
    by_cases hx : x < n
    · rw [if_pos hx, h.here hx]
    · rw [if_neg hx]
      obtain ⟨m', rfl, h'⟩ := h.step (by omega)
      rw [ih h' (by omega)]
/-- a map of the numbers below M that has an inverse -/
structure Perm (M : Nat) (f g : Nat → Nat) : Prop where
  flt : ∀ x, x < M → f x < M
  glt : ∀ x, x < M → g x < M
  gf : ∀ x, x < M → g (f x) = x
  fg : ∀ x, x < M → f (g x) = x
theorem Perm.symm {M : Nat} {f g : Nat → Nat} (h : Perm M f g) : Perm M g f := ⟨h.glt, h.flt, h.fg, h.gf⟩
theorem Perm.lt {M : Nat} {f g : Nat → Nat} (h : Perm M f g) (n x : Nat) (hx : x < M) : it f n x < M := by
  induction n generalizing x with
  | zero => exact hx
  | succ n ih => exact ih (f x) (h.flt x hx)
theorem Perm.back {M : Nat} {f g : Nat → Nat} (h : Perm M f g) (n x : Nat) (hx : x < M) : it g n (it f n x) = x := by
  induction n generalizing x with
  | zero => rfl
  | succ n ih =>
    rw [it_succ g, show it f (n + 1) x = it f n (f x) from rfl, ih (f x) (h.flt x hx), h.gf x hx]
/-- of more numbers than there are places two are the same -/
theorem pigeons (M : Nat) : ∀ F : Nat → Nat, (∀ i, i ≤ M → F i < M) → ∃ i j, i < j ∧ j ≤ M ∧ F i = F j := by
  induction M with
  | zero => intro F h; have := h 0 (Nat.le_refl _); omega
  | succ M ih =>
    intro F h
    by_cases hv : ∃ i, i ≤ M ∧ F i = F (M + 1)
    · obtain ⟨i, hi, e⟩ := hv
      exact ⟨i, M + 1, by omega, Nat.le_refl _, e⟩
    · have hne : ∀ i, i ≤ M → F i ≠ F (M + 1) := fun i hi e => hv ⟨i, hi, e⟩
      obtain ⟨i, j, hij, hj, e⟩ := ih (fun i => if F i = M then F (M + 1) else F i) (fun i hi => by
        have h1 := h i (by omega)
        have h2 := h (M + 1) (Nat.le_refl _)
        have h3 := hne i hi
        by_cases e : F i = M
        · rw [if_pos e]; omega
        · rw [if_neg e]; omega)
      have h3 := hne i (by omega)
      have h4 := hne j hj
      refine ⟨i, j, hij, by omega, ?_⟩
      by_cases e1 : F i = M
      · by_cases e2 : F j = M
        · rw [e1, e2]
        · rw [if_pos e1, if_neg e2] at e; exact absurd e.symm h4
      · by_cases e2 : F j = M
        · rw [if_neg e1, if_pos e2] at e; exact absurd e h3
        · rw [if_neg e1, if_neg e2] at e; exact e
theorem Perm.ring {M : Nat} {f g : Nat → Nat} (h : Perm M f g) (x : Nat) (hx : x < M) : ∃ d, d < M ∧ it f (d + 1) x = x := by
  obtain ⟨i, j, hij, hj, e⟩ := pigeons M (fun i => it f i x) (fun i _ => h.lt i x hx)
  refine ⟨j - i - 1, by omega, ?_⟩
  have h1 := h.back i x hx
  have h2 : it f j x = it f i (it f (j - i - 1 + 1) x) := by rw [← it_add, show j - i - 1 + 1 + i = j by omega]
  rw [e, h2, h.back i _ (h.lt _ x hx)] at h1
  exact h1
theorem hit_of (f : Nat → Nat) (n d x : Nat) (h : it f d x < n) : ∃ m, m ≤ d ∧ Hit f n m x := by
  induction d generalizing x with
  | zero => exact ⟨0, Nat.le_refl _, h, fun j hj => by omega⟩
  | succ d ih =>
    by_cases hx : x < n
    · exact ⟨0, by omega, hx, fun j hj => by omega⟩
    · obtain ⟨m, hm, h1, h2⟩ := ih (f x) h
      refine ⟨m + 1, by omega, h1, fun j hj => ?_⟩
      cases j with
      | zero => show n ≤ x; omega
      | succ j => exact h2 j (by omega)
/-- the place of a number -/
def pl (f : Nat → Nat) (n M x : Nat) : Nat := it f (dst f n M (f x)) (f x)
theorem Perm.hit {M : Nat} {f g : Nat → Nat} (h : Perm M f g) (n x : Nat) (hx : x < n) (hn : n ≤ M) : Hit f n (dst f n M (f x)) (f x) ∧ dst f n M (f x) < M := by
  obtain ⟨d, hd, e⟩ := h.ring x (by omega)
  obtain ⟨m, hm, H⟩ := hit_of f n d (f x) (by rw [show it f d (f x) = x from e]; exact hx)
  rw [H.dst (by omega)]
  exact ⟨H, by omega⟩
theorem Perm.pl_lt {M : Nat} {f g : Nat → Nat} (h : Perm M f g) (n x : Nat) (hx : x < n) (hn : n ≤ M) : pl f n M x < n := (h.hit n x hx hn).1.1
theorem Perm.pl_back {M : Nat} {f g : Nat → Nat} (h : Perm M f g) (n x : Nat) (hx : x < n) (hn : n ≤ M) : pl g n M (pl f n M x) = x := by
  obtain ⟨H, hm⟩ := h.hit n x hx hn
  unfold pl
  obtain ⟨m, hme⟩ : ∃ m, dst f n M (f x) = m := ⟨_, rfl⟩
  rw [hme] at H hm ⊢
  have hx' : x < M := by omega
  have key : ∀ j, j ≤ m → it g j (g (it f m (f x))) = it f (m - j) x := fun j hj => by
    have e : it f m (f x) = it f (j + 1) (it f (m - j) x) := by rw [← it_add, show m - j + (j + 1) = m + 1 by omega]; rfl
    rw [show it g j (g (it f m (f x))) = it g (j + 1) (it f m (f x)) from rfl, e, h.back _ _ (h.lt _ x hx')]
  have hg : Hit g n m (g (it f m (f x))) := by
    refine ⟨by rw [key m (Nat.le_refl _), Nat.sub_self]; exact hx, fun j hj => ?_⟩
    rw [key j (by omega), show m - j = m - j - 1 + 1 by omega]
    exact H.2 (m - j - 1) (by omega)
  rw [hg.dst (by omega), key m (Nat.le_refl _), Nat.sub_self]
  rfl
theorem pl_one {M : Nat} {f g : Nat → Nat} (h : Perm M f g) (hM : 1 ≤ M) : pl f 1 M 0 = 0 := by
  have := h.pl_lt 1 0 (by omega) hM
  omega
/-- the round function -/
def mx (k : List UInt8) (w r h : Nat) : Nat := nbe ((hmac k (UInt8.ofNat r :: num8 h)).take 8) % 2 ^ w
theorem mx_lt (k : List UInt8) (w r h : Nat) : mx k w r h < 2 ^ w := Nat.mod_lt _ (Nat.two_pow_pos w)
def rnd (k : List UInt8) (w r : Nat) (p : Nat × Nat) : Nat × Nat := (p.2, p.1 ^^^ mx k w r p.2)
def unr (k : List UInt8) (w r : Nat) (p : Nat × Nat) : Nat × Nat := (p.2 ^^^ mx k w r p.1, p.1)
def rnds (k : List UInt8) (w : Nat) : Nat → Nat × Nat → Nat × Nat
  | 0, p => p
  | n + 1, p => rnd k w n (rnds k w n p)
def unrs (k : List UInt8) (w : Nat) : Nat → Nat × Nat → Nat × Nat
  | 0, p => p
  | n + 1, p => unrs k w n (unr k w n p)
def Hv (w : Nat) (p : Nat × Nat) : Prop := p.1 < 2 ^ w ∧ p.2 < 2 ^ w
theorem Hv.rnd {w : Nat} {p : Nat × Nat} (h : Hv w p) (k : List UInt8) (r : Nat) : Hv w (rnd k w r p) := ⟨h.2, Nat.xor_lt_two_pow h.1 (mx_lt _ _ _ _)⟩
theorem Hv.unr {w : Nat} {p : Nat × Nat} (h : Hv w p) (k : List UInt8) (r : Nat) : Hv w (unr k w r p) := ⟨Nat.xor_lt_two_pow h.2 (mx_lt _ _ _ _), h.1⟩
theorem Hv.rnds {w : Nat} {p : Nat × Nat} (h : Hv w p) (k : List UInt8) (n : Nat) : Hv w (rnds k w n p) := by
  induction n with
  | zero => exact h
  | succ n ih => exact ih.rnd k n
theorem Hv.unrs {w : Nat} (k : List UInt8) (n : Nat) {p : Nat × Nat} (h : Hv w p) : Hv w (unrs k w n p) := by
  induction n generalizing p with
  | zero => exact h
  | succ n ih => exact ih (h.unr k n)
theorem xor_twice (a b : Nat) : (a ^^^ b) ^^^ b = a := by rw [Nat.xor_assoc, Nat.xor_self, Nat.xor_zero]
theorem unr_rnd (k : List UInt8) (w r : Nat) (p : Nat × Nat) : unr k w r (rnd k w r p) = p := by
  unfold unr rnd
  exact Prod.ext (xor_twice _ _) rfl
theorem rnd_unr (k : List UInt8) (w r : Nat) (p : Nat × Nat) : rnd k w r (unr k w r p) = p := by
  unfold unr rnd
  exact Prod.ext rfl (xor_twice _ _)
theorem unrs_rnds (k : List UInt8) (w n : Nat) (p : Nat × Nat) : unrs k w n (rnds k w n p) = p := by
  induction n with
  | zero => rfl
  | succ n ih => show unrs k w n (unr k w n (rnd k w n (rnds k w n p))) = p; rw [unr_rnd, ih]
theorem rnds_unrs (k : List UInt8) (w n : Nat) (p : Nat × Nat) : rnds k w n (unrs k w n p) = p := by
  induction n generalizing p with
  | zero => rfl
  | succ n ih => show rnd k w n (rnds k w n (unrs k w n (unr k w n p))) = p; rw [ih, rnd_unr]
def cut2 (w x : Nat) : Nat × Nat := (x / 2 ^ w, x % 2 ^ w)
def join2 (w : Nat) (p : Nat × Nat) : Nat := p.1 * 2 ^ w + p.2
theorem cut2_join2 {w : Nat} {p : Nat × Nat} (h : Hv w p) : cut2 w (join2 w p) = p := by
  unfold cut2 join2
  have := h.2
  refine Prod.ext ?_ ?_
  · show (p.1 * 2 ^ w + p.2) / 2 ^ w = p.1
    rw [Nat.mul_comm, Nat.mul_add_div (Nat.two_pow_pos w), Nat.div_eq_of_lt h.2, Nat.add_zero]
  · show (p.1 * 2 ^ w + p.2) % 2 ^ w = p.2
    rw [Nat.mul_comm, Nat.mul_add_mod, Nat.mod_eq_of_lt h.2]
theorem join2_cut2 (w x : Nat) : join2 w (cut2 w x) = x := by
  unfold cut2 join2
  show x / 2 ^ w * 2 ^ w + x % 2 ^ w = x
  rw [Nat.mul_comm]; exact Nat.div_add_mod x (2 ^ w)
theorem four_pow (w : Nat) : (4 : Nat) ^ w = 2 ^ w * 2 ^ w := by rw [← Nat.mul_pow]
theorem cut2_hv {w x : Nat} (h : x < 4 ^ w) : Hv w (cut2 w x) := ⟨Nat.div_lt_of_lt_mul (by rw [← four_pow]; exact h), Nat.mod_lt _ (Nat.two_pow_pos w)⟩
theorem join2_lt {w : Nat} {p : Nat × Nat} (h : Hv w p) : join2 w p < 4 ^ w := by
  unfold join2
  rw [four_pow]
  have h1 := h.1
  have h2 := h.2
  have : (p.1 + 1) * 2 ^ w ≤ 2 ^ w * 2 ^ w := Nat.mul_le_mul_right _ h1
  rw [Nat.add_mul, Nat.one_mul] at this
  omega
/-- one step, and back -/
def son (k : List UInt8) (w x : Nat) : Nat := join2 w (rnds k w 4 (cut2 w x))
def sbk (k : List UInt8) (w x : Nat) : Nat := join2 w (unrs k w 4 (cut2 w x))
theorem sperm (k : List UInt8) (w : Nat) : Perm (4 ^ w) (son k w) (sbk k w) :=
  ⟨fun x hx => join2_lt ((cut2_hv hx).rnds k 4), fun x hx => join2_lt (Hv.unrs k 4 (cut2_hv hx)),
    fun x hx => by unfold sbk son; rw [cut2_join2 ((cut2_hv hx).rnds k 4), unrs_rnds, join2_cut2],
    fun x hx => by unfold sbk son; rw [cut2_join2 (Hv.unrs k 4 (cut2_hv hx)), rnds_unrs, join2_cut2]⟩
/-- bits of a half for n places -/
def seekW (n : Nat) : Nat → Nat → Nat
  | 0, w => w
  | q + 1, w => if 4 ^ w < n then seekW n q (w + 1) else w
def bw (n : Nat) : Nat := seekW n 20 1
theorem seekW_end (n : Nat) : ∀ q w, n ≤ 4 ^ (w + q) → n ≤ 4 ^ seekW n q w := by
  intro q
  induction q with
  | zero => intro w h; exact h
  | succ q ih =>
    intro w h
    unfold seekW
    by_cases hw : 4 ^ w < n
    · rw [if_pos hw]; exact ih (w + 1) (by rw [show w + 1 + q = w + (q + 1) by omega]; exact h)
    · rw [if_neg hw]; omega
theorem seekW_stop (n q w : Nat) (h : ¬ 4 ^ w < n) : seekW n q w = w := by
  cases q with
  | zero => rfl
  | succ q => unfold seekW; rw [if_neg h]
theorem seekW_go (n q w : Nat) (h : 4 ^ w < n) (hq : n ≤ 4 ^ (w + q)) : 0 < q ∧ seekW n q w = seekW n (q - 1) (w + 1) := by
  cases q with
  | zero => simp at hq; omega
  | succ q => exact ⟨by omega, by show (if 4 ^ w < n then seekW n q (w + 1) else w) = _; rw [if_pos h]; rfl⟩
theorem bw_le (n : Nat) (h : n ≤ 1048576) : 1 ≤ bw n ∧ bw n ≤ 10 := by
  have key : ∀ q w, w ≤ 10 → w ≤ seekW n q w ∧ seekW n q w ≤ 10 := by
    intro q
    induction q with
    | zero => intro w hw; exact ⟨Nat.le_refl _, hw⟩
    | succ q ih =>
      intro w hw
      unfold seekW
      by_cases h4 : 4 ^ w < n
      · rw [if_pos h4]
        have : w < 10 := by
          by_cases e : w = 10
          · subst e; omega
          · omega
        have := ih (w + 1) (by omega)
        omega
      · rw [if_neg h4]; omega
  exact key 20 1 (by omega)
theorem bw_ge (n : Nat) (h : n ≤ 1048576) : n ≤ 4 ^ bw n := seekW_end n 20 1 (by omega)
theorem bw_one : bw 1 = 1 := by decide
end Go.Proofs.YtgpojlblhaphnaaDoor.Da
