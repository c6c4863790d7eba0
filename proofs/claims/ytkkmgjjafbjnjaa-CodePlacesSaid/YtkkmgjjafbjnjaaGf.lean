/- Plain mathematics: the field of 256 numbers, by shifts. No program is imported. -/
import Init
namespace Go.Proofs.Ytkkmgjjafbjnjaa
set_option linter.unusedVariables false
namespace Gf

/-- a number times alpha -/
def dbl (a : Nat) : Nat := if a < 128 then 2 * a else (2 * a - 256) ^^^ 29
def mulN : Nat → Nat → Nat → Nat
  | 0, _, _ => 0
  | n + 1, a, b => (if b % 2 = 1 then a else 0) ^^^ mulN n (dbl a) (b / 2)
def mul (a b : Nat) : Nat := mulN 8 a b
/-- a power of alpha -/
def ex : Nat → Nat
  | 0 => 1
  | n + 1 => dbl (ex n)
/-- dbl, n times -/
def dbls : Nat → Nat → Nat
  | 0, a => a
  | n + 1, a => dbl (dbls n a)
def seek : Nat → Nat → Nat → Nat → Nat
  | 0, _, _, k => k
  | n + 1, p, a, k => if p = a then k else seek n (dbl p) a (k + 1)
/-- which power of alpha a number is -/
def lg (a : Nat) : Nat := seek 255 1 a 0
/-- a power -/
def pw (a : Nat) : Nat → Nat
  | 0 => 1
  | n + 1 => mul (pw a n) a

theorem all_of {p : Nat → Bool} {n : Nat} (h : (List.range n).all p = true) (a : Nat) (ha : a < n) : p a = true :=
  List.all_eq_true.1 h a (List.mem_range.2 ha)

theorem dbl_lt (a : Nat) (ha : a < 256) : dbl a < 256 := by
  have h : (List.range 256).all (fun a => decide (dbl a < 256)) = true := by decide +kernel
  simpa using all_of h a ha
theorem xor_lt {a b : Nat} (ha : a < 256) (hb : b < 256) : a ^^^ b < 256 := Nat.xor_lt_two_pow (n := 8) ha hb
theorem dbl_xor (a b : Nat) (ha : a < 256) (hb : b < 256) : dbl (a ^^^ b) = dbl a ^^^ dbl b := by
  have h : (List.range 256).all (fun a => (List.range 256).all fun b => dbl (a ^^^ b) == dbl a ^^^ dbl b) = true := by decide +kernel
  simpa using all_of (all_of h a ha) b hb
theorem dbl_zero : dbl 0 = 0 := rfl

theorem mulN_lt (n a b : Nat) (ha : a < 256) : mulN n a b < 256 := by
  induction n generalizing a b with
  | zero => simp [mulN]
  | succ n ih =>
    unfold mulN
    refine xor_lt ?_ (ih _ _ (dbl_lt a ha))
    split <;> omega
theorem mul_lt (a b : Nat) (ha : a < 256) : mul a b < 256 := mulN_lt 8 a b ha

theorem mulN_xor (n a b c : Nat) (ha : a < 256) (hb : b < 256) : mulN n (a ^^^ b) c = mulN n a c ^^^ mulN n b c := by
  induction n generalizing a b c with
  | zero => simp [mulN]
  | succ n ih =>
    unfold mulN
    rw [dbl_xor a b ha hb, ih _ _ _ (dbl_lt a ha) (dbl_lt b hb)]
    split
    · ac_rfl
    · simp
theorem mul_xor_left (a b c : Nat) (ha : a < 256) (hb : b < 256) : mul (a ^^^ b) c = mul a c ^^^ mul b c := mulN_xor 8 a b c ha hb

theorem mulN_zero (n b : Nat) : mulN n 0 b = 0 := by
  induction n generalizing b with
  | zero => rfl
  | succ n ih => unfold mulN; rw [dbl_zero, ih]; simp
theorem mul_zero_left (b : Nat) : mul 0 b = 0 := mulN_zero 8 b
theorem mulN_zero_right (n a : Nat) : mulN n a 0 = 0 := by
  induction n generalizing a with
  | zero => rfl
  | succ n ih => unfold mulN; rw [ih]; simp
theorem mul_zero_right (a : Nat) : mul a 0 = 0 := mulN_zero_right 8 a

theorem mulN_dbl (n a b : Nat) (ha : a < 256) : mulN n (dbl a) b = dbl (mulN n a b) := by
  induction n generalizing a b with
  | zero => rfl
  | succ n ih =>
    unfold mulN
    rw [ih _ _ (dbl_lt a ha)]
    have h2 := mulN_lt n (dbl a) (b / 2) (dbl_lt a ha)
    split
    · rw [dbl_xor _ _ ha h2]
    · rw [dbl_xor _ _ (by omega) h2, dbl_zero]
theorem mul_dbl (a b : Nat) (ha : a < 256) : mul (dbl a) b = dbl (mul a b) := mulN_dbl 8 a b ha
theorem mul_one_left (b : Nat) (hb : b < 256) : mul 1 b = b := by
  have h : (List.range 256).all (fun b => mul 1 b == b) = true := by decide +kernel
  simpa using all_of h b hb

theorem ex_lt (n : Nat) : ex n < 256 := by
  induction n with
  | zero => decide
  | succ n ih => exact dbl_lt _ ih
theorem dbls_lt (n a : Nat) (ha : a < 256) : dbls n a < 256 := by
  induction n with
  | zero => exact ha
  | succ n ih => exact dbl_lt _ ih
theorem mul_ex (n b : Nat) (hb : b < 256) : mul (ex n) b = dbls n b := by
  induction n with
  | zero => exact mul_one_left b hb
  | succ n ih => rw [ex, mul_dbl _ _ (ex_lt n), ih]; rfl
theorem dbls_ex (n m : Nat) : dbls n (ex m) = ex (n + m) := by
  induction n with
  | zero => simp [dbls]
  | succ n ih => rw [dbls, ih, show n + 1 + m = (n + m) + 1 by omega, ex]
theorem mul_ex_ex (n m : Nat) : mul (ex n) (ex m) = ex (n + m) := by rw [mul_ex _ _ (ex_lt m), dbls_ex]
theorem ex_255 : ex 255 = 1 := by decide +kernel
theorem ex_add_255 (n : Nat) : ex (n + 255) = ex n := by
  rw [← mul_ex_ex, ex_255]; exact mul_ex_ex n 0
theorem ex_period (k n : Nat) : ex (n + 255 * k) = ex n := by
  induction k with
  | zero => simp
  | succ k ih => rw [show n + 255 * (k + 1) = (n + 255 * k) + 255 by omega, ex_add_255, ih]
theorem ex_mod (n : Nat) : ex (n % 255) = ex n := by
  have h := ex_period (n / 255) (n % 255)
  rw [Nat.mod_add_div] at h; exact h.symm
theorem ex_lg (a : Nat) (h0 : a ≠ 0) (ha : a < 256) : ex (lg a) = a ∧ lg a < 255 := by
  have h : (List.range 256).all (fun a => decide (a ≠ 0 → ex (lg a) = a ∧ lg a < 255)) = true := by decide +kernel
  have := all_of h a ha
  simp only [decide_eq_true_eq] at this
  exact this h0
theorem lg_ex (n : Nat) (hn : n < 255) : lg (ex n) = n := by
  have h : (List.range 255).all (fun a => lg (ex a) == a) = true := by decide +kernel
  simpa using all_of h n hn
theorem ex_ne (n : Nat) : ex n ≠ 0 := by
  have h : (List.range 255).all (fun a => decide (ex a ≠ 0)) = true := by decide +kernel
  have := all_of h (n % 255) (Nat.mod_lt _ (by decide))
  rw [ex_mod] at this
  simpa using this
theorem ex_inj (n m : Nat) : ex n = ex m ↔ n % 255 = m % 255 := by
  constructor
  · intro h
    have h1 := lg_ex (n % 255) (Nat.mod_lt _ (by decide))
    have h2 := lg_ex (m % 255) (Nat.mod_lt _ (by decide))
    rw [ex_mod] at h1 h2
    rw [← h1, ← h2, h]
  · intro h; rw [← ex_mod n, ← ex_mod m, h]

/-- every number but 0 is a power of alpha -/
theorem ex_of (a : Nat) (h0 : a ≠ 0) (ha : a < 256) : ∃ n, n < 255 ∧ a = ex n :=
  ⟨lg a, (ex_lg a h0 ha).2, (ex_lg a h0 ha).1.symm⟩

theorem mul_comm (a b : Nat) (ha : a < 256) (hb : b < 256) : mul a b = mul b a := by
  by_cases h1 : a = 0
  · subst h1; rw [mul_zero_left, mul_zero_right]
  by_cases h2 : b = 0
  · subst h2; rw [mul_zero_left, mul_zero_right]
  obtain ⟨n, _, rfl⟩ := ex_of a h1 ha
  obtain ⟨m, _, rfl⟩ := ex_of b h2 hb
  rw [mul_ex_ex, mul_ex_ex, Nat.add_comm]
theorem mul_assoc (a b c : Nat) (ha : a < 256) (hb : b < 256) (hc : c < 256) : mul (mul a b) c = mul a (mul b c) := by
  by_cases h1 : a = 0
  · subst h1; simp only [mul_zero_left]
  by_cases h2 : b = 0
  · subst h2; simp only [mul_zero_left, mul_zero_right]
  by_cases h3 : c = 0
  · subst h3; simp only [mul_zero_right]
  obtain ⟨n, _, rfl⟩ := ex_of a h1 ha
  obtain ⟨m, _, rfl⟩ := ex_of b h2 hb
  obtain ⟨k, _, rfl⟩ := ex_of c h3 hc
  rw [mul_ex_ex, mul_ex_ex, mul_ex_ex, mul_ex_ex, Nat.add_assoc]
theorem mul_one_right (a : Nat) (ha : a < 256) : mul a 1 = a := by rw [mul_comm a 1 ha (by decide), mul_one_left a ha]
theorem mul_xor_right (a b c : Nat) (ha : a < 256) (hb : b < 256) (hc : c < 256) : mul a (b ^^^ c) = mul a b ^^^ mul a c := by
  rw [mul_comm a _ ha (xor_lt hb hc), mul_xor_left b c a hb hc, mul_comm b a hb ha, mul_comm c a hc ha]
theorem mul_eq_zero (a b : Nat) (ha : a < 256) (hb : b < 256) (h0 : a ≠ 0) : mul a b = 0 ↔ b = 0 := by
  constructor
  · intro h
    apply Decidable.byContradiction
    intro h2
    obtain ⟨n, _, rfl⟩ := ex_of a h0 ha
    obtain ⟨m, _, rfl⟩ := ex_of b h2 hb
    rw [mul_ex_ex] at h
    exact ex_ne _ h
  · rintro rfl; exact mul_zero_right a

theorem pw_lt (a n : Nat) : pw a n < 256 := by
  induction n with
  | zero => show 1 < 256; omega
  | succ n ih => exact mul_lt _ _ ih
theorem pw_add (a n m : Nat) (ha : a < 256) : pw a (n + m) = mul (pw a n) (pw a m) := by
  induction m with
  | zero => rw [pw, mul_one_right _ (pw_lt a n)]; rfl
  | succ m ih => rw [← Nat.add_assoc, pw, pw, ih, mul_assoc _ _ _ (pw_lt a n) (pw_lt a m) ha]
theorem pw_mul (a n : Nat) (ha : a < 256) : pw (mul a a) n = pw a (2 * n) := by
  induction n with
  | zero => rfl
  | succ n ih =>
    rw [pw, ih, show 2 * (n + 1) = 2 * n + 1 + 1 by omega, pw, pw, mul_assoc _ _ _ (pw_lt a _) ha ha]
theorem pw_ex (n k : Nat) : pw (ex n) k = ex (n * k) := by
  induction k with
  | zero => rfl
  | succ k ih => rw [pw, ih, mul_ex_ex, Nat.mul_succ]
theorem pw_two (n : Nat) : pw 2 n = ex n := by
  have h : (2 : Nat) = ex 1 := rfl
  rw [h, pw_ex, Nat.one_mul]
theorem pw_zero (n : Nat) (h : n ≠ 0) : pw 0 n = 0 := by
  cases n with
  | zero => exact absurd rfl h
  | succ n => exact mul_zero_right _
theorem pw_mod (a n : Nat) (h0 : a ≠ 0) (ha : a < 256) : pw a (n % 255) = pw a n := by
  obtain ⟨k, _, rfl⟩ := ex_of a h0 ha
  rw [pw_ex, pw_ex, ex_inj, Nat.mul_mod_mod]
end Gf
end Go.Proofs.Ytkkmgjjafbjnjaa
