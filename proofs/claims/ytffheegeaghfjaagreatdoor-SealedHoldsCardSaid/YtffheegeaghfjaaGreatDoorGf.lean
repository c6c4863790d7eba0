/- Gf -/
import Init
set_option linter.unusedVariables false
set_option linter.unusedSimpArgs false
set_option maxRecDepth 100000
set_option maxHeartbeats 8000000
namespace Go.Proofs.YtffheegeaghfjaaGreatDoor
namespace Gf
def dbl (a : Nat) : Nat := if a < 128 then 2 * a else (2 * a - 256) ^^^ 29
def mulN : Nat -> Nat -> Nat -> Nat
 | 0, _, _ => 0
 | n + 1, a, b => (if b % 2 = 1 then a else 0) ^^^ mulN n (dbl a) (b / 2)
def mul (a b : Nat) : Nat := mulN 8 a b
def ex : Nat -> Nat
 | 0 => 1
 | n + 1 => dbl (ex n)
def dbls : Nat -> Nat -> Nat
 | 0, a => a
 | n + 1, a => dbl (dbls n a)
def seek : Nat -> Nat -> Nat -> Nat -> Nat
 | 0, _, _, k => k
 | n + 1, p, a, k => if p = a then k else seek n (dbl p) a (k + 1)
def lg (a : Nat) : Nat := seek 255 1 a 0
def pw (a : Nat) : Nat -> Nat
 | 0 => 1
 | n + 1 => mul (pw a n) a
theorem all_of {p : Nat -> Bool} {n : Nat} (h : (List.range n).all p = true) (a : Nat) (ha : a < n) : p a = true :=
 List.all_eq_true.1 h a (List.mem_range.2 ha)
theorem dbl_lt (a : Nat) (ha : a < 256) : dbl a < 256 := by
 have h : (List.range 256).all (fun a => decide (dbl a < 256)) = true := by decide +kernel
 simpa using all_of h a ha
theorem xor_lt {a b : Nat} (ha : a < 256) (hb : b < 256) : a ^^^ b < 256 := Nat.xor_lt_two_pow (n := 8) ha hb
theorem dbl_xor (a b : Nat) (ha : a < 256) (hb : b < 256) : dbl (a ^^^ b) = dbl a ^^^ dbl b := by
 have h : (List.range 256).all (fun a => (List.range 256).all fun b => dbl (a ^^^ b) == dbl a ^^^ dbl b) = true := by decide +kernel
 simpa using all_of (all_of h a ha) b hb
theorem dbl_zero : dbl 0 = 0 := rfl
theorem mulN_lt (n a b : Nat) (ha : a < 256) : mulN n a b < 256 := by
 induction n generalizing a b with
 | zero => simp [mulN]
 | succ n ih =>
  unfold mulN
  refine xor_lt ?_ (ih _ _ (dbl_lt a ha))
  split <;> omega
theorem mul_lt (a b : Nat) (ha : a < 256) : mul a b < 256 := mulN_lt 8 a b ha
theorem mulN_xor (n a b c : Nat) (ha : a < 256) (hb : b < 256) : mulN n (a ^^^ b) c = mulN n a c ^^^ mulN n b c := by
 induction n generalizing a b c with
 | zero => simp [mulN]
 | succ n ih =>
  unfold mulN
  rw [dbl_xor a b ha hb, ih _ _ _ (dbl_lt a ha) (dbl_lt b hb)]
  split
  ·ac_rfl
  ·simp
theorem mul_xor_left (a b c : Nat) (ha : a < 256) (hb : b < 256) : mul (a ^^^ b) c = mul a c ^^^ mul b c := mulN_xor 8 a b c ha hb
theorem mulN_zero (n b : Nat) : mulN n 0 b = 0 := by
 induction n generalizing b with
 | zero => rfl
 | succ n ih => unfold mulN; rw [dbl_zero, ih]; simp
theorem mul_zero_left (b : Nat) : mul 0 b = 0 := mulN_zero 8 b
theorem mulN_zero_right (n a : Nat) : mulN n a 0 = 0 := by
 induction n generalizing a with
 | zero => rfl
 | succ n ih => unfold mulN; rw [ih]; simp
theorem mul_zero_right (a : Nat) : mul a 0 = 0 := mulN_zero_right 8 a
theorem mulN_dbl (n a b : Nat) (ha : a < 256) : mulN n (dbl a) b = dbl (mulN n a b) := by
 induction n generalizing a b with
 | zero => rfl
 | succ n ih =>
  unfold mulN
  rw [ih _ _ (dbl_lt a ha)]
  have h2 := mulN_lt n (dbl a) (b / 2) (dbl_lt a ha)
  split
  ·rw [dbl_xor _ _ ha h2]
  ·rw [dbl_xor _ _ (by omega) h2, dbl_zero]
theorem mul_dbl (a b : Nat) (ha : a < 256) : mul (dbl a) b = dbl (mul a b) := mulN_dbl 8 a b ha
theorem mul_one_left (b : Nat) (hb : b < 256) : mul 1 b = b := by
 have h : (List.range 256).all (fun b => mul 1 b == b) = true := by decide +kernel
 simpa using all_of h b hb
theorem ex_lt (n : Nat) : ex n < 256 := by
 induction n with
 | zero => decide
 | succ n ih => exact dbl_lt _ ih
theorem mul_ex (n b : Nat) (hb : b < 256) : mul (ex n) b = dbls n b := by
 induction n with
 | zero => exact mul_one_left b hb
 | succ n ih => rw [ex, mul_dbl _ _ (ex_lt n), ih]; rfl
theorem dbls_ex (n m : Nat) : dbls n (ex m) = ex (n + m) := by
 induction n with
 | zero => simp [dbls]
 | succ n ih => rw [dbls, ih, show n + 1 + m = (n + m) + 1 by omega, ex]
theorem mul_ex_ex (n m : Nat) : mul (ex n) (ex m) = ex (n + m) := by rw [mul_ex _ _ (ex_lt m), dbls_ex]
theorem ex_255 : ex 255 = 1 := by decide +kernel
theorem ex_add_255 (n : Nat) : ex (n + 255) = ex n := by
 rw [<- mul_ex_ex, ex_255]; exact mul_ex_ex n 0
theorem ex_period (k n : Nat) : ex (n + 255 * k) = ex n := by
 induction k with
 | zero => simp
 | succ k ih => rw [show n + 255 * (k + 1) = (n + 255 * k) + 255 by omega, ex_add_255, ih]
theorem ex_mod (n : Nat) : ex (n % 255) = ex n := by
 have h := ex_period (n / 255) (n % 255)
 rw [Nat.mod_add_div] at h; exact h.symm
theorem ex_lg (a : Nat) (h0 : a ≠ 0) (ha : a < 256) : ex (lg a) = a /\ lg a < 255 := by
 have h : (List.range 256).all (fun a => decide (a ≠ 0 -> ex (lg a) = a /\ lg a < 255)) = true := by decide +kernel
 have := all_of h a ha
 simp only [decide_eq_true_eq] at this
 exact this h0
theorem lg_ex (n : Nat) (hn : n < 255) : lg (ex n) = n := by
 have h : (List.range 255).all (fun a => lg (ex a) == a) = true := by decide +kernel
 simpa using all_of h n hn
theorem ex_ne (n : Nat) : ex n ≠ 0 := by
 have h : (List.range 255).all (fun a => decide (ex a ≠ 0)) = true := by decide +kernel
 have := all_of h (n % 255) (Nat.mod_lt _ (by decide))
 rw [ex_mod] at this
 simpa using this
theorem ex_inj (n m : Nat) : ex n = ex m ↔ n % 255 = m % 255 := by
 constructor
 ·intro h
  have h1 := lg_ex (n % 255) (Nat.mod_lt _ (by decide))
  have h2 := lg_ex (m % 255) (Nat.mod_lt _ (by decide))
  rw [ex_mod] at h1 h2
  rw [<- h1, <- h2, h]
 ·intro h; rw [<- ex_mod n, <- ex_mod m, h]
theorem ex_of (a : Nat) (h0 : a ≠ 0) (ha : a < 256) : ∃ n, n < 255 /\ a = ex n :=
 ⟨lg a, (ex_lg a h0 ha).2, (ex_lg a h0 ha).1.symm⟩
theorem mul_comm (a b : Nat) (ha : a < 256) (hb : b < 256) : mul a b = mul b a := by
 by_cases h1 : a = 0
 ·subst h1; rw [mul_zero_left, mul_zero_right]
 by_cases h2 : b = 0
 ·subst h2; rw [mul_zero_left, mul_zero_right]
 obtain ⟨n, _, rfl⟩ := ex_of a h1 ha
 obtain ⟨m, _, rfl⟩ := ex_of b h2 hb
 rw [mul_ex_ex, mul_ex_ex, Nat.add_comm]
theorem mul_assoc (a b c : Nat) (ha : a < 256) (hb : b < 256) (hc : c < 256) : mul (mul a b) c = mul a (mul b c) := by
 by_cases h1 : a = 0
 ·subst h1; simp only [mul_zero_left]
 by_cases h2 : b = 0
 ·subst h2; simp only [mul_zero_left, mul_zero_right]
 by_cases h3 : c = 0
 ·subst h3; simp only [mul_zero_right]
 obtain ⟨n, _, rfl⟩ := ex_of a h1 ha
 obtain ⟨m, _, rfl⟩ := ex_of b h2 hb
 obtain ⟨k, _, rfl⟩ := ex_of c h3 hc
 rw [mul_ex_ex, mul_ex_ex, mul_ex_ex, mul_ex_ex, Nat.add_assoc]
theorem mul_one_right (a : Nat) (ha : a < 256) : mul a 1 = a := by rw [mul_comm a 1 ha (by decide), mul_one_left a ha]
theorem mul_xor_right (a b c : Nat) (ha : a < 256) (hb : b < 256) (hc : c < 256) : mul a (b ^^^ c) = mul a b ^^^ mul a c := by
 rw [mul_comm a _ ha (xor_lt hb hc), mul_xor_left b c a hb hc, mul_comm b a hb ha, mul_comm c a hc ha]
theorem mul_eq_zero (a b : Nat) (ha : a < 256) (hb : b < 256) (h0 : a ≠ 0) : mul a b = 0 ↔ b = 0 := by
 constructor
 ·intro h
  apply Decidable.byContradiction
  intro h2
  obtain ⟨n, _, rfl⟩ := ex_of a h0 ha
  obtain ⟨m, _, rfl⟩ := ex_of b h2 hb
  rw [mul_ex_ex] at h
  exact ex_ne _ h
 ·rintro rfl; exact mul_zero_right a
theorem pw_lt (a n : Nat) : pw a n < 256 := by
 induction n with
 | zero => show 1 < 256; omega
 | succ n ih => exact mul_lt _ _ ih
theorem pw_mul (a n : Nat) (ha : a < 256) : pw (mul a a) n = pw a (2 * n) := by
 induction n with
 | zero => rfl
 | succ n ih =>
  rw [pw, ih, show 2 * (n + 1) = 2 * n + 1 + 1 by omega, pw, pw, mul_assoc _ _ _ (pw_lt a _) ha ha]
theorem pw_ex (n k : Nat) : pw (ex n) k = ex (n * k) := by
 induction k with
 | zero => rfl
 | succ k ih => rw [pw, ih, mul_ex_ex, Nat.mul_succ]
theorem pw_two (n : Nat) : pw 2 n = ex n := by
 have h : (2 : Nat) = ex 1 := rfl
 rw [h, pw_ex, Nat.one_mul]
end Gf
end Go.Proofs.YtffheegeaghfjaaGreatDoor
namespace Go.Proofs.YtffheegeaghfjaaGreatDoor
namespace Gf
def gm (a b : UInt8) : UInt8 := UInt8.ofNat (mul a.toNat b.toNat)
theorem gm_nat (a b : UInt8) : (gm a b).toNat = mul a.toNat b.toNat := by
 have := mul_lt a.toNat b.toNat (UInt8.toNat_lt a)
 simp only [gm, UInt8.toNat_ofNat']
 omega
theorem u8_ext {a b : UInt8} (h : a.toNat = b.toNat) : a = b := UInt8.toNat_inj.1 h
theorem gm_comm (a b : UInt8) : gm a b = gm b a := u8_ext (by rw [gm_nat, gm_nat, mul_comm _ _ (UInt8.toNat_lt a) (UInt8.toNat_lt b)])
theorem gm_assoc (a b c : UInt8) : gm (gm a b) c = gm a (gm b c) := u8_ext (by
 rw [gm_nat, gm_nat, gm_nat, gm_nat, mul_assoc _ _ _ (UInt8.toNat_lt a) (UInt8.toNat_lt b) (UInt8.toNat_lt c)])
theorem gm_zero (a : UInt8) : gm a 0 = 0 := u8_ext (by rw [gm_nat]; exact mul_zero_right _)
theorem zero_gm (a : UInt8) : gm 0 a = 0 := by rw [gm_comm, gm_zero]
theorem one_gm (a : UInt8) : gm 1 a = a := u8_ext (by rw [gm_nat]; exact mul_one_left _ (UInt8.toNat_lt a))
theorem gm_one (a : UInt8) : gm a 1 = a := by rw [gm_comm, one_gm]
theorem gm_xor (a b c : UInt8) : gm a (b ^^^ c) = gm a b ^^^ gm a c := u8_ext (by
 rw [gm_nat, UInt8.toNat_xor, UInt8.toNat_xor, gm_nat, gm_nat, mul_xor_right _ _ _ (UInt8.toNat_lt a) (UInt8.toNat_lt b) (UInt8.toNat_lt c)])
theorem xor_gm (a b c : UInt8) : gm (a ^^^ b) c = gm a c ^^^ gm b c := by rw [gm_comm, gm_xor, gm_comm c a, gm_comm c b]
theorem gm_eq_zero (a b : UInt8) (h : a ≠ 0) : gm a b = 0 ↔ b = 0 := by
 have h0 : a.toNat ≠ 0 := fun e => h (u8_ext e)
 have := mul_eq_zero a.toNat b.toNat (UInt8.toNat_lt a) (UInt8.toNat_lt b) h0
 constructor
 ·intro e; exact u8_ext (this.1 (by rw [<- gm_nat, e]; rfl))
 ·intro e; rw [e, gm_zero]
theorem xor_swap (a b c d : UInt8) : (a ^^^ b) ^^^ (c ^^^ d) = (a ^^^ c) ^^^ (b ^^^ d) := by
 rw [UInt8.xor_assoc, UInt8.xor_assoc, <- UInt8.xor_assoc b c d, UInt8.xor_comm b c, UInt8.xor_assoc c b d]
theorem xor_cancel (a b : UInt8) : (a ^^^ b) ^^^ b = a := by rw [UInt8.xor_assoc, UInt8.xor_self, UInt8.xor_zero]
theorem xor_eq_zero (a b : UInt8) (h : a ^^^ b = 0) : a = b := by
 have := xor_cancel a b
 rw [h, UInt8.zero_xor] at this; exact this.symm
def sm (F : Nat -> UInt8) : Nat -> UInt8
 | 0 => 0
 | n + 1 => sm F n ^^^ F n
theorem sm_congr {F G : Nat -> UInt8} {n : Nat} (h : ∀ i, i < n -> F i = G i) : sm F n = sm G n := by
 induction n with
 | zero => rfl
 | succ n ih => rw [sm, sm, ih (fun i hi => h i (by omega)), h n (by omega)]
theorem sm_zero {F : Nat -> UInt8} {n : Nat} (h : ∀ i, i < n -> F i = 0) : sm F n = 0 := by
 induction n with
 | zero => rfl
 | succ n ih => rw [sm, ih (fun i hi => h i (by omega)), h n (by omega)]; rfl
theorem sm_xor (F G : Nat -> UInt8) (n : Nat) : sm (fun i => F i ^^^ G i) n = sm F n ^^^ sm G n := by
 induction n with
 | zero => exact UInt8.xor_zero.symm
 | succ n ih => rw [sm, sm, sm, ih, xor_swap]
theorem sm_gm (a : UInt8) (F : Nat -> UInt8) (n : Nat) : sm (fun i => gm a (F i)) n = gm a (sm F n) := by
 induction n with
 | zero => rw [sm, sm, gm_zero]
 | succ n ih => rw [sm, sm, ih, gm_xor]
theorem sm_left (F : Nat -> UInt8) (n : Nat) : sm F (n + 1) = F 0 ^^^ sm (fun i => F (i + 1)) n := by
 induction n with
 | zero => rw [sm, sm, sm, UInt8.zero_xor, UInt8.xor_zero]
 | succ n ih => rw [sm, ih, sm, UInt8.xor_assoc]
theorem sm_more {F : Nat -> UInt8} {n m : Nat} (hn : n <= m) (h : ∀ i, n <= i -> F i = 0) : sm F m = sm F n := by
 induction m with
 | zero => rw [show n = 0 by omega]
 | succ m ih =>
  by_cases e : n = m + 1
  ·rw [e]
  ·rw [sm, ih (by omega), h m (by omega), UInt8.xor_zero]
theorem sm_add (F : Nat -> UInt8) (n m : Nat) : sm F (n + m) = sm F n ^^^ sm (fun i => F (n + i)) m := by
 induction m with
 | zero => rw [Nat.add_zero, sm, UInt8.xor_zero]
 | succ m ih => rw [<- Nat.add_assoc, sm, ih, sm, UInt8.xor_assoc]
def ps (n : Nat) (g : Nat -> UInt8) (k : Nat) : UInt8 := if n <= k then g (k - n) else 0
def pm (n : Nat) (f g : Nat -> UInt8) (k : Nat) : UInt8 := sm (fun i => gm (f i) (ps i g k)) n
theorem pm_more {n m : Nat} {f g : Nat -> UInt8} (hn : n <= m) (h : ∀ i, n <= i -> f i = 0) (k : Nat) : pm m f g k = pm n f g k :=
 sm_more hn (fun i hi => by rw [h i hi, zero_gm])
theorem pm_def {n : Nat} {f g : Nat -> UInt8} (h : ∀ i, n <= i -> f i = 0) (k : Nat) : pm n f g k = sm (fun i => gm (f i) (g (k - i))) (k + 1) := by
 have h1 : pm n f g k = pm (n + (k + 1)) f g k := (pm_more (by omega) h k).symm
 rw [h1]; unfold pm
 rw [sm_more (n := k + 1) (by omega) (fun i hi => by rw [show ps i g k = 0 from if_neg (by omega), gm_zero])]
 exact sm_congr fun i hi => by rw [show ps i g k = g (k - i) from if_pos (by omega)]
def px (x : UInt8) : Nat -> UInt8
 | 0 => 1
 | n + 1 => gm (px x n) x
theorem px_add (x : UInt8) (n m : Nat) : px x (n + m) = gm (px x n) (px x m) := by
 induction m with
 | zero => rw [Nat.add_zero, px, gm_one]
 | succ m ih => rw [<- Nat.add_assoc, px, ih, px, gm_assoc]
def ev (n : Nat) (f : Nat -> UInt8) (x : UInt8) : UInt8 := sm (fun i => gm (f i) (px x i)) n
theorem ev_congr {n : Nat} {f g : Nat -> UInt8} {x : UInt8} (h : ∀ i, i < n -> f i = g i) : ev n f x = ev n g x := sm_congr fun i hi => by rw [h i hi]
theorem ev_more {n m : Nat} {f : Nat -> UInt8} {x : UInt8} (hn : n <= m) (h : ∀ i, n <= i -> f i = 0) : ev m f x = ev n f x := sm_more hn (fun i hi => by rw [h i hi, zero_gm])
theorem ev_xor (n : Nat) (f g : Nat -> UInt8) (x : UInt8) : ev n (fun i => f i ^^^ g i) x = ev n f x ^^^ ev n g x := by
 unfold ev
 rw [<- sm_xor]
 exact sm_congr fun i _ => xor_gm _ _ _
theorem ev_gm (n : Nat) (a : UInt8) (f : Nat -> UInt8) (x : UInt8) : ev n (fun i => gm a (f i)) x = gm a (ev n f x) := by
 unfold ev
 rw [<- sm_gm]
 exact sm_congr fun i _ => gm_assoc _ _ _
theorem ev_ps (n m : Nat) (g : Nat -> UInt8) (x : UInt8) : ev (n + m) (ps n g) x = gm (px x n) (ev m g x) := by
 unfold ev
 rw [sm_add, sm_zero (fun i hi => by rw [show ps n g i = 0 from if_neg (by omega), zero_gm]), UInt8.zero_xor, <- sm_gm]
 refine sm_congr fun i _ => ?_
 rw [show ps n g (n + i) = g i from by unfold ps; rw [if_pos (by omega)]; congr 1; omega, px_add, <- gm_assoc, <- gm_assoc, gm_comm (g i)]
theorem ev_pm {n m N : Nat} {f g : Nat -> UInt8} (hg : ∀ i, m <= i -> g i = 0) (hN : n + m <= N) (x : UInt8) : ev N (pm n f g) x = gm (ev n f x) (ev m g x) := by
 induction n with
 | zero =>
  rw [show ev 0 f x = 0 from rfl, zero_gm]
  exact sm_zero fun i _ => by rw [show pm 0 f g i = 0 from rfl, zero_gm]
 | succ n ih =>
  have h1 : ev N (pm (n + 1) f g) x = ev N (fun k => pm n f g k ^^^ gm (f n) (ps n g k)) x := rfl
  have h2 : ev N (ps n g) x = gm (px x n) (ev m g x) := by
   rw [<- ev_ps]
   refine ev_more (by omega) fun i hi => ?_
   unfold ps; rw [if_pos (by omega)]; exact hg _ (by omega)
  rw [h1, ev_xor, ev_gm, ih (by omega), h2, show ev (n + 1) f x = ev n f x ^^^ gm (f n) (px x n) from rfl, xor_gm, gm_assoc]
def pd (f : Nat -> UInt8) (i : Nat) : UInt8 := if i % 2 = 0 then f (i + 1) else 0
end Gf
def co (z : List UInt8) (i : Nat) : UInt8 := z.getD i 0
theorem co_ge {z : List UInt8} {i : Nat} (h : z.length <= i) : co z i = 0 := by simp [co, List.getD_eq_getElem?_getD, List.getElem?_eq_none h]
def tl (z : List UInt8) : Nat -> Nat
 | 0 => 0
 | n + 1 => if co z n = 0 then tl z n else n + 1
theorem tl_le (z : List UInt8) (n : Nat) : tl z n <= n := by
 induction n with
 | zero => exact Nat.le_refl _
 | succ n ih => rw [tl]; split <;> omega
theorem tl_zero (z : List UInt8) (n i : Nat) (h : tl z n <= i) (hi : i < n) : co z i = 0 := by
 induction n with
 | zero => omega
 | succ n ih =>
  rw [tl] at h
  split at h
  ·by_cases e : i = n
   ·subst e; assumption
   ·exact ih h (by omega)
  ·omega
theorem tl_top (z : List UInt8) (n : Nat) (h : tl z n ≠ 0) : co z (tl z n - 1) ≠ 0 := by
 induction n with
 | zero => exact absurd rfl h
 | succ n ih =>
  rw [tl] at h ⊢
  split
  ·rw [if_pos (by assumption)] at h; exact ih h
  ·rw [Nat.add_sub_cancel]; assumption
theorem tl_unique (z : List UInt8) (n m : Nat) (hm : m <= n) (h1 : ∀ i, m <= i -> i < n -> co z i = 0) (h2 : m ≠ 0 -> co z (m - 1) ≠ 0) : tl z n = m := by
 have a := tl_le z n
 rcases Nat.lt_trichotomy (tl z n) m with h | h | h
 ·exact absurd (tl_zero z n (m - 1) (by omega) (by omega)) (h2 (by omega))
 ·exact h
 ·exact absurd (h1 (tl z n - 1) (by omega) (by omega)) (tl_top z n (by omega))
def tr (z : List UInt8) : List UInt8 := z.take (tl z z.length)
theorem tr_length (z : List UInt8) : (tr z).length = tl z z.length := by
 have := tl_le z z.length
 simp only [tr, List.length_take]; omega
theorem tr_le (z : List UInt8) : (tr z).length <= z.length := by rw [tr_length]; exact tl_le _ _
theorem co_take (z : List UInt8) (n i : Nat) : co (z.take n) i = if i < n then co z i else 0 := by
 unfold co
 by_cases h : i < n
 ·rw [if_pos h]; simp [List.getD_eq_getElem?_getD, List.getElem?_take_of_lt h]
 ·rw [if_neg h, List.getD_eq_getElem?_getD, List.getElem?_eq_none (by simp; omega)]; rfl
theorem co_tr (z : List UInt8) (i : Nat) : co (tr z) i = co z i := by
 unfold tr
 rw [co_take]
 split
 ·rfl
 ·by_cases h : i < z.length
  ·exact (tl_zero z z.length i (by omega) h).symm
  ·exact (co_ge (by omega)).symm
theorem list_ext {a b : List UInt8} (hl : a.length = b.length) (h : ∀ i, i < a.length -> co a i = co b i) : a = b := by
 refine List.ext_getElem hl fun i h1 h2 => ?_
 have := h i h1
 simpa [co, List.getD_eq_getElem?_getD, h1, h2] using this
theorem tl_more (z : List UInt8) (n : Nat) (h : z.length <= n) : tl z n = tl z z.length := by
 have a := tl_le z z.length
 refine tl_unique z n _ (by omega) (fun i h1 h2 => ?_) (fun h => tl_top z _ h)
 by_cases e : i < z.length
 ·exact tl_zero z z.length i h1 e
 ·exact co_ge (by omega)
theorem tl_congr (a b : List UInt8) (n : Nat) (h : ∀ i, co a i = co b i) : tl a n = tl b n := by
 induction n with
 | zero => rfl
 | succ n ih => rw [tl, tl, h n, ih]
theorem tr_congr {a b : List UInt8} (h : ∀ i, co a i = co b i) : tr a = tr b := by
 have e : tl a a.length = tl b b.length := by
  rw [<- tl_more a (a.length + b.length) (by omega), <- tl_more b (a.length + b.length) (by omega)]
  exact tl_congr a b _ h
 refine list_ext (by rw [tr_length, tr_length, e]) fun i _ => by rw [co_tr, co_tr, h]
theorem tr_tr (z : List UInt8) : tr (tr z) = tr z := tr_congr fun i => co_tr z i
def tab (f : Nat -> UInt8) (n : Nat) : List UInt8 := (List.range n).map f
@[simp] theorem tab_length (f : Nat -> UInt8) (n : Nat) : (tab f n).length = n := by simp [tab]
theorem co_tab (f : Nat -> UInt8) (n i : Nat) (h : i < n) : co (tab f n) i = f i := by
 simp [co, tab, List.getD_eq_getElem?_getD, List.getElem?_range h]
theorem co_tab' (f : Nat -> UInt8) (n i : Nat) (h : ∀ j, n <= j -> f j = 0) : co (tab f n) i = f i := by
 by_cases e : i < n
 ·exact co_tab f n i e
 ·rw [co_ge (by simpa using e), h i (by omega)]
def addL (p q : List UInt8) : List UInt8 := tab (fun i => co p i ^^^ co q i) (max p.length q.length)
def shiftL (p : List UInt8) (n : Nat) : List UInt8 := List.replicate n 0 ++ p
def slopeL (p : List UInt8) : List UInt8 := tab (Gf.pd (co p)) p.length
def mulL (p q : List UInt8) : List UInt8 := tab (Gf.pm p.length (co p) (co q)) (p.length + q.length)
def evL (p : List UInt8) (x : UInt8) : UInt8 := Gf.ev p.length (co p) x
theorem co_addL (p q : List UInt8) (i : Nat) : co (addL p q) i = co p i ^^^ co q i :=
 co_tab' _ _ _ fun j hj => by rw [co_ge (by omega), co_ge (by omega)]; rfl
theorem pm_ge (p q : List UInt8) (k : Nat) (h : p.length + q.length <= k) : Gf.pm p.length (co p) (co q) k = 0 :=
 Gf.sm_zero fun i hi => by
  rw [show Gf.ps i (co q) k = 0 from by unfold Gf.ps; split <;> first | exact co_ge (by omega) | rfl, Gf.gm_zero]
theorem co_mulL (p q : List UInt8) (k : Nat) : co (mulL p q) k = Gf.pm p.length (co p) (co q) k := co_tab' _ _ _ fun j hj => pm_ge p q j hj
theorem co_mulL' (p q : List UInt8) (k : Nat) : co (mulL p q) k = Gf.sm (fun i => Gf.gm (co p i) (co q (k - i))) (k + 1) := by
 rw [co_mulL, Gf.pm_def fun i hi => co_ge hi]
theorem co_shiftL (p : List UInt8) (n i : Nat) : co (shiftL p n) i = Gf.ps n (co p) i := by
 unfold shiftL Gf.ps co
 split
 ·rw [List.getD_eq_getElem?_getD, List.getElem?_append_right (by simpa using by assumption)]; simp [List.getD_eq_getElem?_getD]
 ·rw [List.getD_eq_getElem?_getD, List.getElem?_append_left (by simp; omega)]; simp only [List.getElem?_replicate]; rw [if_pos (by omega)]; rfl
theorem mulL_congr {a b c d : List UInt8} (h : ∀ i, co a i = co b i) (k : ∀ i, co c i = co d i) (i : Nat) : co (mulL a c) i = co (mulL b d) i := by
 rw [co_mulL', co_mulL']
 exact Gf.sm_congr fun j _ => by rw [h, k]
theorem evL_congr {a b : List UInt8} (h : ∀ i, co a i = co b i) (x : UInt8) : evL a x = evL b x := by
 unfold evL
 rw [<- Gf.ev_more (f := co a) (n := a.length) (m := a.length + b.length) (by omega) (fun i hi => co_ge hi), <- Gf.ev_more (f := co b) (n := b.length) (m := a.length + b.length) (by omega) (fun i hi => co_ge hi)]
 exact Gf.ev_congr fun i _ => h i
theorem evL_tr (z : List UInt8) (x : UInt8) : evL (tr z) x = evL z x := evL_congr (co_tr z) x
theorem evL_mul (p q : List UInt8) (x : UInt8) : evL (mulL p q) x = Gf.gm (evL p x) (evL q x) := by
 unfold evL
 rw [<- Gf.ev_pm (N := p.length + q.length) (fun i hi => co_ge hi) (Nat.le_refl _)]
 rw [show (mulL p q).length = p.length + q.length by simp [mulL]]
 exact Gf.ev_congr fun i _ => co_mulL p q i
theorem evL_add (p q : List UInt8) (x : UInt8) : evL (addL p q) x = evL p x ^^^ evL q x := by
 unfold evL
 rw [show (addL p q).length = max p.length q.length by simp [addL], <- Gf.ev_more (f := co p) (n := p.length) (m := max p.length q.length) (by omega) (fun i hi => co_ge hi), <- Gf.ev_more (f := co q) (n := q.length) (m := max p.length q.length) (by omega) (fun i hi => co_ge hi), <- Gf.ev_xor]
 exact Gf.ev_congr fun i _ => co_addL p q i
end Go.Proofs.YtffheegeaghfjaaGreatDoor
namespace Go.Proofs.YtffheegeaghfjaaGreatDoor
namespace Gf
def al (n : Nat) : UInt8 := UInt8.ofNat (ex n)
theorem al_nat (n : Nat) : (al n).toNat = ex n := by
 have := ex_lt n
 simp only [al, UInt8.toNat_ofNat']
 omega
theorem gm_al (n m : Nat) : gm (al n) (al m) = al (n + m) := u8_ext (by rw [gm_nat, al_nat, al_nat, al_nat, mul_ex_ex])
theorem al_inj (n m : Nat) : al n = al m ↔ n % 255 = m % 255 := by
 rw [<- ex_inj, <- al_nat n, <- al_nat m]
 exact ⟨fun h => by rw [h], fun h => u8_ext h⟩
theorem px_al (n k : Nat) : px (al n) k = al (n * k) := by
 induction k with
 | zero => rfl
 | succ k ih => rw [px, ih, gm_al, Nat.mul_succ]
def hv (x : UInt8) (w : List UInt8) : UInt8 := w.foldl (fun v c => gm v x ^^^ c) 0
theorem hv_from (x : UInt8) (w : List UInt8) (v : UInt8) : w.foldl (fun v c => gm v x ^^^ c) v = gm v (px x w.length) ^^^ hv x w := by
 unfold hv
 induction w generalizing v with
 | nil => simp [px, gm_one]
 | cons c w ih =>
  simp only [List.foldl_cons, List.length_cons]
  rw [ih, ih (gm 0 x ^^^ c), px, zero_gm, UInt8.zero_xor, xor_gm, gm_assoc, gm_comm x (px x w.length), UInt8.xor_assoc]
theorem hv_cons (x c : UInt8) (w : List UInt8) : hv x (c :: w) = gm c (px x w.length) ^^^ hv x w := by
 show (c :: w).foldl _ 0 = _
 rw [List.foldl_cons, hv_from, zero_gm, UInt8.zero_xor]
theorem hv_app (x : UInt8) (a b : List UInt8) : hv x (a ++ b) = gm (hv x a) (px x b.length) ^^^ hv x b := by
 show (a ++ b).foldl _ 0 = _
 rw [List.foldl_append, hv_from]
 rfl
theorem hv_snoc (x c : UInt8) (w : List UInt8) : hv x (w ++ [c]) = gm (hv x w) x ^^^ c := by
 unfold hv
 rw [List.foldl_append]
 rfl
theorem hv_zeros (x : UInt8) (n : Nat) : hv x (List.replicate n 0) = 0 := by
 induction n with
 | zero => rfl
 | succ n ih => rw [List.replicate_succ, hv_cons, ih, zero_gm]; rfl
theorem hv_scale (x a : UInt8) (w : List UInt8) : hv x (w.map (gm a)) = gm a (hv x w) := by
 induction w with
 | nil => exact (gm_zero a).symm
 | cons c w ih => rw [List.map_cons, hv_cons, hv_cons, ih, List.length_map, gm_xor, gm_assoc]
def sumW (a b : List UInt8) : List UInt8 := List.zipWith (· ^^^ ·) a b
theorem hv_sum (x : UInt8) (a b : List UInt8) (h : a.length = b.length) : hv x (sumW a b) = hv x a ^^^ hv x b := by
 induction a generalizing b with
 | nil =>
  cases b with
  | nil => exact (by decide : (0 : UInt8) = 0 ^^^ 0)
  | cons d b => cases h
 | cons c a ih =>
  cases b with
  | nil => cases h
  | cons d b =>
   have h := Nat.succ.inj h
   show hv x ((c ^^^ d) :: sumW a b) = _
   rw [hv_cons, ih b h, hv_cons, hv_cons, xor_gm, show (sumW a b).length = a.length by simp [sumW, h], <- h, xor_swap]
end Gf
theorem evL_cons (x c : UInt8) (g : List UInt8) : evL (c :: g) x = c ^^^ Gf.gm (evL g x) x := by
 unfold evL Gf.ev
 rw [List.length_cons, Gf.sm_left]
 have e : ∀ i, Gf.gm (co (c :: g) (i + 1)) (Gf.px x (i + 1)) = Gf.gm x (Gf.gm (co g i) (Gf.px x i)) := fun i => by
  rw [show co (c :: g) (i + 1) = co g i by simp [co], Gf.px, <- Gf.gm_assoc, Gf.gm_comm]
 rw [Gf.sm_congr (G := fun i => Gf.gm x (Gf.gm (co g i) (Gf.px x i))) (fun i _ => e i), Gf.sm_gm, Gf.gm_comm x]
 congr 1
 show Gf.gm c 1 = c
 exact Gf.gm_one c
theorem hv_reverse (x : UInt8) (g : List UInt8) : Gf.hv x g.reverse = evL g x := by
 induction g with
 | nil => rfl
 | cons c g ih => rw [List.reverse_cons, Gf.hv_snoc, ih, evL_cons, UInt8.xor_comm]
namespace Gf
def ls (l : List (UInt8 × UInt8)) (j : Nat) : UInt8 := l.foldr (fun e s => gm e.1 (px e.2 j) ^^^ s) 0
theorem ls_cons (e : UInt8 × UInt8) (l : List (UInt8 × UInt8)) (j : Nat) : ls (e :: l) j = gm e.1 (px e.2 j) ^^^ ls l j := rfl
theorem ls_zero {l : List (UInt8 × UInt8)} (h : ∀ e ∈ l, e.1 = 0) (j : Nat) : ls l j = 0 := by
 induction l with
 | nil => rfl
 | cons e l ih => rw [ls_cons, h e (by simp), zero_gm, ih (fun e he => h e (by simp [he]))]; rfl
theorem ls_turn (y : UInt8) (l : List (UInt8 × UInt8)) (j : Nat) : ls (l.map fun d => (gm d.1 (d.2 ^^^ y), d.2)) j = ls l (j + 1) ^^^ gm y (ls l j) := by
 induction l with
 | nil =>
  show (0 : UInt8) = 0 ^^^ gm y 0
  rw [gm_zero]; rfl
 | cons e l ih =>
  rw [List.map_cons, ls_cons, ls_cons, ls_cons, ih]
  dsimp only
  rw [gm_xor e.1 e.2 y, gm_xor y, xor_swap (gm e.1 (px e.2 (j + 1)))]
  congr 1
  rw [xor_gm, px, gm_assoc, gm_comm e.2, <- gm_assoc y, gm_comm y e.1]
theorem vander : ∀ (l : List (UInt8 × UInt8)), (l.map (·.2)).Nodup -> (∀ j, j < l.length -> ls l j = 0) -> ∀ e ∈ l, e.1 = 0 := by
 intro l
 generalize hn : l.length = n
 induction n generalizing l with
 | zero =>
  intro _ _ e he
  rw [List.eq_nil_of_length_eq_zero hn] at he
  cases he
 | succ n ih =>
  cases l with
  | nil => cases hn
  | cons e l =>
   intro hnd h
   have hl : l.length = n := by simpa using hn
   rw [List.map_cons, List.nodup_cons] at hnd
   have h1 := ih (l.map fun d => (gm d.1 (d.2 ^^^ e.2), d.2)) (by simpa using hl) (by simpa [Function.comp_def] using hnd.2) fun j hj => by
    have h2 := h (j + 1) (by omega)
    have h3 := h j (by omega)
    rw [ls_cons] at h2 h3
    rw [ls_turn]
    have e2 : ls l (j + 1) = gm e.1 (px e.2 (j + 1)) := (xor_eq_zero _ _ h2).symm
    have e3 : ls l j = gm e.1 (px e.2 j) := (xor_eq_zero _ _ h3).symm
    rw [e2, e3, px, <- gm_assoc, gm_comm _ e.2, UInt8.xor_self]
   have h4 : ∀ d ∈ l, d.1 = 0 := by
    intro d hd
    have h5 := h1 (gm d.1 (d.2 ^^^ e.2), d.2) (List.mem_map.2 ⟨d, hd, rfl⟩)
    by_cases h0 : d.2 ^^^ e.2 = 0
    ·exact absurd (List.mem_map.2 ⟨d, hd, xor_eq_zero _ _ h0⟩) hnd.1
    ·rw [gm_comm] at h5
     exact (gm_eq_zero _ _ h0).1 h5
   intro d hd
   rcases List.mem_cons.1 hd with rfl | hd
   ·have h6 := h 0 (by omega)
    rw [ls_cons, ls_zero h4, UInt8.xor_zero] at h6
    rw [show px d.2 0 = 1 from rfl, gm_one] at h6
    exact h6
   ·exact h4 d hd
def pr : List UInt8 -> List (UInt8 × UInt8)
 | [] => []
 | c :: w => (c, al w.length) :: pr w
theorem ls_pr (w : List UInt8) (j : Nat) : ls (pr w) j = hv (al j) w := by
 induction w with
 | nil => rfl
 | cons c w ih => rw [pr, ls_cons, ih, hv_cons, px_al, px_al, Nat.mul_comm]
theorem mem_pr {w : List UInt8} {e : UInt8 × UInt8} (h : e ∈ pr w) : ∃ k, k < w.length /\ e.2 = al k := by
 induction w with
 | nil => cases h
 | cons c w ih =>
  rw [pr] at h
  rcases List.mem_cons.1 h with rfl | h
  ·exact ⟨w.length, by simp, rfl⟩
  ·obtain ⟨k, hk, he⟩ := ih h
   exact ⟨k, by simp; omega, he⟩
theorem pr_nodup (w : List UInt8) (h : w.length <= 255) : ((pr w).map (·.2)).Nodup := by
 induction w with
 | nil => exact List.nodup_nil
 | cons c w ih =>
  simp at h
  rw [pr, List.map_cons, List.nodup_cons]
  refine ⟨fun hm => ?_, ih (by omega)⟩
  obtain ⟨e, he, h2⟩ := List.mem_map.1 hm
  obtain ⟨k, hk, h3⟩ := mem_pr he
  rw [h3] at h2
  have := (al_inj _ _).1 h2
  omega
theorem ls_filter (l : List (UInt8 × UInt8)) (j : Nat) : ls (l.filter (fun e => e.1 != 0)) j = ls l j := by
 induction l with
 | nil => rfl
 | cons e l ih =>
  rw [List.filter_cons]
  split
  ·rw [ls_cons, ls_cons, ih]
  ·rename_i h
   have h0 : e.1 = 0 := by simpa using h
   rw [ls_cons, h0, zero_gm, UInt8.zero_xor, ih]
theorem pr_weight (w : List UInt8) : ((pr w).filter (fun e => e.1 != 0)).length = w.countP (· != 0) := by
 induction w with
 | nil => rfl
 | cons c w ih =>
  rw [pr, List.filter_cons, List.countP_cons]
  split
  ·rename_i h
   have h : (c != 0) = true := h
   rw [List.length_cons, ih]
  ·rename_i h
   have h : ¬ (c != 0) = true := h
   rw [ih]
   simp
theorem pr_fst (w : List UInt8) : (pr w).map (·.1) = w := by
 induction w with
 | nil => rfl
 | cons c w ih => rw [pr, List.map_cons, ih]
theorem few_zero (w : List UInt8) (n : Nat) (hl : w.length <= 255) (hw : w.countP (· != 0) <= n) (h : ∀ j, j < n -> hv (al j) w = 0) : ∀ c ∈ w, c = 0 := by
 have hv := vander ((pr w).filter (fun e => e.1 != 0)) ((List.filter_sublist.map _).nodup (pr_nodup w hl)) fun j hj => by
  rw [pr_weight] at hj
  rw [ls_filter, ls_pr]
  exact h j (by omega)
 intro c hc
 rw [<- pr_fst w] at hc
 obtain ⟨e, he, rfl⟩ := List.mem_map.1 hc
 by_cases h0 : e.1 = 0
 ·exact h0
 ·exact hv e (List.mem_filter.2 ⟨he, by simpa using h0⟩)
end Gf
def IsCode (w : List UInt8) : Prop := ∀ j, j < 32 -> Gf.hv (Gf.al j) w = 0
instance (w : List UInt8) : Decidable (IsCode w) := inferInstanceAs (Decidable (∀ j, j < 32 -> _))
theorem IsCode.sum {a b : List UInt8} (h : IsCode a) (k : IsCode b) (hl : a.length = b.length) : IsCode (Gf.sumW a b) := fun j hj => by
 rw [Gf.hv_sum _ _ _ hl, h j hj, k j hj]; rfl
theorem sumW_zero {a b : List UInt8} (hl : a.length = b.length) (h : ∀ c ∈ Gf.sumW a b, c = 0) : a = b := by
 induction a generalizing b with
 | nil =>
  cases b with
  | nil => rfl
  | cons d b => cases hl
 | cons c a ih =>
  cases b with
  | nil => cases hl
  | cons d b =>
   have e : Gf.sumW (c :: a) (d :: b) = (c ^^^ d) :: Gf.sumW a b := rfl
   rw [e] at h
   rw [Gf.xor_eq_zero c d (h _ (by simp)), ih (Nat.succ.inj hl) (fun x hx => h x (by simp [hx]))]
def diffs (a b : List UInt8) : Nat := (Gf.sumW a b).countP (· != 0)
theorem IsCode.apart {a b : List UInt8} (h : IsCode a) (k : IsCode b) (hl : a.length = b.length) (hn : a.length <= 255) (hd : diffs a b <= 32) : a = b :=
 sumW_zero hl (Gf.few_zero _ 32 (by simp [Gf.sumW]; omega) hd (h.sum k hl))
theorem sumW_app (a b r s : List UInt8) (h : a.length = b.length) : Gf.sumW (a ++ r) (b ++ s) = Gf.sumW a b ++ Gf.sumW r s := List.zipWith_append h
theorem sumW_self (a : List UInt8) : Gf.sumW a a = List.replicate a.length 0 := by
 induction a with
 | nil => rfl
 | cons c a ih =>
  show (c ^^^ c) :: Gf.sumW a a = _
  rw [UInt8.xor_self, ih, List.length_cons, List.replicate_succ]
theorem IsCode.only {d r s : List UInt8} (h : IsCode (d ++ r)) (k : IsCode (d ++ s)) (hr : r.length = 32) (hs : s.length = 32) (hn : d.length <= 223) : r = s := by
 have e := h.apart k (by simp [hr, hs]) (by simp [hr]; omega) (by
  unfold diffs
  rw [sumW_app _ _ _ _ rfl, sumW_self, List.countP_append]
  have h1 : (List.replicate d.length (0 : UInt8)).countP (· != 0) = 0 := by
   rw [List.countP_eq_zero]
   intro c hc
   rw [(List.mem_replicate.1 hc).2]
   decide
  have h2 : (Gf.sumW r s).countP (· != 0) <= (Gf.sumW r s).length := List.countP_le_length
  have h3 : (Gf.sumW r s).length = 32 := by simp [Gf.sumW, hr, hs]
  omega)
 exact List.append_cancel_left e
end Go.Proofs.YtffheegeaghfjaaGreatDoor
namespace Go.Proofs.YtffheegeaghfjaaGreatDoor
namespace Gf
def inv (a : Nat) : Nat := pw a 254
theorem inv_lt (a : Nat) : inv a < 256 := pw_lt _ _
theorem mul_inv (a : Nat) (h0 : a ≠ 0) (ha : a < 256) : mul a (inv a) = 1 := by
 obtain ⟨n, _, rfl⟩ := ex_of a h0 ha
 unfold inv
 rw [pw_ex, mul_ex_ex, <- ex_mod, show (n + n * 254) % 255 = 0 by omega]; rfl
end Gf
end Go.Proofs.YtffheegeaghfjaaGreatDoor
