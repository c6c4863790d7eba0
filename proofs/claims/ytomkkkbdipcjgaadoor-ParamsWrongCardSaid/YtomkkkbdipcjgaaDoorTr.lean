/- append: where the row then lies; rows that are kept by what grows another. Trees, plain: digests of leaves, of nodes; how leaves are split; roots; whole trees on a stack; clashes. The code's Depth, Split; slices.Concat of any rows; Outer. -/
import Derived.Test.YtomkkkbdipcjgaaDoorHk
import Derived.Test.YtomkkkbdipcjgaaDoorHp
import Derived.Maps.AppendAt
import Derived.Stop.BytesEq
import Derived.Test.YtomkkkbdipcjgaaDoorMac
import Derived.Test.YtomkkkbdipcjgaaDoorPe
import Derived.Test.YtomkkkbdipcjgaaDoorLen
namespace Go.Proofs.YtomkkkbdipcjgaaDoor
open Go.RowKit
set_option linter.unusedVariables false
set_option linter.unusedSimpArgs false
/-- append, and where the row then lies -/
theorem append_row_at {ops : Array Oper} {rest : List Oper} {o : Oper} {a : Act} {Q : Exit → Act → World → Prop} {w : World} (hgd : o.guard = none) (s x : Operand)
    (ho : o.op = .call { callee := .builtin .append, args := #[s, x], argTypes := #[36, 36] })
    (base : Nat) (v : Value) (n : Nat) (z : List UInt8) (hs : a.eval s = v) (hown : w.ownsRow base 5 1 v n (bytesV z))
    (ad : Option Addr) (m c : Nat) (y : List UInt8) (hx : a.eval x = .slice ad m c) (hm : m = y.length) (hrow : RowIs w ad (bytesV y) c) (hl : n + m ≤ 10000000) (hbase : base ≤ w.heap.size)
    (h : ∀ v' w', w'.ownsRow base 5 1 v' (n + m) (bytesV (z ++ y)) → w.grownBy w' v.ownBlock → (v'.ownBlock = v.ownBlock ∨ v'.ownBlock = some w.heap.size) → wpList Tryd.prog ops Q rest (a.put o.dst v') w') : wpList Tryd.prog ops Q (o :: rest) a w := by
  obtain ⟨i0, hi, hz0, hz1, hz2⟩ := info_parts info_u8
  have e : bytesV (z ++ y) = bytesV z ++ bytesV y := by simp [bytesV]
  rw [e] at h
  subst hm
  cases ad with
  | none =>
    have h0 := hrow.nil rfl
    have hle := hrow.le
    simp only [bytesV_length] at hle
    obtain rfl : y = [] := List.eq_nil_of_length_eq_zero (by omega)
    subst h0
    refine wpList_append_own_none hgd s x 36 ho base 5 i0 1 Tryd.underlying36 hi v n (bytesV z) hs hown hx ?_
    exact h v w (by simpa [bytesV] using hown) ⟨rfl, rfl, rfl, Nat.le_refl _, fun _ _ _ => rfl⟩ (.inl rfl)
  | some ad =>
    refine wpList_append_own_at w hgd s x 36 ho base 5 i0 (.int .u8 0) 1 1 Tryd.underlying36 hi hz0 hz1 hz2 rfl (by decide) v n (bytesV z) hs hown ad y.length c (bytesV y) hx (by simp) (hrow.adds ad rfl) (bytesV_one y) (by unfold maxLen; omega) (by omega) hbase ?_
    intro v' w' h1 h2 _ h4
    exact h v' w' h1 h2 h4
theorem below_new0 (w : World) (o : Obj) : Below w.heap.size w (w.alloc o) := (Below.refl _ _).alloc (Nat.le_refl _) _
theorem own_kept {T : TypeId} {base n : Nat} {W W' : World} {v : Value} {xs : List Value} {r : Option Nat} (h : W.ownsRow base T 1 v n xs) (hg : W.grownBy W' r) (hne : v.ownBlock = none ∨ v.ownBlock ≠ r) : W'.ownsRow base T 1 v n xs := by
  obtain ⟨hl, hx⟩ := h
  refine ⟨hl, ?_⟩
  rcases hx with h0 | ⟨g, cap, cur, rfl, hb, hh, rest⟩
  · exact .inl h0
  · refine .inr ⟨g, cap, cur, rfl, hb, ?_, rest⟩
    rw [hg.block g (Array.getElem?_eq_some_iff.1 hh).1 (by rcases hne with h | h; (· cases h); exact h)]
    exact hh
theorem own_apart {T T' : TypeId} {X : World} {b b' n n' : Nat} {v v' : Value} {xs xs' : List Value} (h : X.ownsRow b T 1 v n xs) (h' : X.ownsRow b' T' 1 v' n' xs') (hT : T ≠ T') : v.ownBlock = none ∨ v.ownBlock ≠ v'.ownBlock := by
  rcases h.2 with ⟨rfl, _⟩ | ⟨g, cap, cur, rfl, _, h1, _⟩
  · exact .inl rfl
  · refine .inr fun e => ?_
    rcases h'.2 with ⟨rfl, _⟩ | ⟨g', cap', cur', rfl, _, h2, _⟩
    · cases e
    · cases e
      rw [h1] at h2
      injection h2 with h2
      injection h2 with _ h2 _
      exact hT h2
theorem mark_apart {T : TypeId} {X : World} {b n B : Nat} {v : Value} {xs : List Value} {z : List UInt8} (h : X.ownsRow b T 1 v n xs) (hM : MarkedAt X B z) (hT : T ≠ 5) : some B ≠ v.ownBlock := fun e => by
  rcases h.2 with ⟨rfl, _⟩ | ⟨g, cap, cur, rfl, _, h1, _⟩
  · cases e
  · cases e
    unfold MarkedAt at hM
    rw [hM] at h1
    injection h1 with h1
    injection h1 with _ h1 _
    exact hT h1.symm
theorem mark_kept {W W' : World} {B : Nat} {z : List UInt8} {r : Option Nat} (h : MarkedAt W B z) (hg : W.grownBy W' r) (hne : some B ≠ r) : MarkedAt W' B z := by
  unfold MarkedAt
  rw [hg.block B h.lt hne]; exact h
theorem d32_eql (xs ys : List UInt8) (hx : xs.length = 32) (hy : ys.length = 32) (w : World) : (binOp .eql 125 (.agg (bytesV xs).toArray) (.agg (bytesV ys).toArray)).run Tryd.prog w = .ok (.bool (xs == ys)) w :=
  run_eql_bytes w 125 5 32 d32_under Tryd.underlying5 (fun w => by
    obtain ⟨i0, hi, _, hz1, _⟩ := info_parts info_u8
    simp [sizeOf, typeInfo, hi, hz1]) xs ys hx hy
theorem d32_neq (xs ys : List UInt8) (hx : xs.length = 32) (hy : ys.length = 32) (w : World) : (binOp .neq 125 (.agg (bytesV xs).toArray) (.agg (bytesV ys).toArray)).run Tryd.prog w = .ok (.bool (!(xs == ys))) w := by
  have h := run_equalIn_bytes (P := Tryd.prog) w 9998 125 5 32 d32_under Tryd.underlying5 (fun w => by
    obtain ⟨i0, hi, _, hz1, _⟩ := info_parts info_u8
    simp [sizeOf, typeInfo, hi, hz1]) xs ys hx hy
  have h' : (Op.equalIn 10000 125 (.agg (bytesV xs).toArray) (.agg (bytesV ys).toArray)).run Tryd.prog w = .ok (xs == ys) w := h
  rw [run_neq_struct, h']
  rfl
theorem d32_guard : Tryd.prog.eqGuardType Tryd.prog.depth 125 = false := by kernel_rfl
theorem RowIs.pre {W : World} {o : Option Addr} {A : List UInt8} {c : Nat} (h : RowIs W o (bytesV A) c) (n : Nat) (hn : n ≤ A.length) : RowIs W o (bytesV (A.take n)) c := by
  have hle := h.le
  simp only [bytesV_length] at hle
  refine ⟨by rw [bytesV_length, List.length_take]; omega, h.cap, h.nil, fun h0 => ?_⟩
  have h1 : 0 < n ∧ 0 < A.length := by rw [bytesV_length, List.length_take] at h0; omega
  obtain ⟨b, off, e, hlt, hc⟩ := h.cells (by rw [bytesV_length]; exact h1.2)
  refine ⟨b, off, e, hlt, fun i v hv => hc i v ?_⟩
  have hi : i < n := by have := (List.getElem?_eq_some_iff.1 hv).1; rw [bytesV_length, List.length_take] at this; omega
  rw [← hv]
  simp [bytesV, List.getElem?_take, hi]
end Go.Proofs.YtomkkkbdipcjgaaDoor
namespace Go.Proofs.YtomkkkbdipcjgaaDoor.Da
set_option linter.unusedVariables false
/-- a leaf's digest, a node's -/
def lf (b : List UInt8) : List UInt8 := sha (0 :: b)
def nd (l r : List UInt8) : List UInt8 := sha (1 :: (l ++ r))
theorem lf_length (b : List UInt8) : (lf b).length = 32 := sha_length _
theorem nd_length (l r : List UInt8) : (nd l r).length = 32 := sha_length _
/-- how deep leaves stand: how many bits n - 1 has; how many stand left -/
def dpt (n : Nat) : Nat := if n < 2 then 0 else (n - 1).log2 + 1
def spl (n : Nat) : Nat := if n < 2 then 0 else 2 ^ (n - 1).log2
theorem spl_lt {n : Nat} (h : 2 ≤ n) : 1 ≤ spl n ∧ spl n < n ∧ n ≤ 2 * spl n := by
  unfold spl
  rw [if_neg (by omega)]
  have h1 : 2 ^ (n - 1).log2 ≤ n - 1 := Nat.log2_self_le (by omega)
  have h2 : n - 1 < 2 ^ ((n - 1).log2 + 1) := Nat.lt_log2_self
  rw [Nat.pow_succ] at h2
  have h3 : 0 < 2 ^ (n - 1).log2 := Nat.two_pow_pos _
  omega
theorem spl_only {n j : Nat} (h : 2 ^ j < n) (k : n ≤ 2 * 2 ^ j) : spl n = 2 ^ j := by
  have h0 : 0 < 2 ^ j := Nat.two_pow_pos _
  unfold spl
  rw [if_neg (by omega)]
  have : (n - 1).log2 = j := by
    rw [Nat.log2_eq_iff (by omega), Nat.pow_succ]
    omega
  rw [this]
/-- the root over digests -/
def ov (l : List (List UInt8)) : List UInt8 :=
  if h0 : l.length = 0 then sha []
  else if h1 : l.length = 1 then l.headD []
  else nd (ov (l.take (spl l.length))) (ov (l.drop (spl l.length)))
termination_by l.length
decreasing_by
  all_goals
    have := spl_lt (n := l.length) (by omega)
    simp
    omega
theorem ov_nil : ov [] = sha [] := by rw [ov]; rfl
theorem ov_one (d : List UInt8) : ov [d] = d := by rw [ov]; rfl
theorem ov_two {l : List (List UInt8)} (h : 2 ≤ l.length) : ov l = nd (ov (l.take (spl l.length))) (ov (l.drop (spl l.length))) := by
  rw [ov]
  rw [dif_neg (by omega), dif_neg (by omega)]
theorem ov_join {s a : List (List UInt8)} {j : Nat} (hs : s.length = 2 ^ j) (h0 : 0 < a.length) (h1 : a.length ≤ 2 ^ j) : ov (s ++ a) = nd (ov s) (ov a) := by
  have hp : 0 < 2 ^ j := Nat.two_pow_pos _
  have e : spl (s ++ a).length = s.length := by
    rw [hs]
    exact spl_only (by rw [List.length_append]; omega) (by rw [List.length_append]; omega)
  rw [ov_two (by rw [List.length_append]; omega), e, List.take_left, List.drop_left]
theorem ov_length {l : List (List UInt8)} (h : ∀ d ∈ l, d.length = 32) : (ov l).length = 32 := by
  rw [ov]
  split
  · exact sha_length _
  · split
    · cases l with
      | nil => simp at *
      | cons d l => exact h d (by simp)
    · exact sha_length _
/-- whole trees, the least first: c leaves of level j -/
inductive Wt : Nat → Nat → List (List (List UInt8)) → Prop
  | nil (j : Nat) : Wt j 0 []
  | even {j c : Nat} {r : List (List (List UInt8))} : Wt (j + 1) c r → Wt j (2 * c) r
  | odd {j c : Nat} {s : List (List UInt8)} {r : List (List (List UInt8))} : s.length = 2 ^ j → Wt (j + 1) c r → Wt j (2 * c + 1) (s :: r)
theorem Wt.half {j c : Nat} {r : List (List (List UInt8))} (h : Wt j c r) (hc : c % 2 = 0) : Wt (j + 1) (c / 2) r := by
  cases h with
  | nil => exact .nil _
  | @even _ c' _ h => rw [show 2 * c' / 2 = c' by omega]; exact h
  | odd hs h => omega
theorem Wt.last {j c : Nat} {r : List (List (List UInt8))} (h : Wt j c r) (hc : c % 2 = 1) : ∃ s r', r = s :: r' ∧ s.length = 2 ^ j ∧ Wt (j + 1) (c / 2) r' := by
  cases h with
  | nil => omega
  | even h => omega
  | @odd _ c' s r' hs h => exact ⟨s, r', rfl, hs, by rw [show (2 * c' + 1) / 2 = c' by omega]; exact h⟩
theorem Wt.push {j c : Nat} {r : List (List (List UInt8))} (h : Wt j c r) (hc : c % 2 = 0) {s : List (List UInt8)} (hs : s.length = 2 ^ j) : Wt j (c + 1) (s :: r) := by
  have := Wt.odd hs (h.half hc)
  rwa [show 2 * (c / 2) + 1 = c + 1 by omega] at this
/-- the trees' roots joined: from the least on -/
def jn (a : List UInt8) (r : List (List (List UInt8))) : List UInt8 := r.foldl (fun x s => nd (ov s) x) a
theorem Wt.join {j c : Nat} {r : List (List (List UInt8))} (h : Wt j c r) : ∀ (a : List (List UInt8)), 0 < a.length → a.length ≤ 2 ^ j → jn (ov a) r = ov (r.reverse.flatten ++ a) := by
  induction h with
  | nil j => intro a _ _; simp [jn]
  | even h ih => intro a h0 h1; exact ih a h0 (by rw [Nat.pow_succ]; omega)
  | @odd j c s r hs h ih =>
    intro a h0 h1
    show jn (nd (ov s) (ov a)) r = _
    rw [← ov_join hs h0 h1, ih (s ++ a) (by rw [List.length_append]; omega) (by rw [List.length_append, Nat.pow_succ]; omega)]
    simp
theorem Wt.length {j c : Nat} {r : List (List (List UInt8))} (h : Wt j c r) : r.flatten.length = 2 ^ j * c := by
  induction h with
  | nil j => simp
  | even h ih => rw [ih, Nat.pow_succ, Nat.mul_assoc]
  | @odd j c s r hs h ih => rw [List.flatten_cons, List.length_append, hs, ih, Nat.pow_succ, Nat.mul_add, Nat.mul_one, Nat.mul_assoc, Nat.add_comm]
theorem Wt.deep {j c : Nat} {r : List (List (List UInt8))} (h : Wt j c r) : ∀ n, c < 2 ^ n → r.length ≤ n := by
  induction h with
  | nil j => intro n _; exact Nat.zero_le _
  | even h ih =>
    intro n hn
    cases n with
    | zero => have := ih 0 (by simp at hn ⊢; omega); omega
    | succ n => have := ih n (by rw [Nat.pow_succ] at hn; omega); omega
  | odd hs h ih =>
    intro n hn
    cases n with
    | zero => simp at hn
    | succ n => have := ih n (by rw [Nat.pow_succ] at hn; omega); simp; omega
/-- the whole stack joined -/
theorem Wt.top {j c : Nat} {r : List (List (List UInt8))} (h : Wt j c r) : ∀ s r', r = s :: r' → jn (ov s) r' = ov (r.reverse.flatten) := by
  induction h with
  | nil j => intro s r' e; cases e
  | even h ih => exact ih
  | @odd j c s r hs h ih =>
    intro s' r' e
    cases e
    have hp : 0 < 2 ^ j := Nat.two_pow_pos _
    rw [h.join s (by omega) (by rw [Nat.pow_succ]; omega)]
    simp
/-- the root of leaves -/
def mth (l : List (List UInt8)) : List UInt8 := ov (l.map lf)
theorem mth_length (l : List (List UInt8)) : (mth l).length = 32 := ov_length (by simp only [List.mem_map]; rintro d ⟨b, _, rfl⟩; exact lf_length b)
theorem mth_nil : mth [] = sha [] := ov_nil
theorem mth_one (b : List UInt8) : mth [b] = lf b := ov_one _
theorem mth_two {l : List (List UInt8)} (h : 2 ≤ l.length) : mth l = nd (mth (l.take (spl l.length))) (mth (l.drop (spl l.length))) := by
  unfold mth
  rw [ov_two (by simpa using h)]
  simp [List.map_take, List.map_drop]
/-- a clash among what two roots are made of -/
def cls (a b : List (List UInt8)) : Bool :=
  if h0 : a.length = 0 then false
  else if h1 : a.length = 1 then !(a.headD [] == b.headD []) && lf (a.headD []) == lf (b.headD [])
  else
    if (1 :: (mth (a.take (spl a.length)) ++ mth (a.drop (spl a.length))) : List UInt8) = 1 :: (mth (b.take (spl a.length)) ++ mth (b.drop (spl a.length))) then
      cls (a.take (spl a.length)) (b.take (spl a.length)) || cls (a.drop (spl a.length)) (b.drop (spl a.length))
    else sha (1 :: (mth (a.take (spl a.length)) ++ mth (a.drop (spl a.length)))) == sha (1 :: (mth (b.take (spl a.length)) ++ mth (b.drop (spl a.length))))
termination_by a.length
decreasing_by
  all_goals
    have := spl_lt (n := a.length) (by omega)
    simp
    omega
theorem cls_nil (a b : List (List UInt8)) (h : a.length = 0) : cls a b = false := by rw [cls, dif_pos h]
theorem cls_one (x y : List UInt8) : cls [x] [y] = (!(x == y) && lf x == lf y) := by rw [cls]; simp
theorem cls_same {a b : List (List UInt8)} (h : 2 ≤ a.length) (e : (1 :: (mth (a.take (spl a.length)) ++ mth (a.drop (spl a.length))) : List UInt8) = 1 :: (mth (b.take (spl a.length)) ++ mth (b.drop (spl a.length)))) :
    cls a b = (cls (a.take (spl a.length)) (b.take (spl a.length)) || cls (a.drop (spl a.length)) (b.drop (spl a.length))) := by
  rw [cls, dif_neg (by omega), dif_neg (by omega), if_pos e]
theorem cls_else {a b : List (List UInt8)} (h : 2 ≤ a.length) (e : (1 :: (mth (a.take (spl a.length)) ++ mth (a.drop (spl a.length))) : List UInt8) ≠ 1 :: (mth (b.take (spl a.length)) ++ mth (b.drop (spl a.length)))) :
    cls a b = (sha (1 :: (mth (a.take (spl a.length)) ++ mth (a.drop (spl a.length)))) == sha (1 :: (mth (b.take (spl a.length)) ++ mth (b.drop (spl a.length))))) := by
  rw [cls, dif_neg (by omega), dif_neg (by omega), if_neg e]
theorem cls_true : ∀ (n : Nat) (a b : List (List UInt8)), a.length = n → b.length = n → a ≠ b → mth a = mth b → cls a b = true := by
  intro n
  induction n using Nat.strongRecOn with
  | ind n ih =>
    intro a b ha hb hne he
    by_cases h0 : n = 0
    · exact absurd (by rw [List.eq_nil_of_length_eq_zero (by omega : a.length = 0), List.eq_nil_of_length_eq_zero (by omega : b.length = 0)]) hne
    by_cases h1 : n = 1
    · subst h1
      obtain ⟨x, rfl⟩ := List.length_eq_one_iff.1 ha
      obtain ⟨y, rfl⟩ := List.length_eq_one_iff.1 hb
      rw [cls_one]
      rw [mth_one, mth_one] at he
      have : x ≠ y := fun e => hne (by rw [e])
      simp [he, this]
    have h2 : 2 ≤ a.length := by omega
    obtain ⟨s1, s2, _⟩ := spl_lt (n := n) (by omega)
    rw [mth_two h2, mth_two (l := b) (by omega), hb, ← ha] at he
    rw [← ha] at s1 s2
    obtain ⟨k, hk⟩ : ∃ k, spl a.length = k := ⟨_, rfl⟩
    by_cases e : (1 :: (mth (a.take (spl a.length)) ++ mth (a.drop (spl a.length))) : List UInt8) = 1 :: (mth (b.take (spl a.length)) ++ mth (b.drop (spl a.length)))
    · rw [cls_same h2 e]
      rw [hk] at e s1 s2 ⊢
      obtain ⟨e1, e2⟩ := List.append_inj (List.cons.inj e).2 (by rw [mth_length, mth_length])
      by_cases hl : a.take k = b.take k
      · have hr : a.drop k ≠ b.drop k := fun hr => hne (by rw [← List.take_append_drop k a, ← List.take_append_drop k b, hl, hr])
        rw [ih (n - k) (by omega) _ _ (by rw [List.length_drop]; omega) (by rw [List.length_drop]; omega) hr e2, Bool.or_true]
      · rw [ih k (by omega) _ _ (by rw [List.length_take]; omega) (by rw [List.length_take]; omega) hl e1, Bool.true_or]
    · rw [cls_else h2 e]
      simp only [nd] at he
      rw [he]
      simp
theorem bitLen_log (x : Nat) (h : x < 2 ^ 64) : Lib.bitLen x = if x = 0 then 0 else x.log2 + 1 := by
  induction x using Nat.strongRecOn with
  | ind x ih =>
    by_cases h0 : x = 0
    · subst h0; rfl
    · rw [Lib.bitLen_half x h0 h, ih (x / 2) (by omega) (by omega), if_neg h0]
      by_cases h1 : x / 2 = 0
      · obtain rfl : x = 1 := by omega
        rfl
      · have e : x.log2 = (x / 2).log2 + 1 := by rw [Nat.log2_def x, if_pos (by omega)]
        rw [if_neg h1, e]; omega
theorem dpt_bits {n : Nat} (h : 2 ≤ n) (k : n ≤ 2 ^ 64) : dpt n = Lib.bitLen (n - 1) := by
  rw [bitLen_log _ (by omega), if_neg (by omega), dpt, if_neg (by omega)]
theorem spl_dpt {n : Nat} (h : 2 ≤ n) : spl n = 2 ^ (dpt n - 1) ∧ 1 ≤ dpt n := by
  unfold spl dpt
  rw [if_neg (by omega), if_neg (by omega)]
  exact ⟨by simp, by omega⟩
theorem dpt_le {n : Nat} (h : n < 2 ^ 63) : dpt n ≤ 63 := by
  unfold dpt
  split
  · omega
  · have := (Nat.log2_lt (n := n - 1) (k := 63) (by omega)).2 (by omega)
    omega
/-- how deep: the least power of two that is no less -/
theorem dpt_only {n d : Nat} (h : 2 ≤ n) (h1 : n ≤ 2 ^ d) (h2 : 2 ^ d < 2 * n) : dpt n = d := by
  unfold dpt
  rw [if_neg (by omega)]
  cases d with
  | zero => simp at h1; omega
  | succ d =>
    rw [Nat.pow_succ] at h1 h2
    have : (n - 1).log2 = d := by
      rw [Nat.log2_eq_iff (by omega), Nat.pow_succ]
      omega
    rw [this]
end Go.Proofs.YtomkkkbdipcjgaaDoor.Da
namespace Go.Proofs.YtomkkkbdipcjgaaDoor
open Go.RowKit
set_option linter.unusedVariables false
set_option linter.unusedSimpArgs false
theorem shl_one (k : Nat) (h : k ≤ 62) (yk : IntKind) : Op.shift .shl .i64 1 yk (k : Int) = pure (.int .i64 ((2 ^ k : Nat) : Int)) := by
  have hb : 2 ^ k ≤ 2 ^ 62 := Nat.pow_le_pow_right (by omega) h
  have e : (1 : Int) * 2 ^ ((k : Int)).toNat = ((2 ^ k : Nat) : Int) := by
    rw [Int.toNat_natCast, Int.one_mul]; simp
  rw [Go.shift_shl .i64 yk 1 (k : Int) (by omega) (by show (k : Int) ≤ (64 : Nat); omega), e]
  obtain ⟨F, hF⟩ : ∃ F, 2 ^ k = F := ⟨_, rfl⟩
  rw [hF] at hb ⊢
  rw [show IntKind.i64.wrap (F : Int) = (F : Int) by rw [IntKind.wrap_i64]; omega]
theorem one_wrap (k : Nat) (h : k ≤ 62) : wrap64 (2 ^ k) = ((2 ^ k : Nat) : Int) := by
  have hb : 2 ^ k ≤ 2 ^ 62 := Nat.pow_le_pow_right (by omega) h
  have e : (2 : Int) ^ k = ((2 ^ k : Nat) : Int) := by simp
  rw [e]
  obtain ⟨F, hF⟩ : ∃ F, 2 ^ k = F := ⟨_, rfl⟩
  rw [hF] at hb ⊢
  exact IntWalk.wrap64_in _ ⟨by omega, by omega⟩
/-- slices.Concat of any rows -/
def CcvAt (bs : List (List UInt8)) (w : World) (s iv : Value) (wr : World) : Prop := ∃ k : Nat, k ≤ bs.length ∧ iv = .int .i64 k ∧ s = .int .i64 ((bs.take k).flatten.length : Nat) ∧ wr = w
def CcwAt (bs : List (List UInt8)) (w : World) (v iv : Value) (wr : World) : Prop :=
  ∃ (k B : Nat), k ≤ bs.length ∧ B = (bs.take k).flatten.length ∧ iv = .int .i64 k ∧ wr.ownsRow w.heap.size 5 1 v B (bytesV (bs.take k).flatten) ∧ Below w.heap.size w wr
theorem zrow12 (x : UInt8) (w : World) : RowIs (w.alloc (.cells #[.int .u8 (x.toNat : Int)] 5)) (some ⟨w.heap.size, 0, none⟩) (bytesV [x]) 1 :=
  ⟨by simp, by unfold maxLen; decide, (fun e => by cases e), fun _ => ⟨w.heap.size, 0, rfl, by simp, fun i v hv => by
    rw [Nat.zero_add, cell_of_row _ _ _ _ _ _ (World.alloc_heap_new _ _)]
    simpa [bytesV] using hv⟩⟩
theorem new12 (w : World) (o : Obj) : Below w.heap.size w (w.alloc o) := (Below.refl _ _).alloc (Nat.le_refl _) _
/-- the document's split -/
def Rsp (n : Nat) (w : World) (k : Value) (wr : World) : Prop := ∃ j : Nat, k = .int .i64 ((2 ^ j : Nat) : Int) ∧ 2 ^ j < n ∧ wr = w
def Tsp (n : Nat) (w : World) (d k : Value) (wr : World) : Prop := ∃ j : Nat, d = .int .i64 (j : Int) ∧ k = .int .i64 ((2 ^ j : Nat) : Int) ∧ 2 ^ j < 2 * n ∧ j ≤ 41 ∧ wr = w
end Go.Proofs.YtomkkkbdipcjgaaDoor
