/- Trees, plain: digests of leaves, of nodes; how leaves are split; roots; whole trees on a stack; clashes. The code's Depth, Split; slices.Concat of any rows; Outer. -/
import Derived.Test.YtfccpfmgkpcnoaaDoorMac
import Derived.Test.YtfccpfmgkpcnoaaDoorApa
import Derived.Test.YtfccpfmgkpcnoaaDoorPe
import Derived.Test.YtfccpfmgkpcnoaaDoorLen
namespace Go.Proofs.YtfccpfmgkpcnoaaDoor.Da
set_option linter.unusedVariables false
/-- a leaf's digest, a node's -/
def lf (b : List UInt8) : List UInt8 := sha (0 :: b)
def nd (l r : List UInt8) : List UInt8 := sha (1 :: (l ++ r))
theorem lf_length (b : List UInt8) : (lf b).length = 32 := sha_length _
theorem nd_length (l r : List UInt8) : (nd l r).length = 32 := sha_length _
/-- how deep leaves stand: how many bits n - 1 has; how many stand left -/
def dpt (n : Nat) : Nat := if n < 2 then 0 else (n - 1).log2 + 1
def spl (n : Nat) : Nat := if n < 2 then 0 else 2 ^ (n - 1).log2
theorem spl_lt {n : Nat} (h : 2 ≤ n) : 1 ≤ spl n ∧ spl n < n ∧ n ≤ 2 * spl n := by
  unfold spl
  rw [if_neg (by omega)]
  have h1 : 2 ^ (n - 1).log2 ≤ n - 1 := Nat.log2_self_le (by omega)
  have h2 : n - 1 < 2 ^ ((n - 1).log2 + 1) := Nat.lt_log2_self
  rw [Nat.pow_succ] at h2
  have h3 : 0 < 2 ^ (n - 1).log2 := Nat.two_pow_pos _
  omega
theorem spl_only {n j : Nat} (h : 2 ^ j < n) (k : n ≤ 2 * 2 ^ j) : spl n = 2 ^ j := by
  have h0 : 0 < 2 ^ j := Nat.two_pow_pos _
  unfold spl
  rw [if_neg (by omega)]
  have : (n - 1).log2 = j := by
    rw [Nat.log2_eq_iff (by omega), Nat.pow_succ]
    omega
  rw [this]
/-- the root over digests -/
def ov (l : List (List UInt8)) : List UInt8 :=
  if h0 : l.length = 0 then sha []
  else if h1 : l.length = 1 then l.headD []
  else nd (ov (l.take (spl l.length))) (ov (l.drop (spl l.length)))
termination_by l.length
decreasing_by
  all_goals
    have := spl_lt (n := l.length) (by omega)
    simp
    omega
theorem ov_nil : ov [] = sha [] := by rw [ov]; rfl
theorem ov_one (d : List UInt8) : ov [d] = d := by rw [ov]; rfl
theorem ov_two {l : List (List UInt8)} (h : 2 ≤ l.length) : ov l = nd (ov (l.take (spl l.length))) (ov (l.drop (spl l.length))) := by
  rw [ov]
  rw [dif_neg (by omega), dif_neg (by omega)]
theorem ov_join {s a : List (List UInt8)} {j : Nat} (hs : s.length = 2 ^ j) (h0 : 0 < a.length) (h1 : a.length ≤ 2 ^ j) : ov (s ++ a) = nd (ov s) (ov a) := by
  have hp : 0 < 2 ^ j := Nat.two_pow_pos _
  have e : spl (s ++ a).length = s.length := by
    rw [hs]
    exact spl_only (by rw [List.length_append]; omega) (by rw [List.length_append]; omega)
  rw [ov_two (by rw [List.length_append]; omega), e, List.take_left, List.drop_left]
theorem ov_length {l : List (List UInt8)} (h : ∀ d ∈ l, d.length = 32) : (ov l).length = 32 := by
  rw [ov]
  split
  · exact sha_length _
  · split
    · cases l with
      | nil => simp at *
      | cons d l => exact h d (by simp)
    · exact sha_length _
/-- whole trees, the least first: c leaves of level j -/
inductive Wt : Nat → Nat → List (List (List UInt8)) → Prop
  | nil (j : Nat) : Wt j 0 []
  | even {j c : Nat} {r : List (List (List UInt8))} : Wt (j + 1) c r → Wt j (2 * c) r
  | odd {j c : Nat} {s : List (List UInt8)} {r : List (List (List UInt8))} : s.length = 2 ^ j → Wt (j + 1) c r → Wt j (2 * c + 1) (s :: r)
theorem Wt.half {j c : Nat} {r : List (List (List UInt8))} (h : Wt j c r) (hc : c % 2 = 0) : Wt (j + 1) (c / 2) r := by
  cases h with
  | nil => exact .nil _
  | @even _ c' _ h => rw [show 2 * c' / 2 = c' by omega]; exact h
  | odd hs h => omega
theorem Wt.last {j c : Nat} {r : List (List (List UInt8))} (h : Wt j c r) (hc : c % 2 = 1) : ∃ s r', r = s :: r' ∧ s.length = 2 ^ j ∧ Wt (j + 1) (c / 2) r' := by
  cases h with
  | nil => omega
  | even h => omega
  | @odd _ c' s r' hs h => exact ⟨s, r', rfl, hs, by rw [show (2 * c' + 1) / 2 = c' by omega]; exact h⟩
theorem Wt.push {j c : Nat} {r : List (List (List UInt8))} (h : Wt j c r) (hc : c % 2 = 0) {s : List (List UInt8)} (hs : s.length = 2 ^ j) : Wt j (c + 1) (s :: r) := by
  have := Wt.odd hs (h.half hc)
  rwa [show 2 * (c / 2) + 1 = c + 1 by omega] at this
/-- the trees' roots joined: from the least on -/
def jn (a : List UInt8) (r : List (List (List UInt8))) : List UInt8 := r.foldl (fun x s => nd (ov s) x) a
theorem Wt.join {j c : Nat} {r : List (List (List UInt8))} (h : Wt j c r) : ∀ (a : List (List UInt8)), 0 < a.length → a.length ≤ 2 ^ j → jn (ov a) r = ov (r.reverse.flatten ++ a) := by
  induction h with
  | nil j => intro a _ _; simp [jn]
  | even h ih => intro a h0 h1; exact ih a h0 (by rw [Nat.pow_succ]; omega)
  | @odd j c s r hs h ih =>
    intro a h0 h1
    show jn (nd (ov s) (ov a)) r = _
    rw [← ov_join hs h0 h1, ih (s ++ a) (by rw [List.length_append]; omega) (by rw [List.length_append, Nat.pow_succ]; omega)]
    simp
theorem Wt.length {j c : Nat} {r : List (List (List UInt8))} (h : Wt j c r) : r.flatten.length = 2 ^ j * c := by
  induction h with
  | nil j => simp
  | even h ih => rw [ih, Nat.pow_succ, Nat.mul_assoc]
  | @odd j c s r hs h ih => rw [List.flatten_cons, List.length_append, hs, ih, Nat.pow_succ, Nat.mul_add, Nat.mul_one, Nat.mul_assoc, Nat.add_comm]
theorem Wt.deep {j c : Nat} {r : List (List (List UInt8))} (h : Wt j c r) : ∀ n, c < 2 ^ n → r.length ≤ n := by
  induction h with
  | nil j => intro n _; exact Nat.zero_le _
  | even h ih =>
    intro n hn
    cases n with
    | zero => have := ih 0 (by simp at hn ⊢; omega); omega
    | succ n => have := ih n (by rw [Nat.pow_succ] at hn; omega); omega
  | odd hs h ih =>
    intro n hn
    cases n with
    | zero => simp at hn
    | succ n => have := ih n (by rw [Nat.pow_succ] at hn; omega); simp; omega
/-- the whole stack joined -/
theorem Wt.top {j c : Nat} {r : List (List (List UInt8))} (h : Wt j c r) : ∀ s r', r = s :: r' → jn (ov s) r' = ov (r.reverse.flatten) := by
  induction h with
  | nil j => intro s r' e; cases e
  | even h ih => exact ih
  | @odd j c s r hs h ih =>
    intro s' r' e
    cases e
    have hp : 0 < 2 ^ j := Nat.two_pow_pos _
    rw [h.join s (by omega) (by rw [Nat.pow_succ]; omega)]
    simp
/-- the root of leaves -/
def mth (l : List (List UInt8)) : List UInt8 := ov (l.map lf)
theorem mth_length (l : List (List UInt8)) : (mth l).length = 32 := ov_length (by simp only [List.mem_map]; rintro d ⟨b, _, rfl⟩; exact lf_length b)
theorem mth_nil : mth [] = sha [] := ov_nil
theorem mth_one (b : List UInt8) : mth [b] = lf b := ov_one _
theorem mth_two {l : List (List UInt8)} (h : 2 ≤ l.length) : mth l = nd (mth (l.take (spl l.length))) (mth (l.drop (spl l.length))) := by
  unfold mth
  rw [ov_two (by simpa using h)]
  simp [List.map_take, List.map_drop]
/-- a clash among what two roots are made of -/
def cls (a b : List (List UInt8)) : Bool :=
  if h0 : a.length = 0 then false
  else if h1 : a.length = 1 then !(a.headD [] == b.headD []) && lf (a.headD []) == lf (b.headD [])
  else
    if (1 :: (mth (a.take (spl a.length)) ++ mth (a.drop (spl a.length))) : List UInt8) = 1 :: (mth (b.take (spl a.length)) ++ mth (b.drop (spl a.length))) then
      cls (a.take (spl a.length)) (b.take (spl a.length)) || cls (a.drop (spl a.length)) (b.drop (spl a.length))
    else sha (1 :: (mth (a.take (spl a.length)) ++ mth (a.drop (spl a.length)))) == sha (1 :: (mth (b.take (spl a.length)) ++ mth (b.drop (spl a.length))))
termination_by a.length
decreasing_by
  all_goals
    have := spl_lt (n := a.length) (by omega)
    simp
    omega
theorem cls_nil (a b : List (List UInt8)) (h : a.length = 0) : cls a b = false := by rw [cls, dif_pos h]
theorem cls_one (x y : List UInt8) : cls [x] [y] = (!(x == y) && lf x == lf y) := by rw [cls]; simp
theorem cls_same {a b : List (List UInt8)} (h : 2 ≤ a.length) (e : (1 :: (mth (a.take (spl a.length)) ++ mth (a.drop (spl a.length))) : List UInt8) = 1 :: (mth (b.take (spl a.length)) ++ mth (b.drop (spl a.length)))) :
    cls a b = (cls (a.take (spl a.length)) (b.take (spl a.length)) || cls (a.drop (spl a.length)) (b.drop (spl a.length))) := by
  rw [cls, dif_neg (by omega), dif_neg (by omega), if_pos e]
theorem cls_else {a b : List (List UInt8)} (h : 2 ≤ a.length) (e : (1 :: (mth (a.take (spl a.length)) ++ mth (a.drop (spl a.length))) : List UInt8) ≠ 1 :: (mth (b.take (spl a.length)) ++ mth (b.drop (spl a.length)))) :
    cls a b = (sha (1 :: (mth (a.take (spl a.length)) ++ mth (a.drop (spl a.length)))) == sha (1 :: (mth (b.take (spl a.length)) ++ mth (b.drop (spl a.length))))) := by
  rw [cls, dif_neg (by omega), dif_neg (by omega), if_neg e]
theorem cls_true : ∀ (n : Nat) (a b : List (List UInt8)), a.length = n → b.length = n → a ≠ b → mth a = mth b → cls a b = true := by
  intro n
  induction n using Nat.strongRecOn with
  | ind n ih =>
    intro a b ha hb hne he
    by_cases h0 : n = 0
    · exact absurd (by rw [List.eq_nil_of_length_eq_zero (by omega : a.length = 0), List.eq_nil_of_length_eq_zero (by omega : b.length = 0)]) hne
    by_cases h1 : n = 1
    · subst h1
      obtain ⟨x, rfl⟩ := List.length_eq_one_iff.1 ha
      obtain ⟨y, rfl⟩ := List.length_eq_one_iff.1 hb
      rw [cls_one]
      rw [mth_one, mth_one] at he
      have : x ≠ y := fun e => hne (by rw [e])
      simp [he, this]
    have h2 : 2 ≤ a.length := by omega
    obtain ⟨s1, s2, _⟩ := spl_lt (n := n) (by omega)
    rw [mth_two h2, mth_two (l := b) (by omega), hb, ← ha] at he
    rw [← ha] at s1 s2
    obtain ⟨k, hk⟩ : ∃ k, spl a.length = k := ⟨_, rfl⟩
    by_cases e : (1 :: (mth (a.take (spl a.length)) ++ mth (a.drop (spl a.length))) : List UInt8) = 1 :: (mth (b.take (spl a.length)) ++ mth (b.drop (spl a.length)))
    · rw [cls_same h2 e]
      rw [hk] at e s1 s2 ⊢
      obtain ⟨e1, e2⟩ := List.append_inj (List.cons.inj e).2 (by rw [mth_length, mth_length])
      by_cases hl : a.take k = b.take k
      · have hr : a.drop k ≠ b.drop k := fun hr => hne (by rw [← List.take_append_drop k a, ← List.take_append_drop k b, hl, hr])
        rw [ih (n - k) (by omega) _ _ (by rw [List.length_drop]; omega) (by rw [List.length_drop]; omega) hr e2, Bool.or_true]
      · rw [ih k (by omega) _ _ (by rw [List.length_take]; omega) (by rw [List.length_take]; omega) hl e1, Bool.true_or]
    · rw [cls_else h2 e]
      simp only [nd] at he
      rw [he]
      simp
theorem bitLen_log (x : Nat) (h : x < 2 ^ 64) : Lib.bitLen x = if x = 0 then 0 else x.log2 + 1 := by
  induction x using Nat.strongRecOn with
  | ind x ih =>
    by_cases h0 : x = 0
    · subst h0; rfl
    · rw [Lib.bitLen_half x h0 h, ih (x / 2) (by omega) (by omega), if_neg h0]
      by_cases h1 : x / 2 = 0
      · obtain rfl : x = 1 := by omega
        rfl
      · have e : x.log2 = (x / 2).log2 + 1 := by rw [Nat.log2_def x, if_pos (by omega)]
        rw [if_neg h1, e]; omega
theorem dpt_bits {n : Nat} (h : 2 ≤ n) (k : n ≤ 2 ^ 64) : dpt n = Lib.bitLen (n - 1) := by
  rw [bitLen_log _ (by omega), if_neg (by omega), dpt, if_neg (by omega)]
theorem spl_dpt {n : Nat} (h : 2 ≤ n) : spl n = 2 ^ (dpt n - 1) ∧ 1 ≤ dpt n := by
  unfold spl dpt
  rw [if_neg (by omega), if_neg (by omega)]
  exact ⟨by simp, by omega⟩
theorem dpt_le {n : Nat} (h : n < 2 ^ 63) : dpt n ≤ 63 := by
  unfold dpt
  split
  · omega
  · have := (Nat.log2_lt (n := n - 1) (k := 63) (by omega)).2 (by omega)
    omega
/-- how deep: the least power of two that is no less -/
theorem dpt_only {n d : Nat} (h : 2 ≤ n) (h1 : n ≤ 2 ^ d) (h2 : 2 ^ d < 2 * n) : dpt n = d := by
  unfold dpt
  rw [if_neg (by omega)]
  cases d with
  | zero => simp at h1; omega
  | succ d =>
    rw [Nat.pow_succ] at h1 h2
    have : (n - 1).log2 = d := by
      rw [Nat.log2_eq_iff (by omega), Nat.pow_succ]
      omega
    rw [this]
end Go.Proofs.YtfccpfmgkpcnoaaDoor.Da
namespace Go.Proofs.YtfccpfmgkpcnoaaDoor
open Go.RowKit
set_option linter.unusedVariables false
set_option linter.unusedSimpArgs false
/-- how many leaves stand left, and how deep -/
theorem tdepth_any (n : Int) (w : World) (h2 : n ≤ 9223372036854775807) (h1 : -9223372036854775808 ≤ n) :
    Calls Tryd.prog 71 #[.int .i64 n] w fun e w' => e = .returned (.int .i64 (Da.dpt n.toNat : Nat)) ∧ w' = w := by
  by_cases h : n < 2
  · have hd : decide (n < 2) = true := by simp; omega
    have e0 : Da.dpt n.toNat = 0 := by unfold Da.dpt; rw [if_pos (by omega)]
    go_enter Tryd.func71, Tryd.ntmps71
    go_wp2_with fail
    go_ret
    exact ⟨by rw [e0]; rfl, rfl⟩
  · obtain ⟨N, rfl⟩ : ∃ N : Nat, n = (N : Int) := ⟨n.toNat, by omega⟩
    have hd : decide ((N : Int) < 2) = false := by simp; omega
    have LE := len_any ((N : Int) - 1) w (by omega) (by omega)
    rw [show ((N : Int) - 1).toNat = N - 1 by omega, ← Da.dpt_bits (n := N) (by omega) (by omega)] at LE
    have hw1 : IntKind.u64.wrap ((N : Int) - 1) = (N : Int) - 1 := by rw [IntKind.wrap_u64]; omega
    have HLE := Lib.hid LE
    clear LE
    go_enter Tryd.func71, Tryd.ntmps71
    go_wp2_with fail
    refine HLE.out.mono ?_
    rintro e w' ⟨rfl, rfl⟩
    go_wp2_with fail
    go_ret
    exact ⟨by rw [Int.toNat_natCast]; rfl, rfl⟩
theorem shl_one (k : Nat) (h : k ≤ 62) (yk : IntKind) : Op.shift .shl .i64 1 yk (k : Int) = pure (.int .i64 ((2 ^ k : Nat) : Int)) := by
  have hb : 2 ^ k ≤ 2 ^ 62 := Nat.pow_le_pow_right (by omega) h
  have e : (1 : Int) * 2 ^ ((k : Int)).toNat = ((2 ^ k : Nat) : Int) := by
    rw [Int.toNat_natCast, Int.one_mul]; simp
  rw [Go.shift_shl .i64 yk 1 (k : Int) (by omega) (by show (k : Int) ≤ (64 : Nat); omega), e]
  obtain ⟨F, hF⟩ : ∃ F, 2 ^ k = F := ⟨_, rfl⟩
  rw [hF] at hb ⊢
  rw [show IntKind.i64.wrap (F : Int) = (F : Int) by rw [IntKind.wrap_i64]; omega]
theorem one_wrap (k : Nat) (h : k ≤ 62) : wrap64 (2 ^ k) = ((2 ^ k : Nat) : Int) := by
  have hb : 2 ^ k ≤ 2 ^ 62 := Nat.pow_le_pow_right (by omega) h
  have e : (2 : Int) ^ k = ((2 ^ k : Nat) : Int) := by simp
  rw [e]
  obtain ⟨F, hF⟩ : ∃ F, 2 ^ k = F := ⟨_, rfl⟩
  rw [hF] at hb ⊢
  exact IntWalk.wrap64_in _ ⟨by omega, by omega⟩
theorem tsplit_any (n : Int) (w : World) (h2 : n ≤ 9223372036854775807) (h1 : -9223372036854775808 ≤ n) :
    Calls Tryd.prog 67 #[.int .i64 n] w fun e w' => e = .returned (.int .i64 (Da.spl n.toNat : Nat)) ∧ w' = w := by
  by_cases h : n < 2
  · have hd : decide (n < 2) = true := by simp; omega
    have e0 : Da.spl n.toNat = 0 := by unfold Da.spl; rw [if_pos (by omega)]
    go_enter Tryd.func67, Tryd.ntmps67
    go_wp2_with fail
    go_ret
    exact ⟨by rw [e0]; rfl, rfl⟩
  · obtain ⟨N, rfl⟩ : ∃ N : Nat, n = (N : Int) := ⟨n.toNat, by omega⟩
    have hd : decide ((N : Int) < 2) = false := by simp; omega
    have DE := tdepth_any (N : Int) w h2 h1
    obtain ⟨e1, e2⟩ := Da.spl_dpt (n := N) (by omega)
    have e3 := Da.dpt_le (n := N) (by omega)
    rw [Int.toNat_natCast] at DE
    obtain ⟨d, hdd⟩ : ∃ d, Da.dpt N = d + 1 := ⟨Da.dpt N - 1, by omega⟩
    rw [hdd] at DE e1 e3
    rw [show d + 1 - 1 = d by omega] at e1
    have HS := shl_one d (by omega) .i64
    have HW := one_wrap d (by omega)
    have hw1 : IntKind.i64.wrap (((d + 1 : Nat) : Int) - 1) = (d : Int) := by rw [IntKind.wrap_i64]; omega
    have HDE := Lib.hid DE
    have HE1 := Lib.hid e1
    clear DE e1 hdd
    obtain ⟨F, hF⟩ : ∃ F : Nat, 2 ^ d = F := ⟨_, rfl⟩
    rw [hF] at HS HW HE1
    clear hF
    go_enter Tryd.func67, Tryd.ntmps67
    go_wp2_with fail
    refine HDE.out.mono ?_
    rintro e w' ⟨rfl, rfl⟩
    go_wp2_with fail
    go_ret
    exact ⟨by rw [Int.toNat_natCast, HE1.out]; exact congrArg (fun v => Ending.returned (Value.int .i64 v)) HW, rfl⟩
/-- slices.Concat of any rows -/
def CcvAt (bs : List (List UInt8)) (w : World) (s iv : Value) (wr : World) : Prop := ∃ k : Nat, k ≤ bs.length ∧ iv = .int .i64 k ∧ s = .int .i64 ((bs.take k).flatten.length : Nat) ∧ wr = w
def CcwAt (bs : List (List UInt8)) (w : World) (v iv : Value) (wr : World) : Prop :=
  ∃ (k B : Nat), k ≤ bs.length ∧ B = (bs.take k).flatten.length ∧ iv = .int .i64 k ∧ wr.ownsRow w.heap.size 5 1 v B (bytesV (bs.take k).flatten) ∧ Below w.heap.size w wr
set_option maxRecDepth 100000 in
set_option maxHeartbeats 2000000 in
theorem cat12_any (bs : List (List UInt8)) (o : Option Addr) (n c : Nat) (w : World) (hP : RbIs w o bs c) (hn : bs.length = n) (h0 : 0 < bs.flatten.length) (hl : bs.flatten.length ≤ 10000) (hn2 : n ≤ 1000) :
    Calls Tryd.prog 60 #[.slice o n c] w fun e w' => ∃ g cap, e = .returned (.slice (some ⟨g, 0, none⟩) bs.flatten.length cap) ∧ w.heap.size ≤ g ∧ Buf w' g cap bs.flatten ∧ Below w.heap.size w w' := by
  have h1 := hP.le.1
  have h2 := hP.le.2
  rw [hn] at h1
  unfold maxLen at h2
  have HP := Lib.hid hP
  have HN := Lib.hid hn
  have HFL := Lib.hid (fun k => flat_le bs k)
  have HST := Lib.hid (fun k h => flat_step bs k h)
  have HL := Lib.hid hl
  have H0 := Lib.hid h0
  clear hP hn hl h0
  go_enter Tryd.func60, Tryd.ntmps60
  go_wp2_with fail
  go_loopw [3, 5, 11] (fun s _ i wr => CcvAt bs w s i wr) (fun _ _ i _ => n - (intOf i).toNat)
  case atStart => exact ⟨0, Nat.zero_le _, rfl, rfl, rfl⟩
  case round =>
    obtain ⟨k, hk, rfl, rfl, rfl⟩ := hrel
    rw [HN.out] at hk
    by_cases hlt : k < n
    · obtain ⟨b, off, p, q, rfl, _, hc, hr⟩ := HP.out.cell k (by have := HN.out; omega)
      have e1 := HST.out k (by have := HN.out; omega)
      have e2 := HFL.out (k + 1)
      have e3 := HL.out
      rw [e1, List.length_append] at e2
      obtain ⟨s, hs⟩ : ∃ s, (bs.take k).flatten.length = s := ⟨_, rfl⟩
      have HS2 : Hid ((bs.take (k + 1)).flatten.length = s + (bi bs k).length) := Lib.hid (by rw [e1, List.length_append, hs])
      rw [hs] at e2 ⊢
      obtain ⟨L, hL⟩ : ∃ L, (bi bs k).length = L := ⟨_, rfl⟩
      rw [hL] at HS2 e2 hc
      have hk0 : (0 : Int) ≤ (k : Int) := by omega
      have hk1 : (k : Int) < (n : Int) := by omega
      have hr1 := hr.le
      have hr2 := hr.cap
      rw [bytesV_length, hL] at hr1
      unfold maxLen at hr2
      have hs1 : s + L ≤ 10000 := by omega
      have hd : decide ((s : Int) + (L : Int) < 0) = false := decide_eq_false (by omega)
      clear hr hs hL e1 e2 e3
      go_wp2_with fail
      go_roundw
      case rel => exact ⟨k + 1, by have := HN.out; omega, by go_num, by rw [HS2.out]; go_num, rfl⟩
      case measure => simp [intOf]; omega
    · obtain rfl : k = n := by omega
      rw [List.take_of_length_le (by have := HN.out; omega)]
      obtain ⟨F, hF⟩ : ∃ F, bs.flatten.length = F := ⟨_, rfl⟩
      rw [hF] at H0 HL ⊢
      have hF1 := H0.out
      have hF2 := HL.out
      have HG := Lib.hid (grow_nil F wr hF1 hF2)
      have HF := Lib.hid hF
      clear hF
      go_wp2_with fail
      refine HG.out.mono ?_; rintro e w2 ⟨g, cap, rfl, hown, hb⟩
      have HV := Lib.hid hown
      have HB := Lib.hid hb
      clear hown hb HG
      go_wp2_with fail
      go_loopw [6, 8, 27] (fun v _ i wr2 => CcwAt bs wr v i wr2) (fun _ _ i _ => k - (intOf i).toNat)
      case atStart => exact ⟨0, 0, Nat.zero_le _, rfl, rfl, HV.out, HB.out⟩
      case round =>
        rename World => W3
        obtain ⟨i, B, hi, hB, rfl, hv, hb3⟩ := hrel
        rw [HN.out] at hi
        have HV3 := Lib.hid hv
        have HB3 := Lib.hid hb3
        have HBB := Lib.hid hB
        by_cases hlt2 : i < k
        · obtain ⟨b, off, p, q, rfl, _, hc, hr⟩ := (HP.out.later hb3).cell i (by have := HN.out; omega)
          have hi0 : (0 : Int) ≤ (i : Int) := by omega
          have hi1 : (i : Int) < (k : Int) := by omega
          have HR := Lib.hid hr
          have e1 := HST.out i (by have := HN.out; omega)
          have e2 := HFL.out (i + 1)
          rw [e1, List.length_append, ← hB, HF.out] at e2
          have HE1 := Lib.hid e1
          obtain ⟨L, hL⟩ : ∃ L, (bi bs i).length = L := ⟨_, rfl⟩
          rw [hL] at hc e2
          have HL2 := Lib.hid hL
          have hB1 : B + L ≤ 10000 := by omega
          clear hr hv hb3 hB e1 e2 hL
          go_wp2_with (at_builtin; refine append_row rfl (.tmp 31) (.tmp 32) rfl wr.heap.size _ B (bs.take i).flatten rfl HV3.out p L q (bi bs i) rfl HL2.out.symm HR.out (by omega) HB3.out.size ?_)
          intro v' w4 hv hg
          rw [← HE1.out] at hv
          have HV4 := Lib.hid hv
          have HB4 := Lib.hid (own_below (n := 0) HB3.out HV3.out hg)
          clear hv hg
          go_wp2_with fail
          go_roundw
          case rel => exact ⟨i + 1, B + L, by have := HN.out; omega, by have := HBB.out; rw [HE1.out, List.length_append, ← this, HL2.out], by go_num, HV4.out, HB4.out⟩
          case measure => simp [intOf]; omega
        · obtain rfl : i = k := by omega
          rw [List.take_of_length_le (by have := HN.out; omega)] at hv hB
          obtain ⟨g2, cap2, rfl, hg2, hbuf⟩ := own_buf hv (by have := HF.out; omega) hB
          rw [HF.out]
          have HX := Lib.hid hbuf
          clear hv hb3 hB hbuf HBB HV3
          go_wp2_with fail
          go_ret
          exact ⟨g2, cap2, by rw [HF.out]; rfl, hg2, HX.out, HB3.out⟩
theorem zrow12 (x : UInt8) (w : World) : RowIs (w.alloc (.cells #[.int .u8 (x.toNat : Int)] 5)) (some ⟨w.heap.size, 0, none⟩) (bytesV [x]) 1 :=
  ⟨by simp, by unfold maxLen; decide, (fun e => by cases e), fun _ => ⟨w.heap.size, 0, rfl, by simp, fun i v hv => by
    rw [Nat.zero_add, cell_of_row _ _ _ _ _ _ (World.alloc_heap_new _ _)]
    simpa [bytesV] using hv⟩⟩
theorem new12 (w : World) (o : Obj) : Below w.heap.size w (w.alloc o) := (Below.refl _ _).alloc (Nat.le_refl _) _
/-- the document's split -/
def Rsp (n : Nat) (w : World) (k : Value) (wr : World) : Prop := ∃ j : Nat, k = .int .i64 ((2 ^ j : Nat) : Int) ∧ 2 ^ j < n ∧ wr = w
theorem rsplit_any (n : Nat) (h2 : 2 ≤ n) (h : n ≤ 2199023255552) (w : World) :
    Calls Tryd.prog 41 #[.int .i64 (n : Int)] w fun e w' => e = .returned (.int .i64 (Da.spl n : Nat)) ∧ w' = w := by
  go_enter Tryd.func41, Tryd.ntmps41
  go_wp2_with fail
  go_loopw [3] (fun k wr => Rsp n w k wr) (fun k _ => n - (intOf k).toNat)
  case atStart => exact ⟨0, rfl, by omega, rfl⟩
  case round =>
    obtain ⟨j, rfl, hlt, rfl⟩ := hrel
    have HN : Hid (∀ m, 2 ^ j = m → n ≤ 2 * m → Da.spl n = m) := Lib.hid (fun m e h => by rw [← e]; exact Da.spl_only hlt (by omega))
    have HP : Hid (2 ^ (j + 1) = 2 * 2 ^ j) := Lib.hid (by rw [Nat.pow_succ]; omega)
    have h1 : 0 < 2 ^ j := Nat.two_pow_pos _
    obtain ⟨m, hm⟩ : ∃ m, 2 ^ j = m := ⟨_, rfl⟩
    rw [hm] at HP hlt h1 ⊢
    have HM := Lib.hid hm
    clear hm
    by_cases hc : m < n - m
    · have hd : decide ((m : Int) < (n : Int) - (m : Int)) = true := by simp; omega
      go_wp2_with fail
      go_roundw
      case rel => exact ⟨j + 1, by rw [HP.out]; go_num, by rw [HP.out]; omega, rfl⟩
      case measure => simp [intOf]; omega
    · have hd : decide ((m : Int) < (n : Int) - (m : Int)) = false := by simp; omega
      have e := HN.out m HM.out (by omega)
      have HE := Lib.hid e
      clear e
      go_wp2_with fail
      go_ret
      exact ⟨by rw [HE.out]; rfl, rfl⟩
def Tsp (n : Nat) (w : World) (d k : Value) (wr : World) : Prop := ∃ j : Nat, d = .int .i64 (j : Int) ∧ k = .int .i64 ((2 ^ j : Nat) : Int) ∧ 2 ^ j < 2 * n ∧ j ≤ 41 ∧ wr = w
end Go.Proofs.YtfccpfmgkpcnoaaDoor
