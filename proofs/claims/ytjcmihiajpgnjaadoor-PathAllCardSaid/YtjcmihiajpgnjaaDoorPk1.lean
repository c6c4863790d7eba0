/- Paths, plain: the nodes above a leaf, the others' roots, what a path makes of a leaf; the first two byte strings from the top that aren't the same. The nodes above a leaf, one by one: climb, turns; Length, the code's and the document's. A leaf's path: the code's Make. -/
import Derived.Test.YtjcmihiajpgnjaaDoorTh
import Derived.Test.YtjcmihiajpgnjaaDoorRfm
import Derived.Test.YtjcmihiajpgnjaaDoorOf
namespace Go.Proofs.YtjcmihiajpgnjaaDoor.Da
set_option linter.unusedVariables false
set_option linter.unusedSimpArgs false
/-- the nodes above leaf i of n, the deepest first: on which side the others stand (true: left) -/
def ups (n i : Nat) : List Bool :=
  if h : n < 2 then [] else if i < spl n then ups (spl n) i ++ [false] else ups (n - spl n) (i - spl n) ++ [true]
termination_by n
decreasing_by
  all_goals
    have := spl_lt (n := n) (by omega)
    omega
/-- the same, with the others: the first one, and the one behind them; f: where the n leaves begin -/
def trn (f n i : Nat) : List (Nat × Nat × Bool) :=
  if h : n < 2 then [] else if i < spl n then trn f (spl n) i ++ [(f + spl n, f + n, false)] else trn (f + spl n) (n - spl n) (i - spl n) ++ [(f, f + spl n, true)]
termination_by n
decreasing_by
  all_goals
    have := spl_lt (n := n) (by omega)
    omega
/-- a leaf's path, of leaves' digests -/
def pa (l : List (List UInt8)) (i : Nat) : List (List UInt8) :=
  if h : l.length < 2 then [] else if i < spl l.length then pa (l.take (spl l.length)) i ++ [ov (l.drop (spl l.length))] else pa (l.drop (spl l.length)) (i - spl l.length) ++ [ov (l.take (spl l.length))]
termination_by l.length
decreasing_by
  all_goals
    have := spl_lt (n := l.length) (by omega)
    simp
    omega
theorem ups_one {n : Nat} (i : Nat) (h : n < 2) : ups n i = [] := by rw [ups, dif_pos h]
theorem ups_left {n i : Nat} (h : 2 ≤ n) (k : i < spl n) : ups n i = ups (spl n) i ++ [false] := by rw [ups, dif_neg (by omega), if_pos k]
theorem ups_right {n i : Nat} (h : 2 ≤ n) (k : spl n ≤ i) : ups n i = ups (n - spl n) (i - spl n) ++ [true] := by rw [ups, dif_neg (by omega), if_neg (by omega)]
theorem trn_one {n : Nat} (f i : Nat) (h : n < 2) : trn f n i = [] := by rw [trn, dif_pos h]
theorem trn_left {n i : Nat} (f : Nat) (h : 2 ≤ n) (k : i < spl n) : trn f n i = trn f (spl n) i ++ [(f + spl n, f + n, false)] := by rw [trn, dif_neg (by omega), if_pos k]
theorem trn_right {n i : Nat} (f : Nat) (h : 2 ≤ n) (k : spl n ≤ i) : trn f n i = trn (f + spl n) (n - spl n) (i - spl n) ++ [(f, f + spl n, true)] := by rw [trn, dif_neg (by omega), if_neg (by omega)]
theorem pa_one {l : List (List UInt8)} (i : Nat) (h : l.length < 2) : pa l i = [] := by rw [pa, dif_pos h]
theorem pa_left {l : List (List UInt8)} {i : Nat} (h : 2 ≤ l.length) (k : i < spl l.length) : pa l i = pa (l.take (spl l.length)) i ++ [ov (l.drop (spl l.length))] := by rw [pa, dif_neg (by omega), if_pos k]
theorem pa_right {l : List (List UInt8)} {i : Nat} (h : 2 ≤ l.length) (k : spl l.length ≤ i) : pa l i = pa (l.drop (spl l.length)) (i - spl l.length) ++ [ov (l.take (spl l.length))] := by rw [pa, dif_neg (by omega), if_neg (by omega)]
theorem trn_ups (n : Nat) : ∀ f i, (trn f n i).map (·.2.2) = ups n i := by
  induction n using Nat.strongRecOn with
  | ind n ih =>
    intro f i
    by_cases h : n < 2
    · rw [trn_one f i h, ups_one i h]; rfl
    obtain ⟨s1, s2, _⟩ := spl_lt (n := n) (by omega)
    by_cases k : i < spl n
    · rw [trn_left f (by omega) k, ups_left (by omega) k, List.map_append, ih _ s2]; rfl
    · rw [trn_right f (by omega) (by omega), ups_right (by omega) (by omega), List.map_append, ih _ (by omega)]; rfl
theorem trn_length (f n i : Nat) : (trn f n i).length = (ups n i).length := by rw [← trn_ups n f i, List.length_map]
/-- the others lie within the n leaves -/
theorem trn_in (n : Nat) : ∀ f i t, i < n → t ∈ trn f n i → f ≤ t.1 ∧ t.1 < t.2.1 ∧ t.2.1 ≤ f + n := by
  induction n using Nat.strongRecOn with
  | ind n ih =>
    intro f i t hi ht
    by_cases h : n < 2
    · rw [trn_one f i h] at ht; cases ht
    obtain ⟨s1, s2, _⟩ := spl_lt (n := n) (by omega)
    by_cases k : i < spl n
    · rw [trn_left f (by omega) k, List.mem_append, List.mem_singleton] at ht
      rcases ht with ht | rfl
      · have := ih _ s2 f i t k ht; omega
      · dsimp only; omega
    · rw [trn_right f (by omega) (by omega), List.mem_append, List.mem_singleton] at ht
      rcases ht with ht | rfl
      · have := ih _ (by omega) _ _ t (by omega) ht; omega
      · dsimp only; omega
/-- the others' root -/
def oth (l : List (List UInt8)) (t : Nat × Nat × Bool) : List UInt8 := ov ((l.take t.2.1).drop t.1)
theorem pa_trn (l : List (List UInt8)) : ∀ n f i, f + n ≤ l.length → pa ((l.take (f + n)).drop f) i = (trn f n i).map (oth l) := by
  intro n
  induction n using Nat.strongRecOn with
  | ind n ih =>
    intro f i hf
    have hlen : ((l.take (f + n)).drop f).length = n := by simp; omega
    by_cases h : n < 2
    · rw [trn_one f i h, pa_one i (by omega)]; rfl
    obtain ⟨s1, s2, _⟩ := spl_lt (n := n) (by omega)
    have e1 : ((l.take (f + n)).drop f).take (spl n) = (l.take (f + spl n)).drop f := by
      rw [List.take_drop, List.take_take, Nat.min_eq_left (by omega)]
    have e2 : ((l.take (f + n)).drop f).drop (spl n) = (l.take (f + n)).drop (f + spl n) := by rw [List.drop_drop]
    by_cases k : i < spl n
    · rw [trn_left f (by omega) k, pa_left (by omega) (by rw [hlen]; exact k), hlen, List.map_append, e1, e2, ih _ s2 f i (by omega)]; rfl
    · rw [trn_right f (by omega) (by omega), pa_right (by omega) (by rw [hlen]; omega), hlen, List.map_append, e1, e2]
      have := ih (n - spl n) (by omega) (f + spl n) (i - spl n) (by omega)
      rw [show f + spl n + (n - spl n) = f + n by omega] at this
      rw [this]; rfl
theorem pa_all (l : List (List UInt8)) (i : Nat) : pa l i = (trn 0 l.length i).map (oth l) := by
  have := pa_trn l l.length 0 i (by omega)
  rwa [Nat.zero_add, List.take_length, List.drop_zero] at this
theorem pa_length (l : List (List UInt8)) (i : Nat) : (pa l i).length = (ups l.length i).length := by rw [pa_all, List.length_map, trn_length]
theorem oth_length {l : List (List UInt8)} (h : all32 l) (t : Nat × Nat × Bool) : (oth l t).length = 32 := ov_length ((h.take _).drop _)
theorem pa_all32 {l : List (List UInt8)} (h : all32 l) (i : Nat) : all32 (pa l i) := by
  rw [pa_all]
  intro d hd
  obtain ⟨t, _, rfl⟩ := List.mem_map.1 hd
  exact oth_length h t
/-- what a node is made of: own: on the leaf's side; u: whether the others stand left -/
def inn (u : Bool) (own other : List UInt8) : List UInt8 := 1 :: (if u then other ++ own else own ++ other)
/-- the byte strings that a path makes of the first one -/
def mbs (b : List UInt8) (us : List Bool) (ps : List (List UInt8)) : Nat → List UInt8
  | 0 => b
  | s + 1 => inn (us.getD s false) (sha (mbs b us ps s)) (bi ps s)
/-- the digests -/
def fs (d : List UInt8) (us : List Bool) (ps : List (List UInt8)) : Nat → List UInt8
  | 0 => d
  | s + 1 => if us.getD s false then nd (bi ps s) (fs d us ps s) else nd (fs d us ps s) (bi ps s)
theorem sha_inn (u : Bool) (own other : List UInt8) : sha (inn u own other) = if u then nd other own else nd own other := by
  cases u <;> rfl
theorem sha_mb (b : List UInt8) (us : List Bool) (ps : List (List UInt8)) (s : Nat) : sha (mbs b us ps s) = fs (sha b) us ps s := by
  induction s with
  | zero => rfl
  | succ s ih => rw [mbs, sha_inn, ih, fs]
theorem fs_congr {d : List UInt8} {us us' : List Bool} {ps ps' : List (List UInt8)} (m : Nat) (h1 : ∀ s, s < m → us.getD s false = us'.getD s false) (h2 : ∀ s, s < m → bi ps s = bi ps' s) : fs d us ps m = fs d us' ps' m := by
  induction m with
  | zero => rfl
  | succ m ih => rw [fs, fs, ih (fun s hs => h1 s (by omega)) (fun s hs => h2 s (by omega)), h1 m (by omega), h2 m (by omega)]
theorem bi_left {a b : List (List UInt8)} {s : Nat} (h : s < a.length) : bi (a ++ b) s = bi a s := by
  unfold bi
  rw [List.getD_eq_getElem?_getD, List.getD_eq_getElem?_getD, List.getElem?_append_left h]
theorem bi_snoc {a : List (List UInt8)} {p : List UInt8} {s : Nat} (h : s = a.length) : bi (a ++ [p]) s = p := by
  subst h
  simp [bi]
theorem getD_left {a b : List Bool} {s : Nat} (h : s < a.length) : (a ++ b).getD s false = a.getD s false := by
  rw [List.getD_eq_getElem?_getD, List.getD_eq_getElem?_getD, List.getElem?_append_left h]
theorem fs_snoc (d : List UInt8) (us : List Bool) (u : Bool) (ps : List (List UInt8)) (p : List UInt8) (h : ps.length = us.length) :
    fs d (us ++ [u]) (ps ++ [p]) (us.length + 1) = if u then nd p (fs d us ps us.length) else nd (fs d us ps us.length) p := by
  rw [fs, bi_snoc h.symm, fs_congr us.length (fun s hs => getD_left hs) (fun s hs => bi_left (by omega))]
  rw [show (us ++ [u]).getD us.length false = u by simp]
theorem fs_length {d : List UInt8} (hd : d.length = 32) (us : List Bool) (ps : List (List UInt8)) (s : Nat) : (fs d us ps s).length = 32 := by
  cases s with
  | zero => exact hd
  | succ s =>
    rw [fs]
    split <;> exact sha_length _
/-- the root that a leaf's own path makes -/
theorem pa_root (l : List (List UInt8)) : ∀ n i, l.length = n → i < n → fs (bi l i) (ups n i) (pa l i) (ups n i).length = ov l := by
  intro n
  induction n using Nat.strongRecOn generalizing l with
  | ind n ih =>
    intro i hn hi
    by_cases h : n < 2
    · rw [ups_one i h]
      obtain rfl : i = 0 := by omega
      obtain ⟨d, rfl⟩ := List.length_eq_one_iff.1 (show l.length = 1 by omega)
      rw [ov_one]; rfl
    obtain ⟨s1, s2, _⟩ := spl_lt (n := n) (by omega)
    rw [ov_two (by omega), hn]
    have lt : (l.take (spl n)).length = spl n := by rw [List.length_take]; omega
    have ld : (l.drop (spl n)).length = n - spl n := by rw [List.length_drop]; omega
    by_cases k : i < spl n
    · have hp := pa_left (l := l) (i := i) (by omega) (by rw [hn]; exact k)
      rw [hn] at hp
      rw [hp, ups_left (by omega) k, List.length_append, List.length_singleton, fs_snoc _ _ _ _ _ (by rw [pa_length, lt])]
      rw [if_neg (by simp)]
      have := ih _ s2 (l.take (spl n)) i lt k
      rw [show bi (l.take (spl n)) i = bi l i by simp [bi, List.getElem?_take, k]] at this
      rw [this]
    · have hp := pa_right (l := l) (i := i) (by omega) (by rw [hn]; omega)
      rw [hn] at hp
      rw [hp, ups_right (by omega) (by omega), List.length_append, List.length_singleton, fs_snoc _ _ _ _ _ (by rw [pa_length, ld])]
      rw [if_pos rfl]
      have := ih _ (by omega) (l.drop (spl n)) (i - spl n) ld (by omega)
      rw [show bi (l.drop (spl n)) (i - spl n) = bi l i by simp [bi, List.getElem?_drop]; rw [show spl n + (i - spl n) = i by omega]] at this
      rw [this]
theorem log2_mono {a b : Nat} (h : a ≤ b) : a.log2 ≤ b.log2 := by
  by_cases h0 : a = 0
  · subst h0; simp
  · rw [Nat.le_log2 (by omega)]
    exact Nat.le_trans (Nat.log2_self_le h0) h
theorem dpt_mono {a b : Nat} (h : a ≤ b) : dpt a ≤ dpt b := by
  unfold dpt
  have := log2_mono (a := a - 1) (b := b - 1) (by omega)
  split <;> split <;> omega
theorem ups_le (n : Nat) : ∀ i, (ups n i).length ≤ dpt n := by
  induction n using Nat.strongRecOn with
  | ind n ih =>
    intro i
    by_cases h : n < 2
    · rw [ups_one i h]; exact Nat.zero_le _
    obtain ⟨s1, s2, s3⟩ := spl_lt (n := n) (by omega)
    rw [dpt_spl (by omega)]
    by_cases k : i < spl n
    · rw [ups_left (by omega) k, List.length_append, List.length_singleton]
      have := ih _ s2 i; omega
    · rw [ups_right (by omega) (by omega), List.length_append, List.length_singleton]
      have := ih (n - spl n) (by omega) (i - spl n)
      have := dpt_mono (a := n - spl n) (b := spl n) (by omega)
      omega
/-- no path has more than nine digests -/
theorem ups_nine {n : Nat} (h : n ≤ 512) (i : Nat) : (ups n i).length ≤ 9 := by
  refine Nat.le_trans (ups_le n i) (Nat.le_trans (dpt_mono h) ?_)
  decide +kernel
/-- from the top down, the first two that aren't the same have one digest -/
theorem mb_clash {b c : List UInt8} {us : List Bool} {ps qs : List (List UInt8)} (hp : all32 ps) (hq : all32 qs) {m : Nat} (hm : ps.length = m) (hm2 : qs.length = m) (he : sha (mbs b us ps m) = sha (mbs c us qs m)) :
    ∀ j, j ≤ m → (∀ k, j < k → k ≤ m → mbs b us ps k = mbs c us qs k) → sha (mbs b us ps j) = sha (mbs c us qs j) := by
  intro j hj h
  by_cases e : j = m
  · rw [e]; exact he
  · have h2 := h (j + 1) (by omega) (by omega)
    rw [mbs, mbs] at h2
    have l1 := sha_length (mbs b us ps j)
    have l2 := sha_length (mbs c us qs j)
    have l3 : (bi ps j).length = 32 := hp _ (by unfold bi; rw [List.getD_eq_getElem?_getD, List.getElem?_eq_getElem (by omega)]; exact List.getElem_mem _)
    have l4 : (bi qs j).length = 32 := hq _ (by unfold bi; rw [List.getD_eq_getElem?_getD, List.getElem?_eq_getElem (by omega)]; exact List.getElem_mem _)
    unfold inn at h2
    have h3 := (List.cons.inj h2).2
    split at h3
    · exact (List.append_inj h3 (by rw [l3, l4])).2
    · exact (List.append_inj h3 (by rw [l1, l2])).1
end Go.Proofs.YtjcmihiajpgnjaaDoor.Da
namespace Go.Proofs.YtjcmihiajpgnjaaDoor
open Go.RowKit
set_option linter.unusedVariables false
set_option linter.unusedSimpArgs false
attribute [local go_sem] Oper.semAt_some
/-- a node, as the code has it -/
def tnD (t : Nat × Nat × Bool) : Array Value := #[.int .i64 (t.1 : Int), .int .i64 (t.2.1 : Int), .bool t.2.2]
def tnV (t : Nat × Nat × Bool) : Value := .agg (tnD t)
set_option maxHeartbeats 1000000 in
theorem climb_any (l : Nat) (J : List (Nat × Nat × Bool) → World → Prop) (Bx : World → Prop) (W : List (Nat × Nat × Bool))
    (hY : ∀ p x X, p ++ [x] <+: W → J p X → YieldAt Fence.wide 0 Tryd.prog l #[tnV x] X fun e X' => (e = .returned (.bool true) ∧ J (p ++ [x]) X') ∨ (e = .returned (.bool false) ∧ Bx X')) :
    ∀ (n f i T A : Nat) (p : List (Nat × Nat × Bool)) (w : World), T = f + n → A = f + i → i < n → T ≤ 1000000 → p ++ Da.trn f n i <+: W → J p w →
      Calls Tryd.prog 46 #[.int .i64 (f : Int), .int .i64 (T : Int), .int .i64 (A : Int), .func (.yield l) #[] #[]] w fun e X =>
        (e = .returned (.bool true) ∧ J (p ++ Da.trn f n i) X) ∨ (e = .returned (.bool false) ∧ Bx X) := by
  intro n
  induction n using Nat.strongRecOn with
  | ind n ih =>
    intro f i T A p w hT hA hi hf hp hJ
    have hw1 : (T : Int) - (f : Int) = (n : Int) := by omega
    by_cases h : n < 2
    · rw [Da.trn_one f i h, List.append_nil]
      have hd : decide ((n : Int) < 2) = true := by simp; omega
      clear hp
      have HJ := Lib.hid hJ
      have HT := Lib.hid hT
      have HA := Lib.hid hA
      clear hJ hY ih hT hA
      refine (callsIn_wide (n := 0)).1 (callsIn_of_wp Tryd.func46 rfl trivial ?_ rfl)
      simp only [Tryd.ntmps46, List.size_toArray, List.length_cons, List.length_nil, Nat.reduceAdd, Nat.reduceSub, Array.replicate_succ, Array.replicate_zero, List.push_toArray, List.append_toArray, List.nil_append, List.cons_append]
      gi_wp2
      go_ret
      exact .inl ⟨rfl, HJ.out⟩
    have hd : decide ((n : Int) < 2) = false := by simp; omega
    have SP := tsplit_any (n : Int) w (by omega) (by omega)
    rw [Int.toNat_natCast] at SP
    obtain ⟨s1, s2, _⟩ := Da.spl_lt (n := n) (by omega)
    obtain ⟨k, hk⟩ : ∃ k, Da.spl n = k := ⟨_, rfl⟩
    rw [hk] at SP s1 s2
    obtain ⟨K, hK⟩ : ∃ K, f + k = K := ⟨_, rfl⟩
    have hw2 : (f : Int) + (k : Int) = (K : Int) := by omega
    by_cases hik : i < k
    · have ht := Da.trn_left (n := n) (i := i) f (by omega) (by rw [hk]; exact hik)
      rw [hk, hK, ← hT] at ht
      have hd2 : decide (A < K) = true := decide_eq_true (by omega)
      rw [ht, ← List.append_assoc] at hp ⊢
      have hy2 := fun X hj => hY (p ++ Da.trn f k i) (K, T, false) X hp hj
      have CH := (ih k s2 f i K A p w hK.symm hA hik (by omega) ((List.prefix_append _ _).trans hp) hJ).mono (R' := fun e X => (e = .returned (.bool true) ∧ YieldAt Fence.wide 0 Tryd.prog l #[tnV (K, T, false)] X fun e X' => (e = .returned (.bool true) ∧ J (p ++ Da.trn f k i ++ [(K, T, false)]) X') ∨ (e = .returned (.bool false) ∧ Bx X')) ∨ (e = .returned (.bool false) ∧ Bx X))
        (fun e X h => h.imp (fun h => ⟨h.1, hy2 X h.2⟩) id)
      have HSP := Lib.hid SP
      have HCH := Lib.hid CH
      have HT := Lib.hid hT
      have HA := Lib.hid hA
      have HK := Lib.hid hK
      clear ih hY hy2 SP CH hp hJ ht hk hT hA hK
      refine (callsIn_wide (n := 0)).1 (callsIn_of_wp Tryd.func46 rfl trivial ?_ rfl)
      simp only [Tryd.ntmps46, List.size_toArray, List.length_cons, List.length_nil, Nat.reduceAdd, Nat.reduceSub, Array.replicate_succ, Array.replicate_zero, List.push_toArray, List.append_toArray, List.nil_append, List.cons_append]
      gi_wp2
      refine ⟨trivial, rfl, ((callsIn_wide (n := 0)).2 HSP.out).mono ?_⟩
      rintro e w1 ⟨rfl, rfl⟩
      rename World => w
      gi_wp2
      refine ⟨trivial, rfl, ((callsIn_wide (n := 0)).2 HCH.out).mono ?_⟩
      rintro e W1 (⟨rfl, hy⟩ | ⟨rfl, hx⟩)
      · obtain ⟨fn, tmps, assign, body, hy, hR⟩ := hy
        unfold tnV tnD at hy
        dsimp only at hy
        gi_wp2
        refine ⟨rfl, hR.mono ?_⟩
        rintro e W2 (⟨rfl, hJ2⟩ | ⟨rfl, hx⟩)
        · gi_wp2
          go_ret
          exact .inl ⟨rfl, hJ2⟩
        · gi_wp2
          go_ret
          exact .inr ⟨rfl, hx⟩
      · gi_wp2
        refine ⟨fun _ h => (by cases h), ?_⟩
        gi_wp2
        go_ret
        exact .inr ⟨rfl, hx⟩
    · have ht := Da.trn_right (n := n) (i := i) f (by omega) (by rw [hk]; omega)
      rw [hk, hK] at ht
      have hd2 : decide (A < K) = false := decide_eq_false (by omega)
      rw [ht, ← List.append_assoc] at hp ⊢
      have hy2 := fun X hj => hY (p ++ Da.trn K (n - k) (i - k)) (f, K, true) X hp hj
      have CH := (ih (n - k) (by omega) K (i - k) T A p w (by omega) (by omega) (by omega) hf ((List.prefix_append _ _).trans hp) hJ).mono (R' := fun e X => (e = .returned (.bool true) ∧ YieldAt Fence.wide 0 Tryd.prog l #[tnV (f, K, true)] X fun e X' => (e = .returned (.bool true) ∧ J (p ++ Da.trn K (n - k) (i - k) ++ [(f, K, true)]) X') ∨ (e = .returned (.bool false) ∧ Bx X')) ∨ (e = .returned (.bool false) ∧ Bx X))
        (fun e X h => h.imp (fun h => ⟨h.1, hy2 X h.2⟩) id)
      have HSP := Lib.hid SP
      have HCH := Lib.hid CH
      have HT := Lib.hid hT
      have HA := Lib.hid hA
      have HK := Lib.hid hK
      clear ih hY hy2 SP CH hp hJ ht hk hT hA hK
      refine (callsIn_wide (n := 0)).1 (callsIn_of_wp Tryd.func46 rfl trivial ?_ rfl)
      simp only [Tryd.ntmps46, List.size_toArray, List.length_cons, List.length_nil, Nat.reduceAdd, Nat.reduceSub, Array.replicate_succ, Array.replicate_zero, List.push_toArray, List.append_toArray, List.nil_append, List.cons_append]
      gi_wp2
      refine ⟨trivial, rfl, ((callsIn_wide (n := 0)).2 HSP.out).mono ?_⟩
      rintro e w1 ⟨rfl, rfl⟩
      rename World => w
      gi_wp2
      refine ⟨trivial, rfl, ((callsIn_wide (n := 0)).2 HCH.out).mono ?_⟩
      rintro e W1 (⟨rfl, hy⟩ | ⟨rfl, hx⟩)
      · obtain ⟨fn, tmps, assign, body, hy, hR⟩ := hy
        unfold tnV tnD at hy
        dsimp only at hy
        gi_wp2
        refine ⟨rfl, hR.mono ?_⟩
        rintro e W2 (⟨rfl, hJ2⟩ | ⟨rfl, hx⟩)
        · gi_wp2
          go_ret
          exact .inl ⟨rfl, hJ2⟩
        · gi_wp2
          go_ret
          exact .inr ⟨rfl, hx⟩
      · gi_wp2
        refine ⟨fun _ h => (by cases h), ?_⟩
        gi_wp2
        go_ret
        exact .inr ⟨rfl, hx⟩
/-- the closure that turns makes -/
theorem mturns_any (n i : Int) (w : World) :
    Calls Tryd.prog 31 #[.int .i64 n, .int .i64 i] w fun e w' => e = .returned (.func (.func 45) #[] #[.pointer (some ⟨w.heap.size, 0, none⟩), .pointer (some ⟨w.heap.size + 1, 0, none⟩)]) ∧ w' = (w.alloc (.cells #[.int .i64 n] 3)).alloc (.cells #[.int .i64 i] 3) := by
  have hmf := @makes Tryd.prog
  go_enter Tryd.func31, Tryd.ntmps31
  go_wp2
  go_ret
  simp
/-- it gives the nodes above leaf i of n -/
theorem turns_seq (n i q1 q2 : Nat) (hi : i < n) (hn : n ≤ 1000000) (l : Nat) (J : List (Nat × Nat × Bool) → World → Prop) (Bx : World → Prop)
    (hY : ∀ p x X, p ++ [x] <+: Da.trn 0 n i → J p X → YieldAt Fence.wide 0 Tryd.prog l #[tnV x] X fun e X' => (e = .returned (.bool true) ∧ J (p ++ [x]) X') ∨ (e = .returned (.bool false) ∧ Bx X')) (w : World)
    (h1 : Boxed w q1 3 (.int .i64 (n : Int))) (h2 : Boxed w q2 3 (.int .i64 (i : Int))) (hJ : J [] w) :
    Calls Tryd.prog 45 #[.func (.yield l) #[] #[], .pointer (some ⟨q1, 0, none⟩), .pointer (some ⟨q2, 0, none⟩)] w fun e X => (∃ v, e = .returned v) ∧ (J (Da.trn 0 n i) X ∨ Bx X) := by
  have CL := climb_any l J Bx (Da.trn 0 n i) hY n 0 i n i [] w (by omega) (by omega) hi hn (by simp) hJ
  rw [List.nil_append, show (((0 : Nat) : Int)) = 0 from rfl] at CL
  have hc1 := h1.cell
  have hc2 := h2.cell
  have HCL := Lib.hid CL
  clear CL hY hJ h1 h2
  go_enter Tryd.func45, Tryd.ntmps45
  go_wp2_with fail
  refine HCL.out.mono ?_
  rintro e X (⟨rfl, h⟩ | ⟨rfl, h⟩)
  · go_wp2_with fail
    go_end0
    exact ⟨⟨_, rfl⟩, .inl h⟩
  · go_wp2_with fail
    go_end0
    exact ⟨⟨_, rfl⟩, .inr h⟩
/-- how many digests a path has: the code's -/
theorem plen_bad (n i : Int) (h : ¬ (0 ≤ i ∧ i < n ∧ n ≤ 512)) (w : World) :
    Calls Tryd.prog 11 #[.int .i64 n, .int .i64 i] w fun e w' => e = .returned (.int .i64 (-1)) ∧ w' = w := by
  by_cases h1 : i < 0
  · have hd1 : decide (i < 0) = true := decide_eq_true (by omega)
    refine Rf.calls_marks Tryd.func11 rfl ?_
    simp only [Tryd.ntmps11, List.size_toArray, List.length_cons, List.length_nil, Nat.reduceAdd, Nat.reduceSub, Array.replicate_succ, Array.replicate_zero, List.push_toArray, List.append_toArray, List.nil_append, List.cons_append]
    go_wp2_with fail
    exact ⟨_, results_tmp rfl _ _ _, rfl, rfl⟩
  have hd1 : decide (i < 0) = false := decide_eq_false (by omega)
  by_cases h2 : n ≤ i
  · have hd2 : decide (i ≥ n) = true := decide_eq_true (by omega)
    have hd3 : decide (n ≤ i) = true := decide_eq_true (by omega)
    refine Rf.calls_marks Tryd.func11 rfl ?_
    simp only [Tryd.ntmps11, List.size_toArray, List.length_cons, List.length_nil, Nat.reduceAdd, Nat.reduceSub, Array.replicate_succ, Array.replicate_zero, List.push_toArray, List.append_toArray, List.nil_append, List.cons_append]
    go_wp2_with fail
    exact ⟨_, results_tmp rfl _ _ _, rfl, rfl⟩
  have hd2 : decide (i ≥ n) = false := decide_eq_false (by omega)
  have hd3 : decide (n ≤ i) = false := decide_eq_false (by omega)
  · have hd4 : decide (n > 512) = true := decide_eq_true (by omega)
    have hd5 : decide (512 < n) = true := decide_eq_true (by omega)
    refine Rf.calls_marks Tryd.func11 rfl ?_
    simp only [Tryd.ntmps11, List.size_toArray, List.length_cons, List.length_nil, Nat.reduceAdd, Nat.reduceSub, Array.replicate_succ, Array.replicate_zero, List.push_toArray, List.append_toArray, List.nil_append, List.cons_append]
    go_wp2_with fail
    exact ⟨_, results_tmp rfl _ _ _, rfl, rfl⟩
theorem plen_any (n i : Nat) (hi : i < n) (hn : n ≤ 512) (w : World) :
    Calls Tryd.prog 11 #[.int .i64 (n : Int), .int .i64 (i : Int)] w fun e w' => e = .returned (.int .i64 (((Da.ups n i).length : Nat) : Int)) ∧ Below w.heap.size w w' := by
  obtain ⟨g, hg⟩ : ∃ g, w.heap.size = g := ⟨_, rfl⟩
  obtain ⟨W1, hW1⟩ : ∃ W1, w.alloc (.cells #[.int .i64 0] 3) = W1 := ⟨_, rfl⟩
  have hb1 : Below w.heap.size w W1 := by rw [← hW1]; exact new12 _ _
  have hX1 : Boxed W1 g 3 (.int .i64 ((0 : Nat) : Int)) := by rw [← hW1, ← hg]; exact Boxed.new _ _ _
  have hs1 : W1.heap.size = g + 1 := by rw [← hW1, World.size_alloc, hg]
  obtain ⟨W2, hW2⟩ : ∃ W2, W1.alloc (.cells #[.int .i64 (n : Int)] 3) = W2 := ⟨_, rfl⟩
  obtain ⟨W3, hW3⟩ : ∃ W3, W2.alloc (.cells #[.int .i64 (i : Int)] 3) = W3 := ⟨_, rfl⟩
  have hb2 : Below W1.heap.size W1 W2 := by rw [← hW2]; exact new12 _ _
  have hb3 : Below W2.heap.size W2 W3 := by rw [← hW3]; exact new12 _ _
  have hX2 : Boxed W2 (g + 1) 3 (.int .i64 (n : Int)) := by rw [← hW2, ← hs1]; exact Boxed.new _ _ _
  have hs2 : W2.heap.size = g + 1 + 1 := by rw [← hW2, World.size_alloc, hs1]
  have hX3 : Boxed W3 (g + 1 + 1) 3 (.int .i64 (i : Int)) := by rw [← hW3, ← hs2]; exact Boxed.new _ _ _
  have MT := mturns_any (n : Int) (i : Int) W1
  rw [hW2, hW3, hs1] at MT
  have HB1 := Lib.hid hb1
  have HMT := Lib.hid MT
  have HW1 := Lib.hid hW1
  have HG := Lib.hid hg
  have HI0 : Hid (Boxed W3 g 3 (.int .i64 ((0 : Nat) : Int)) ∧ Boxed W3 (g + 1) 3 (.int .i64 (n : Int)) ∧ Boxed W3 (g + 1 + 1) 3 (.int .i64 (i : Int)) ∧ Below w.heap.size w W3) :=
    Lib.hid ⟨boxed_later (boxed_later hX1 hb2) hb3, boxed_later hX2 hb3, hX3, Kit.step (Kit.step hb1 hb2) hb3⟩
  have hd1 : decide ((i : Int) < 0) = false := decide_eq_false (by omega)
  have hd2 : decide ((i : Int) ≥ (n : Int)) = false := decide_eq_false (by omega)
  have hd3 : decide (n ≤ i) = false := decide_eq_false (by omega)
  have hd4 : decide ((n : Int) > 512) = false := decide_eq_false (by omega)
  have hd5 : decide (512 < (n : Int)) = false := decide_eq_false (by omega)
  have hlen := Da.trn_length 0 n i
  have hle := Da.ups_nine hn i
  obtain ⟨m, hm⟩ : ∃ m, (Da.ups n i).length = m := ⟨_, rfl⟩
  rw [hm] at hlen hle ⊢
  have HLEN := Lib.hid hlen
  have HLE := Lib.hid hle
  have HII := Lib.hid hi
  have HNN := Lib.hid hn
  clear hb1 hX1 hs1 hb2 hb3 hX2 hs2 hX3 MT hW1 hW2 hW3 hlen hle hm hg hi hn
  refine Rf.calls_marks Tryd.func11 rfl ?_
  simp only [Tryd.ntmps11, List.size_toArray, List.length_cons, List.length_nil, Nat.reduceAdd, Nat.reduceSub, Array.replicate_succ, Array.replicate_zero, List.push_toArray, List.append_toArray, List.nil_append, List.cons_append]
  go_upto_region 4 with fail
  rw [HW1.out, HG.out]
  go_wp2_with fail
  refine HMT.out.mono ?_
  rintro e w3 ⟨rfl, rfl⟩
  rename World => W3
  go_wp2_with fail
  refine Rf.range_toldA (α := Nat × Nat × Bool) (σ := List (Nat × Nat × Bool)) rfl (enters_of Tryd.func45 (by kernel_rfl) rfl) (fun x => #[tnV x]) (fun _ => rfl)
    (fun p X => Boxed X g 3 (.int .i64 ((p.length : Nat) : Int)) ∧ Boxed X (g + 1) 3 (.int .i64 (n : Int)) ∧ Boxed X (g + 1 + 1) 3 (.int .i64 (i : Int)) ∧ Below w.heap.size w X)
    (fun c X => False)
    (fun p x p' X => p' = p ++ [x] ∧ p' <+: Da.trn 0 n i)
    [] (fun p => p = Da.trn 0 n i) ?hI ?hIx ?hV ?h0 ?hseq ?round ?done ?stop
  case hI => exact fun s X X' ⟨h1, h2, h3, h4⟩ k => ⟨boxed_nc12 h1 k, boxed_nc12 h2 k, boxed_nc12 h3 k, h4.trans (k.below HI0.out.2.2.2.size h4.size)⟩
  case hIx => exact fun c X X' h k => h
  case hV => exact fun s x s' X X' h k => h
  case h0 => exact HI0.out
  case hseq =>
    intro l B Bx X hnc hi2 hB hk ht
    refine (turns_seq n i (g + 1) (g + 1 + 1) HII.out (by have := HNN.out; omega) l (fun p X => (Boxed X g 3 (.int .i64 ((p.length : Nat) : Int)) ∧ Boxed X (g + 1) 3 (.int .i64 (n : Int)) ∧ Boxed X (g + 1 + 1) 3 (.int .i64 (i : Int)) ∧ Below w.heap.size w X) ∧ B X) Bx ?_ X hi2.2.1 hi2.2.2.1 ⟨hi2, hB⟩).mono ?_
    · exact fun p x Y hp hY => (ht p x (p ++ [x]) Y hY.1 hY.2 ⟨rfl, hp⟩).mono fun e X' h => h.imp (fun h => ⟨h.1, h.2.1, h.2.2⟩) (fun h => ⟨h.1, h.2⟩)
    · rintro e X' ⟨hv, (⟨h, hB⟩ | hx)⟩
      · exact ⟨hv, .inl ⟨_, rfl, h, hB⟩⟩
      · exact ⟨hv, .inr hx⟩
  case round =>
    rintro l p x p' X Z' To ⟨h1, h2, h3, h4⟩ ⟨rfl, hp⟩ hsz HN' HR' HE'
    have hpl := hp.length_le
    rw [List.length_append, List.length_singleton, HLEN.out] at hpl
    have HH := Lib.hid (show Boxed X g 3 (.int .i64 ((p.length : Nat) : Int)) ∧ Boxed X (g + 1) 3 (.int .i64 (n : Int)) ∧ Boxed X (g + 1 + 1) 3 (.int .i64 (i : Int)) ∧ Below w.heap.size w X from ⟨h1, h2, h3, h4⟩)
    obtain ⟨q, hq⟩ : ∃ q, p.length = q := ⟨_, rfl⟩
    have HQ := Lib.hid hq
    rw [hq] at hpl
    have hq9 : q ≤ 9 := by have := HLE.out; omega
    clear h1 h2 h3 h4 hq hpl hp
    gi_wp2
    refine ⟨Below.refl _ _, fun Y hY hnew hsy => ?_⟩
    obtain ⟨h1, h2, h3, h4⟩ := HH.out
    rw [HQ.out] at h1
    have k1 := boxed_later h1 hY
    have hc := k1.cell
    have hf := k1.frozen
    have HFI : Hid (KeepsOthers X (Y.setCell ⟨g, 0, none⟩ (.int .i64 ((q : Int) + 1))) ∧ Boxed (Y.setCell ⟨g, 0, none⟩ (.int .i64 ((q : Int) + 1))) g 3 (.int .i64 (((p ++ [x]).length : Nat) : Int)) ∧ Boxed (Y.setCell ⟨g, 0, none⟩ (.int .i64 ((q : Int) + 1))) (g + 1) 3 (.int .i64 (n : Int)) ∧ Boxed (Y.setCell ⟨g, 0, none⟩ (.int .i64 ((q : Int) + 1))) (g + 1 + 1) 3 (.int .i64 (i : Int)) ∧ Below w.heap.size w (Y.setCell ⟨g, 0, none⟩ (.int .i64 ((q : Int) + 1)))) := Lib.hid
      ⟨(keeps_below hY).trans (KeepsOthers.setCell _ _ _), by rw [List.length_append, HQ.out]; exact k1.set _, (boxed_later h2 hY).other (by omega) _, (boxed_later h3 hY).other (by omega) _,
        (Kit.step h4 hY).setCell (p := ⟨g, 0, none⟩) (Nat.le_of_eq HG.out) _⟩
    clear h1 h2 h3 h4 hY hnew hsy k1
    gi_wp2
    exact HN'.out _ _ HFI.out.1 HFI.out.2
  case done =>
    rintro D' p X hD' rfl ⟨h1, h2, h3, h4⟩ hK'
    rw [HLEN.out] at h1
    have hc := h1.cell
    have hk : Below w.heap.size X (X.putObj D' (.deferred none)) := belowK_b (w := w) (Nat.le_refl _) X D' _ _ (by have := HI0.out.2.2.2.size; omega) hK' rfl rfl
    have HBW := Lib.hid (h4.trans hk)
    clear h1 h2 h3 h4 hk
    go_wp2_with fail
    refine Rf.leaves hK' (results_tmp rfl _ _ _) ?_
    exact ⟨rfl, HBW.out⟩
  case stop => exact fun D c X hD h => h.elim
/-- the document's -/
theorem rlen_bad13 (n i : Int) (h : ¬ (0 ≤ i ∧ i < n ∧ n ≤ 512)) (w : World) :
    Calls Tryd.prog 12 #[.int .i64 n, .int .i64 i] w fun e w' => e = .returned (.int .i64 (-1)) ∧ w' = w := by
  by_cases h1 : n > 512
  · have hd1 : decide (n > 512) = true := decide_eq_true (by omega)
    have hd2 : decide (512 < n) = true := decide_eq_true (by omega)
    go_enter Tryd.func12, Tryd.ntmps12
    go_wp2_with fail
    go_ret
    exact ⟨rfl, rfl⟩
  have hd1 : decide (n > 512) = false := decide_eq_false (by omega)
  have hd2 : decide (512 < n) = false := decide_eq_false (by omega)
  by_cases h2 : i < 0
  · have hd3 : decide (i < 0) = true := decide_eq_true (by omega)
    go_enter Tryd.func12, Tryd.ntmps12
    go_wp2_with fail
    go_ret
    exact ⟨rfl, rfl⟩
  have hd3 : decide (i < 0) = false := decide_eq_false (by omega)
  have hd4 : decide (i ≥ n) = true := decide_eq_true (by omega)
  have hd5 : decide (n ≤ i) = true := decide_eq_true (by omega)
  go_enter Tryd.func12, Tryd.ntmps12
  go_wp2_with fail
  go_ret
  exact ⟨rfl, rfl⟩
theorem rlen_any13 : ∀ (n i : Nat) (w : World), i < n → n ≤ 512 →
    Calls Tryd.prog 12 #[.int .i64 (n : Int), .int .i64 (i : Int)] w fun e w' => e = .returned (.int .i64 (((Da.ups n i).length : Nat) : Int)) ∧ w' = w := by
  intro n
  induction n using Nat.strongRecOn with
  | ind n ih =>
    intro i w hi hn
    have hd1 : decide ((n : Int) > 512) = false := decide_eq_false (by omega)
    have hd2 : decide (512 < (n : Int)) = false := decide_eq_false (by omega)
    have hd3 : decide ((i : Int) < 0) = false := decide_eq_false (by omega)
    have hd4 : decide ((i : Int) ≥ (n : Int)) = false := decide_eq_false (by omega)
    have hd5 : decide (n ≤ i) = false := decide_eq_false (by omega)
    by_cases h : n < 2
    · obtain rfl : n = 1 := by omega
      rw [Da.ups_one i h]
      clear ih
      go_enter Tryd.func12, Tryd.ntmps12
      go_wp2_with fail
      go_ret
      exact ⟨rfl, rfl⟩
    have hd6 : decide ((n : Int) = 1) = false := decide_eq_false (by omega)
    have hd6' : decide (n = 1) = false := decide_eq_false (by omega)
    have SP := rsplit_any n (by omega) (by omega) w
    obtain ⟨s1, s2, _⟩ := Da.spl_lt (n := n) (by omega)
    have ul := Da.ups_left (n := n) (i := i) (by omega)
    have ur := Da.ups_right (n := n) (i := i) (by omega)
    obtain ⟨k, hk⟩ : ∃ k, Da.spl n = k := ⟨_, rfl⟩
    rw [hk] at SP s1 s2 ul ur
    have HSP := Lib.hid SP
    by_cases hik : i < k
    · have hd7 : decide (i < k) = true := decide_eq_true hik
      rw [ul hik, List.length_append, List.length_singleton]
      have IH := ih k s2 i w hik (by omega)
      have hle := Da.ups_nine (n := k) (by omega) i
      obtain ⟨m, hm⟩ : ∃ m, (Da.ups k i).length = m := ⟨_, rfl⟩
      rw [hm] at IH hle ⊢
      have HIH := Lib.hid IH
      have HK := Lib.hid hik
      clear ih IH SP ul ur hk hm hik
      go_enter Tryd.func12, Tryd.ntmps12
      go_wp2_with fail
      refine HSP.out.mono ?_
      rintro e w1 ⟨rfl, rfl⟩
      rename World => w
      go_wp2_with fail
      refine HIH.out.mono ?_
      rintro e w1 ⟨rfl, rfl⟩
      go_wp2_with fail
      go_ret
      refine ⟨?_, rfl⟩
      rw [show (((m + 1 : Nat) : Int)) = 1 + (m : Int) by omega]
      rfl
    · have hd7 : decide (i < k) = false := decide_eq_false hik
      rw [ur (by omega), List.length_append, List.length_singleton]
      have IH := ih (n - k) (by omega) (i - k) w (by omega) (by omega)
      have hle := Da.ups_nine (n := n - k) (by omega) (i - k)
      obtain ⟨m, hm⟩ : ∃ m, (Da.ups (n - k) (i - k)).length = m := ⟨_, rfl⟩
      rw [hm] at IH hle ⊢
      obtain ⟨N, hN⟩ : ∃ N, n - k = N := ⟨_, rfl⟩
      obtain ⟨J, hJ⟩ : ∃ J, i - k = J := ⟨_, rfl⟩
      rw [hN, hJ] at IH
      have hn1 : (n : Int) - (k : Int) = (N : Int) := by omega
      have hj1 : (i : Int) - (k : Int) = (J : Int) := by omega
      have HIH := Lib.hid IH
      have HK := Lib.hid hik
      clear ih IH SP ul ur hk hm hik hN hJ
      go_enter Tryd.func12, Tryd.ntmps12
      go_wp2_with fail
      refine HSP.out.mono ?_
      rintro e w1 ⟨rfl, rfl⟩
      rename World => w
      go_wp2_with fail
      refine HIH.out.mono ?_
      rintro e w1 ⟨rfl, rfl⟩
      go_wp2_with fail
      go_ret
      refine ⟨?_, rfl⟩
      rw [show (((m + 1 : Nat) : Int)) = 1 + (m : Int) by omega]
      rfl
end Go.Proofs.YtjcmihiajpgnjaaDoor
namespace Go.Proofs.YtjcmihiajpgnjaaDoor
open Go.RowKit
set_option linter.unusedVariables false
set_option linter.unusedSimpArgs false
attribute [local go_sem] Oper.semAt_some
/-- digests that are appended to a row of one's own; W: the world where the loop begins -/
structure MkI (W : World) (g : Nat) (es : List (List UInt8)) (v : Value) (X : World) : Prop where
  own : X.ownsRow W.heap.size 38 32 v es.length (bytesV es.flatten)
  box : Boxed X g 25 v
  els : Rf.Mut (fun k => k = g) W X
  lt : g < W.heap.size
theorem MkI.ne {W : World} {g : Nat} {es : List (List UInt8)} {v : Value} {X : World} (h : MkI W g es v X) {k : Nat} (hk : k < W.heap.size) : some k ≠ v.ownBlock := fun e => by
  have := (own_blk h.own k e.symm).1
  omega
theorem MkI.later {W : World} {g : Nat} {es : List (List UInt8)} {v : Value} {X X' : World} (h : MkI W g es v X) (hb : Below X.heap.size X X') : MkI W g es v X' :=
  ⟨own_later12 h.own hb, boxed_later h.box hb, h.els.trans (.of_below hb), h.lt⟩
theorem MkI.nc {W : World} {g : Nat} {es : List (List UInt8)} {v : Value} {X X' : World} (h : MkI W g es v X) (k : Rf.NC W.heap.size X X') : MkI W g es v X' :=
  ⟨k.owns h.own, boxed_nc12 h.box k, ⟨k.os.trans h.els.os, k.tape.trans h.els.tape, k.output.trans h.els.output, Nat.le_trans h.els.size k.size, fun i hi hm => by
    have h1 := h.els.same i hi hm
    have hlt : i < X.heap.size := Nat.lt_of_lt_of_le hi h.els.size
    rw [Array.getElem?_eq_getElem hlt] at h1
    rw [k.same i _ (Array.getElem?_eq_getElem hlt) (.inr hi), h1]⟩, h.lt⟩
theorem MkI.boxed {W : World} {g : Nat} {es : List (List UInt8)} {v : Value} {X : World} (h : MkI W g es v X) {q : Nat} {t : TypeId} {u : Value} (hb : Boxed W q t u) (hq : q ≠ g) : Boxed X q t u := by
  unfold Boxed at *
  rw [h.els.same q (Array.getElem?_eq_some_iff.1 hb).1 hq]
  exact hb
theorem MkI.push {W : World} {g : Nat} {es : List (List UInt8)} {v : Value} {X X1 X2 : World} (h : MkI W g es v X) (hb : Below X.heap.size X X1) {d : List UInt8} {g2 cap2 : Nat}
    (hown : X2.ownsRow W.heap.size 38 32 (.slice (some ⟨g2, 0, none⟩) (es.length + 1) cap2) (es.length + 1) (bytesV es.flatten ++ bytesV d)) (hg : X1.grownBy X2 v.ownBlock) :
    Boxed X2 g 25 v ∧ MkI W g (es ++ [d]) (.slice (some ⟨g2, 0, none⟩) (es.length + 1) cap2) (X2.setCell ⟨g, 0, none⟩ (.slice (some ⟨g2, 0, none⟩) (es.length + 1) cap2)) ∧ KeepsOthers X (X2.setCell ⟨g, 0, none⟩ (.slice (some ⟨g2, 0, none⟩) (es.length + 1) cap2)) := by
  have h1 := h.later hb
  have hlt := h.lt
  have hg2 := (own_blk hown g2 rfl).1
  have hbox : Boxed X2 g 25 v := h1.box.kept hg (h1.ne hlt)
  have k1 : X2.grownBy (X2.setCell ⟨g, 0, none⟩ (.slice (some ⟨g2, 0, none⟩) (es.length + 1) cap2)) (some g) := grownBy_setCell' _ _ _
  refine ⟨hbox, ⟨?_, hbox.set _, ?_, hlt⟩, ?_⟩
  · rw [List.length_append, List.length_singleton, List.flatten_append, bytesV_app]
    rw [show ([d] : List (List UInt8)).flatten = d by simp]
    exact World.ownsRow.kept hown k1 (.inr (by simp [Value.ownBlock]; omega))
  · refine Rf.Mut.trans ⟨hg.os.trans h1.els.os, hg.tape.trans h1.els.tape, hg.output.trans h1.els.output, Nat.le_trans h1.els.size hg.size, fun k hk hn => ?_⟩ (.grown k1 (fun k e => by cases e; rfl))
    exact (hg.block k (Nat.lt_of_lt_of_le hk h1.els.size) (h1.ne hk)).trans (h1.els.same k hk hn)
  · refine (keeps_below hb).trans ((KeepsOthers.of_grownBy hg fun k o e ho => ?_).trans (KeepsOthers.setCell _ _ _))
    obtain ⟨_, cur', h2⟩ := own_blk h1.own k e
    rw [h2] at ho
    cases ho
    rfl
/-- a row of digests lies in no block of one cell -/
theorem DgIs.ne_box {W : World} {o : Option Addr} {ds : List (List UInt8)} {c : Nat} (h : DgIs W o ds c) (h0 : 0 < ds.length) {g : Nat} {t : TypeId} {v : Value} (hb : Boxed W g t v) : ∀ ad, o = some ad → ad.block ≠ g := by
  intro ad e ebg
  obtain ⟨b, off, e2, hlt, hc⟩ := h.cells h0
  rw [e] at e2
  cases e2
  dsimp only at ebg
  subst ebg
  have hl := Da.flat_len h.all
  have h1 := hc 1 ((bytesV ds.flatten).getD 1 undef) (by rw [List.getD_eq_getElem?_getD, List.getElem?_eq_getElem (by rw [bytesV_length]; omega)]; rfl)
  unfold World.cell? at h1
  unfold Boxed at hb
  rw [hb] at h1
  simp at h1
theorem DgIs.moved {W X : World} {o : Option Addr} {ds : List (List UInt8)} {c g : Nat} (h : DgIs W o ds c) (hm : Rf.Mut (fun k => k = g) W X) (hne : 0 < ds.length → ∀ ad, o = some ad → ad.block ≠ g) : DgIs X o ds c :=
  ⟨h.le, h.cap, h.nil, h.all, fun h0 => by
    obtain ⟨b, off, e, hlt, hc⟩ := h.cells h0
    refine ⟨b, off, e, Nat.lt_of_lt_of_le hlt hm.size, fun j v hv => ?_⟩
    have := hc j v hv
    rw [← this]
    exact World.cell?_of_block (hm.same b hlt (hne h0 _ e))⟩
set_option maxRecDepth 100000 in
set_option maxHeartbeats 4000000 in
theorem pmake_any (bs : List (List UInt8)) (o : Option Addr) (n c i : Nat) (hn : bs.length = n) (w : World) (hR : RbIs w o bs c) (hV : Cds w) (hi : i < n) (h5 : n ≤ 512) (hll : ∀ i, i < bs.length → (bi bs i).length ≤ 800000) :
    Calls Tryd.prog 10 #[.slice o n c, .int .i64 (i : Int)] w fun e w' => ∃ o' c', e = .returned (.tuple #[.slice o' (Da.ups n i).length c', Value.nilIface]) ∧ DgIs w' o' (Da.pa (bs.map Da.lf) i) c' ∧ Below w.heap.size w w' := by
  have PL := plen_any n i hi h5 w
  have hle := Da.ups_nine h5 i
  have hlen := Da.trn_length 0 n i
  have hpa := Da.pa_all (bs.map Da.lf) i
  rw [List.length_map, hn] at hpa
  have hin := fun t => Da.trn_in n 0 i t hi
  obtain ⟨m, hm⟩ : ∃ m, (Da.ups n i).length = m := ⟨_, rfl⟩
  rw [hm] at PL hle hlen ⊢
  obtain ⟨ds, hds⟩ : ∃ ds, bs.map Da.lf = ds := ⟨_, rfl⟩
  have hdl : ds.length = n := by rw [← hds, List.length_map, hn]
  have hall : Da.all32 ds := by rw [← hds]; exact Da.all32.lf bs
  rw [hds] at hpa ⊢
  have HPL := Lib.hid PL
  have HPA := Lib.hid hpa
  have HIN := Lib.hid hin
  have HLEN := Lib.hid hlen
  have HDS := Lib.hid hds
  have HDL := Lib.hid hdl
  have HALL := Lib.hid hall
  have HR := Lib.hid hR
  have HV := Lib.hid hV
  have HN := Lib.hid hn
  have HI := Lib.hid hi
  have HLL := Lib.hid hll
  have hd1 : decide ((m : Int) < 0) = false := decide_eq_false (by omega)
  obtain ⟨i0, hi0, hz0, hz1, hz2⟩ := dgI_parts dgI_code
  clear PL hpa hin hlen hds hdl hall hR hV hn hi hll hm
  refine Rf.calls_marks Tryd.func10 rfl ?_
  simp only [Tryd.ntmps10, List.size_toArray, List.length_cons, List.length_nil, Nat.reduceAdd, Nat.reduceSub, Array.replicate_succ, Array.replicate_zero, List.push_toArray, List.append_toArray, List.nil_append, List.cons_append]
  go_wp2_with fail
  refine HPL.out.mono ?_
  rintro e W0 ⟨rfl, hb0⟩
  have HB0 := Lib.hid hb0
  clear hb0 HPL
  obtain ⟨g, hg⟩ : ∃ g, W0.heap.size = g := ⟨_, rfl⟩
  obtain ⟨W1, hW1⟩ : ∃ W1, W0.alloc (.cells #[.slice none 0 0] 25) = W1 := ⟨_, rfl⟩
  have hb1 : Below W0.heap.size W0 W1 := by rw [← hW1]; exact new12 _ _
  have hX1 : Boxed W1 g 25 (.slice none 0 0) := by rw [← hW1, ← hg]; exact Boxed.new _ _ _
  have hB1 := Kit.step HB0.out hb1
  have LV := tleaves_any bs o n c HN.out W1 (HR.out.later hB1) (HV.out.later hB1) (by omega) HLL.out
  rw [HDS.out] at LV
  have HLV := Lib.hid LV
  have HW1 := Lib.hid hW1
  have HG := Lib.hid hg
  have HB1 := Lib.hid hB1
  have HX1 := Lib.hid hX1
  clear hW1 hb1 hX1 hB1 LV hg
  go_upto_region 4 with fail
  rw [HW1.out, HG.out]
  clear HW1
  go_upto_region 5 with (first | (refine HLV.out.mono ?_; rintro e W2 ⟨ol, cl, rfl, hdg, hb2⟩) | fail)
  obtain ⟨q, hq⟩ : ∃ q, W2.heap.size = q := ⟨_, rfl⟩
  obtain ⟨W3, hW3⟩ : ∃ W3, W2.alloc (.cells #[.slice ol n cl] 25) = W3 := ⟨_, rfl⟩
  have hb3 : Below W2.heap.size W2 W3 := by rw [← hW3]; exact new12 _ _
  have hs3 : W3.heap.size = q + 1 := by rw [← hW3, World.size_alloc, hq]
  have hX3 : Boxed W3 q 25 (.slice ol n cl) := by rw [← hW3, ← hq]; exact Boxed.new _ _ _
  obtain ⟨W4, hW4⟩ : ∃ W4, W3.alloc (.cells #[.int .i64 (n : Int)] 3) = W4 := ⟨_, rfl⟩
  have hb4 : Below W3.heap.size W3 W4 := by rw [← hW4]; exact new12 _ _
  have hs4 : W4.heap.size = q + 1 + 1 := by rw [← hW4, World.size_alloc, hs3]
  have hX4 : Boxed W4 (q + 1) 3 (.int .i64 (n : Int)) := by rw [← hW4, ← hs3]; exact Boxed.new _ _ _
  obtain ⟨W5, hW5⟩ : ∃ W5, W4.alloc (.cells #[.int .i64 (i : Int)] 3) = W5 := ⟨_, rfl⟩
  have hb5 : Below W4.heap.size W4 W5 := by rw [← hW5]; exact new12 _ _
  have hs5 : W5.heap.size = q + 1 + 1 + 1 := by rw [← hW5, World.size_alloc, hs4]
  have hX5 : Boxed W5 (q + 1 + 1) 3 (.int .i64 (i : Int)) := by rw [← hW5, ← hs4]; exact Boxed.new _ _ _
  have MT := mturns_any (n : Int) (i : Int) W3
  rw [hW4, hW5, hs3] at MT
  have hb25 := Kit.step (Kit.step hb3 hb4) hb5
  have hB5 := Kit.step (Kit.step HB1.out hb2) hb25
  have hgq : g < q := by
    have := HX1.out.lt
    have := hb2.size
    omega
  have hX15 := boxed_later (boxed_later HX1.out hb2) hb25
  have HNE : Hid (∀ ad, ol = some ad → ad.block ≠ g) := Lib.hid (hdg.ne_box (by rw [HDL.out]; have := HI.out; omega) (boxed_later HX1.out hb2))
  have HQ5 : Hid (Boxed W5 q 25 (.slice ol n cl) ∧ Boxed W5 (q + 1) 3 (.int .i64 (n : Int)) ∧ Boxed W5 (q + 1 + 1) 3 (.int .i64 (i : Int)) ∧ DgIs W5 ol ds cl) := Lib.hid ⟨boxed_later (boxed_later hX3 hb4) hb5, boxed_later hX4 hb5, hX5, hdg.later hb25⟩
  have HI0 : Hid (MkI W5 g [] (.slice none 0 0) W5) := Lib.hid ⟨World.ownsRow_nil _ _ _ _, hX15, Rf.Mut.refl _ _, hX15.lt⟩
  have HV5 := Lib.hid (HV.out.later hB5)
  have HB5 := Lib.hid hB5
  have HW3 := Lib.hid hW3
  have HMT := Lib.hid MT
  have HS5 := Lib.hid hs5
  have HGQ := Lib.hid hgq
  have hclc := hdg.le
  rw [HDL.out] at hclc
  have hclm := hdg.cap
  unfold maxLen at hclm
  have HGW : Hid (w.heap.size ≤ g) := Lib.hid (by have := HB0.out.size; have := HG.out; omega)
  have hW5p : 0 < W5.heap.size := by omega
  rw [hq]
  clear hq hW3 hb3 hs3 hX3 hW4 hb4 hs4 hX4 hW5 hb5 hs5 hX5 MT hb25 hB5 hX15 hb2 hdg hgq
  rw [HW3.out]
  go_wp2_with fail
  refine HMT.out.mono ?_
  rintro e w5 ⟨rfl, rfl⟩
  rename World => W5
  clear HMT HLV HW3
  go_wp2_with fail
  refine Rf.range_toldA (α := Nat × Nat × Bool) (σ := List (Nat × Nat × Bool)) rfl (enters_of Tryd.func45 (by kernel_rfl) rfl) (fun x => #[tnV x]) (fun _ => rfl)
    (fun p X => ∃ v, MkI W5 g (p.map (Da.oth ds)) v X)
    (fun c X => False)
    (fun p x p' X => p' = p ++ [x] ∧ p' <+: Da.trn 0 n i)
    [] (fun p => p = Da.trn 0 n i) ?hI ?hIx ?hV ?h0 ?hseq ?round ?done ?stop
  case hI => exact fun s X X' ⟨v, h⟩ k => ⟨v, h.nc k⟩
  case hIx => exact fun c X X' h k => h
  case hV => exact fun s x s' X X' h k => h
  case h0 => exact ⟨_, HI0.out⟩
  case hseq =>
    intro l B Bx X hnc hi2 hB hk ht
    obtain ⟨v, hi2⟩ := hi2
    have hq5 := HQ5.out
    have hgq := HGQ.out
    refine (turns_seq n i (q + 1) (q + 1 + 1) HI.out (by omega) l (fun p X => (∃ v, MkI W5 g (p.map (Da.oth ds)) v X) ∧ B X) Bx ?_ X (hi2.boxed hq5.2.1 (by omega)) (hi2.boxed hq5.2.2.1 (by omega)) ⟨⟨v, hi2⟩, hB⟩).mono ?_
    · exact fun p x Y hp hY => (ht p x (p ++ [x]) Y hY.1 hY.2 ⟨rfl, hp⟩).mono fun e X' h => h.imp (fun h => ⟨h.1, h.2.1, h.2.2⟩) (fun h => ⟨h.1, h.2⟩)
    · rintro e X' ⟨hv, (⟨h, hB⟩ | hx)⟩
      · exact ⟨hv, .inl ⟨_, rfl, h, hB⟩⟩
      · exact ⟨hv, .inr hx⟩
  case round =>
    rintro l p x p' X Z' To ⟨v, hI⟩ ⟨rfl, hp⟩ hsz HN' HR' HE'
    have hxin := HIN.out x (hp.subset (by simp))
    have hlen9 := hp.length_le
    rw [List.length_append, List.length_singleton, HLEN.out] at hlen9
    obtain ⟨tf, tt, tl⟩ := x
    dsimp only at hxin
    have HXO : Hid ((p ++ [(tf, tt, tl)]).map (Da.oth ds) = p.map (Da.oth ds) ++ [Da.oth ds (tf, tt, tl)]) := Lib.hid (by simp)
    have HPL : Hid ((p.map (Da.oth ds)).length = p.length) := Lib.hid (List.length_map _)
    have hel := Da.oth_length HALL.out (tf, tt, tl)
    have heq : Da.oth ds (tf, tt, tl) = Da.ov ((ds.drop tf).take (tt - tf)) := by unfold Da.oth; rw [List.drop_take]
    obtain ⟨e, he⟩ : ∃ e, Da.oth ds (tf, tt, tl) = e := ⟨_, rfl⟩
    rw [he] at HXO hel heq
    obtain ⟨E, hE⟩ : ∃ E, (bytesV e).toArray = E := ⟨_, rfl⟩
    have hEs : E.size = 32 := by rw [← hE]; simp [hel]
    obtain ⟨D, hD⟩ : ∃ D, tnD (tf, tt, tl) = D := ⟨_, rfl⟩
    have hDs : D.size = 3 := by rw [← hD]; rfl
    have HDS3 : Hid ((Tryd.prog.info? 65).map (·.size) = some D.size) := Lib.hid (by rw [hDs]; kernel_rfl)
    have HDO : Hid (D.all (·.oneCell') = true) := Lib.hid (by rw [← hD]; simp [tnD, Value.oneCell'])
    have HDZ : Hid ((#[.int .i64 0, .int .i64 0, .bool false] : Array Value).size = D.size) := Lib.hid (by rw [hDs]; rfl)
    have HD := Lib.hid hD
    have HE := Lib.hid hE
    have HEL := Lib.hid hel
    have HEQ := Lib.hid heq
    have HESZ := Lib.hid hEs
    have HSZ := Lib.hid hsz
    have HII := Lib.hid hI
    have hpn : p.length ≤ 8 := by omega
    have hft : tf < tt := hxin.2.1
    have htn : tt ≤ n := by omega
    rw [show tnV (tf, tt, tl) = .agg D by unfold tnV; rw [hD]]
    clear hxin hlen9 hp hel heq he hE hEs hD hDs hsz hI
    gi_upto_region 6 with fail
    refine Rf.plain_round (by kernel_rfl) (by rintro ⟨a, w, h⟩; exact h) ?_
    (refine wpList_plain rfl (fun K hK => ?_); go_simp; refine hK _ _ ?_; clear hK K)
    refine wpList_store_row rfl 65 (.tmp 8) (.tmp 21) rfl Z'.heap.size D rfl rfl 65 #[.int .i64 0, .int .i64 0, .bool false] (World.alloc_heap_new Z' _) HDS3.out HDZ.out HDO.out ?_
    refine wpList_nil ?_
    refine ⟨(new12 _ _).trans (below_row (Nat.le_refl _)), fun Y hY hnew hsy => ?_⟩
    rw [HSZ.out]
    obtain ⟨pt, hpt⟩ : ∃ pt, X.heap.size = pt := ⟨_, rfl⟩
    have hY8 : Y.heap[pt]? = some (.cells D 65 (0, 0)) := by
      rw [← hpt, hnew _ (Nat.le_refl _), ← HSZ.out]
      exact setRow_heap _ _ _ _ _ _ (World.alloc_heap_new Z' _)
    rw [hpt]
    have hJ := HII.out.later hY
    obtain ⟨hq5a, hq5b, hq5c, hdg5⟩ := HQ5.out
    have hgq := HGQ.out
    have hbq := hJ.boxed hq5a (by omega)
    have hbg := hJ.box
    have hdgY := hdg5.moved hJ.els (fun _ => HNE.out)
    have hBY := HB5.out.trans (hJ.els.below (n := w.heap.size) (fun k hk e => by have := HGW.out; omega) HB5.out.size)
    have hVY := HV.out.later hBY
    have hptY : pt < Y.heap.size := (Array.getElem?_eq_some_iff.1 hY8).1
    have hd0 : Y.cell? ⟨pt, 0, none⟩ = some (.int .i64 (tf : Int)) := by unfold World.cell?; rw [hY8, ← HD.out]; rfl
    have hd1' : Y.cell? ⟨pt, 1, none⟩ = some (.int .i64 (tt : Int)) := by unfold World.cell?; rw [hY8, ← HD.out]; rfl
    have hlg := hJ.lt
    have hszY := hJ.els.size
    obtain ⟨C, hC⟩ : ∃ C : World → Prop, (fun v : World => ∀ k, k = g ∨ k = q ∨ k = pt → v.heap[k]? = Y.heap[k]?) = C := ⟨_, rfl⟩
    have HC1 : Hid (∀ w, (∀ k, k = g ∨ k = q ∨ k = pt → w.heap[k]? = Y.heap[k]?) → C w) := Lib.hid fun w hw => by rw [← hC]; exact hw
    have HC2 : Hid (∀ w, C w → ∀ k, k = g ∨ k = q ∨ k = pt → w.heap[k]? = Y.heap[k]?) := Lib.hid fun w hw => by rw [← hC] at hw; exact hw
    have HG6 : Hid (∀ w, C w → w.cell? ⟨g, 0, none⟩ = some v) := Lib.hid fun w hw => by rw [World.cell?_of_block (HC2.out w hw g (.inl rfl))]; exact hbg.cell
    have HG7 : Hid (∀ w, C w → w.cell? ⟨q, 0, none⟩ = some (.slice ol n cl)) := Lib.hid fun w hw => by rw [World.cell?_of_block (HC2.out w hw q (.inr (.inl rfl)))]; exact hbq.cell
    have HT0 : Hid (∀ w, C w → w.cell? ⟨pt, 0, none⟩ = some (.int .i64 (tf : Int))) := Lib.hid fun w hw => by rw [World.cell?_of_block (a := ⟨pt, 0, none⟩) (HC2.out w hw pt (.inr (.inr rfl)))]; exact hd0
    have HT1 : Hid (∀ w, C w → w.cell? ⟨pt, 1, none⟩ = some (.int .i64 (tt : Int))) := Lib.hid fun w hw => by rw [World.cell?_of_block (a := ⟨pt, 1, none⟩) (HC2.out w hw pt (.inr (.inr rfl)))]; exact hd1'
    obtain ⟨b1, off1, rfl, hb1lt, _⟩ := hdgY.at_ tf (by rw [HDL.out]; omega)
    have hpart := hdgY.part tf (tt - tf) (by rw [HDL.out]; omega) (cl - tf) (by omega) (by unfold maxLen; omega)
    have hdr : Below Y.heap.size Y Y.drew := Kit.dn' Y 1
    have OV := tover_any ((ds.drop tf).take (tt - tf)) _ (tt - tf) (cl - tf) (by rw [List.length_take, List.length_drop, HDL.out]; omega) Y.drew (hpart.later hdr) (hVY.later hdr) (by rw [List.length_take, List.length_drop, HDL.out]; omega)
    rw [← HEQ.out, HE.out] at OV
    have hC0 : C Y.drew := HC1.out _ fun k hk => rfl
    have HJ := Lib.hid hJ
    have HOV := Lib.hid OV
    have HDR := Lib.hid hdr
    have HY := Lib.hid hY
    have HPT := Lib.hid hptY
    have HXP := Lib.hid hpt
    have hck : ¬ cl = tf := by omega
    have hlt2 : ¬ tt < tf := by omega
    have htc : tt ≤ cl := by omega
    clear hq5a hq5b hq5c hdg5 hgq hbq hbg hdgY hBY hVY hptY hd0 hd1' hlg hszY hC hb1lt hpart hdr OV hJ hY hnew hsy hY8 hpt
    gi_upto_region 7 with fail
    refine Rgt.round C (fun t => t == 10) (by kernel_rfl) (by kernel_rfl) (by rintro ⟨a, w, h⟩; exact h) ?_
    refine Rgt.take (i := 0) (x := v) rfl rfl (by kernel_rfl) (by kernel_rfl) (by kernel_rfl) (by kernel_rfl) (fun _ _ _ h => h) (Or.inl ⟨by kernel_rfl, fun w hw => by have hc := HG6.out w hw; (go_simp <;> with_reducible rfl)⟩) hC0 ?_
    go_simp
    refine Rgt.take (i := 1) (x := .slice (some ⟨b1, off1, none⟩) n cl) rfl rfl (by kernel_rfl) (by kernel_rfl) (by kernel_rfl) (by kernel_rfl) (fun _ _ _ h => h) (Or.inl ⟨by kernel_rfl, fun w hw => by have hc := HG7.out w hw; (go_simp <;> with_reducible rfl)⟩) hC0 ?_
    go_simp
    refine Rgt.take (i := 2) (x := .pointer (some ⟨pt, 0, none⟩)) rfl rfl (by kernel_rfl) (by kernel_rfl) (by kernel_rfl) (by kernel_rfl) (fun _ _ _ h => h) (Or.inl ⟨by kernel_rfl, fun w hw => by (go_simp <;> with_reducible rfl)⟩) hC0 ?_
    go_simp
    refine Rgt.take (i := 3) (x := .int .i64 (tf : Int)) rfl rfl (by kernel_rfl) (by kernel_rfl) (by kernel_rfl) (by kernel_rfl) (fun _ _ _ h => h) (Or.inl ⟨by kernel_rfl, fun w hw => by have hc := HT0.out w hw; (go_simp <;> with_reducible rfl)⟩) hC0 ?_
    go_simp
    refine Rgt.take (i := 4) (x := .pointer (some ⟨pt, 1, none⟩)) rfl rfl (by kernel_rfl) (by kernel_rfl) (by kernel_rfl) (by kernel_rfl) (fun _ _ _ h => h) (Or.inl ⟨by kernel_rfl, fun w hw => by (go_simp <;> with_reducible rfl)⟩) hC0 ?_
    go_simp
    refine Rgt.take (i := 5) (x := .int .i64 (tt : Int)) rfl rfl (by kernel_rfl) (by kernel_rfl) (by kernel_rfl) (by kernel_rfl) (fun _ _ _ h => h) (Or.inl ⟨by kernel_rfl, fun w hw => by have hc := HT1.out w hw; (go_simp <;> with_reducible rfl)⟩) hC0 ?_
    go_simp
    refine Rgt.take (i := 6) (x := .slice (some ⟨b1, off1 + tf * 32, none⟩) (tt - tf) (cl - tf)) rfl rfl (by kernel_rfl) (by kernel_rfl) (by kernel_rfl) (by kernel_rfl) (fun _ _ _ h => h) (Or.inl ⟨by kernel_rfl, fun w hw => by (go_simp <;> with_reducible rfl)⟩) hC0 ?_
    go_simp
    refine Rgt.ready (i := 7) (by kernel_rfl) rfl (by kernel_rfl) (fun K hK => ?_)
    go_simp
    refine HOV.out.mono ?_
    rintro e1 Y3 ⟨rfl, hb3⟩
    have hbY3 := Kit.step HDR.out hb3
    have hC3 : C Y3 := HC1.out _ fun k hk => hbY3.block k (by have := HPT.out; have := HJ.out.els.size; have := HJ.out.lt; have := HS5.out; omega)
    refine hK _ _ hC3 ?_
    clear hK K HOV
    have hbs := dg_slice_run (tS := 25) Tryd.underlying25 dgI_code E HESZ.out Y3
    have hba := new12 Y3 (.cells E 38)
    have hrow : (Y3.alloc (.cells E 38)).rangeAt Y3.heap.size 0 (bytesV e) := by rw [← HE.out]; exact (Arr.made Y3 38 (bytesV e)).rng
    have hbY4 := Kit.step hbY3 hba
    have hJ4 := HJ.out.later hbY4
    obtain ⟨g2, cap2, Y5, hrun, hown2, hgr2, hat⟩ := dg_append_run (tS := 25) Tryd.underlying25 dgI_code 25 _ W5.heap.size v _ _ hJ4.own Y3.heap.size e HEL.out hrow (by rw [HPL.out]; omega) hJ4.els.size
    obtain ⟨hbx, hMk, hKO⟩ := HII.out.push (Kit.step HY.out hbY4) hown2 hgr2
    rw [HPL.out] at hrun hMk hKO
    rw [← HXO.out] at hMk
    have hC4 : C (Y3.alloc (.cells E 38)) := HC1.out _ fun k hk => hbY4.block k (by have := HPT.out; have := HJ.out.els.size; have := HJ.out.lt; have := HS5.out; omega)
    have hC5 : C Y5 := HC1.out _ fun k hk => by
      have hk2 : k < Y.heap.size := by have := HPT.out; have := HJ.out.els.size; have := HJ.out.lt; have := HS5.out; omega
      rw [hgr2.block k (Nat.lt_of_lt_of_le hk2 hbY4.size) ?_]
      · exact hbY4.block k hk2
      · rcases hk with rfl | rfl | rfl
        · exact hJ4.ne hJ4.lt
        · exact hJ4.ne (by have := HS5.out; omega)
        · intro e2
          obtain ⟨_, cur, h2⟩ := own_blk HII.out.own _ e2.symm
          have := (Array.getElem?_eq_some_iff.1 h2).1
          have := HXP.out
          omega
    have hc3' := hbx.cell
    have hf3' := hbx.frozen
    have HRUN := Lib.hid hrun
    have HBS := Lib.hid hbs
    have HFI : Hid (KeepsOthers X (Y5.setCell ⟨g, 0, none⟩ (.slice (some ⟨g2, 0, none⟩) (p.length + 1) cap2)) ∧ ∃ v, MkI W5 g ((p ++ [(tf, tt, tl)]).map (Da.oth ds)) v (Y5.setCell ⟨g, 0, none⟩ (.slice (some ⟨g2, 0, none⟩) (p.length + 1) cap2))) := Lib.hid ⟨hKO, _, hMk⟩
    clear hb3 hbY3 hba hrow hbY4 hJ4 hrun hown2 hgr2 hat hbx hMk hKO hbs hC3
    refine Rgt.ready (i := 8) (by kernel_rfl) rfl (by kernel_rfl) (fun K hK => oper_slice 25 1 _ rfl #[(0, .agg E)] (by first | rfl | simp [Act.eval, Act.put]) _ _ HBS.out (hK _ _ hC4 ?_))
    clear hK K
    refine Rgt.ready (i := 9) (by kernel_rfl) rfl (by kernel_rfl) (fun K hK => oper_append (.tmp 22) (.tmp 30) 25 rfl _ _ rfl rfl _ _ HRUN.out (hK _ _ hC5 ?_))
    clear hK K
    go_simp
    refine Rgt.readyT (i := 10) (by kernel_rfl) rfl rfl (by kernel_rfl) (fun K hK => ?_)
    go_simp
    refine hK _ _ ?_
    clear hK K
    refine Rgt.done (by kernel_rfl) ?_ _
    exact HN'.out _ _ HFI.out.1 HFI.out.2
  case done =>
    rintro D' p X hD' rfl ⟨v, hI⟩ hK'
    have hown := hI.own
    rw [← HPA.out, show ((Da.pa ds i).length) = m from (by rw [HPA.out, List.length_map, HLEN.out])] at hown
    have hc3 := hI.box.cell
    have hk : Below w.heap.size X (X.putObj D' (.deferred none)) := belowK_b (w := w) (Nat.le_refl _) X D' _ _ (by have := HB5.out.size; omega) hK' rfl rfl
    have hown2 : (X.putObj D' (.deferred none)).ownsRow W5.heap.size 38 32 v m (bytesV (Da.pa ds i).flatten) := (Rf.NC.put (B := 0) (.deferred none) (Nat.zero_le _) hK' rfl).owns hown
    obtain ⟨hnn, o', c', rfl, hdg⟩ := own_dg hown2 (Da.pa_all32 HALL.out i)
    clear hnn
    have HDG := Lib.hid hdg
    have HBW := Lib.hid ((HB5.out.trans (hI.els.below (n := w.heap.size) (fun k hk e => by have := HGW.out; omega) HB5.out.size)).trans hk)
    clear hown hk hown2 hdg hI
    go_wp2_with fail
    refine Rf.leaves hK' (results_tmp2 rfl _ _ _) ?_
    exact ⟨o', c', rfl, HDG.out, HBW.out⟩
  case stop => exact fun D c X hD h => h.elim
end Go.Proofs.YtjcmihiajpgnjaaDoor
