/- Paths, plain: the nodes above a leaf, the others' roots, what a path makes of a leaf; the first two byte strings from the top that aren't the same. -/
import Derived.Test.YtjcmihiajpgnjaaDoorTh
namespace Go.Proofs.YtjcmihiajpgnjaaDoor.Da
set_option linter.unusedVariables false
set_option linter.unusedSimpArgs false
/-- the nodes above leaf i of n, the deepest first: on which side the others stand (true: left) -/
def ups (n i : Nat) : List Bool :=
  if h : n < 2 then [] else if i < spl n then ups (spl n) i ++ [false] else ups (n - spl n) (i - spl n) ++ [true]
termination_by n
decreasing_by
  all_goals
    have := spl_lt (n := n) (by omega)
    omega
/-- the same, with the others: the first one, and the one behind them; f: where the n leaves begin -/
def trn (f n i : Nat) : List (Nat × Nat × Bool) :=
  if h : n < 2 then [] else if i < spl n then trn f (spl n) i ++ [(f + spl n, f + n, false)] else trn (f + spl n) (n - spl n) (i - spl n) ++ [(f, f + spl n, true)]
termination_by n
decreasing_by
  all_goals
    have := spl_lt (n := n) (by omega)
    omega
/-- a leaf's path, of leaves' digests -/
def pa (l : List (List UInt8)) (i : Nat) : List (List UInt8) :=
  if h : l.length < 2 then [] else if i < spl l.length then pa (l.take (spl l.length)) i ++ [ov (l.drop (spl l.length))] else pa (l.drop (spl l.length)) (i - spl l.length) ++ [ov (l.take (spl l.length))]
termination_by l.length
decreasing_by
  all_goals
    have := spl_lt (n := l.length) (by omega)
    simp
    omega
theorem ups_one {n : Nat} (i : Nat) (h : n < 2) : ups n i = [] := by rw [ups, dif_pos h]
theorem ups_left {n i : Nat} (h : 2 ≤ n) (k : i < spl n) : ups n i = ups (spl n) i ++ [false] := by rw [ups, dif_neg (by omega), if_pos k]
theorem ups_right {n i : Nat} (h : 2 ≤ n) (k : spl n ≤ i) : ups n i = ups (n - spl n) (i - spl n) ++ [true] := by rw [ups, dif_neg (by omega), if_neg (by omega)]
theorem trn_one {n : Nat} (f i : Nat) (h : n < 2) : trn f n i = [] := by rw [trn, dif_pos h]
theorem trn_left {n i : Nat} (f : Nat) (h : 2 ≤ n) (k : i < spl n) : trn f n i = trn f (spl n) i ++ [(f + spl n, f + n, false)] := by rw [trn, dif_neg (by omega), if_pos k]
theorem trn_right {n i : Nat} (f : Nat) (h : 2 ≤ n) (k : spl n ≤ i) : trn f n i = trn (f + spl n) (n - spl n) (i - spl n) ++ [(f, f + spl n, true)] := by rw [trn, dif_neg (by omega), if_neg (by omega)]
theorem pa_one {l : List (List UInt8)} (i : Nat) (h : l.length < 2) : pa l i = [] := by rw [pa, dif_pos h]
theorem pa_left {l : List (List UInt8)} {i : Nat} (h : 2 ≤ l.length) (k : i < spl l.length) : pa l i = pa (l.take (spl l.length)) i ++ [ov (l.drop (spl l.length))] := by rw [pa, dif_neg (by omega), if_pos k]
theorem pa_right {l : List (List UInt8)} {i : Nat} (h : 2 ≤ l.length) (k : spl l.length ≤ i) : pa l i = pa (l.drop (spl l.length)) (i - spl l.length) ++ [ov (l.take (spl l.length))] := by rw [pa, dif_neg (by omega), if_neg (by omega)]
theorem trn_ups (n : Nat) : ∀ f i, (trn f n i).map (·.2.2) = ups n i := by
  induction n using Nat.strongRecOn with
  | ind n ih =>
    intro f i
    by_cases h : n < 2
    · rw [trn_one f i h, ups_one i h]; rfl
    obtain ⟨s1, s2, _⟩ := spl_lt (n := n) (by omega)
    by_cases k : i < spl n
    · rw [trn_left f (by omega) k, ups_left (by omega) k, List.map_append, ih _ s2]; rfl
    · rw [trn_right f (by omega) (by omega), ups_right (by omega) (by omega), List.map_append, ih _ (by omega)]; rfl
theorem trn_length (f n i : Nat) : (trn f n i).length = (ups n i).length := by rw [← trn_ups n f i, List.length_map]
/-- the others lie within the n leaves -/
theorem trn_in (n : Nat) : ∀ f i t, i < n → t ∈ trn f n i → f ≤ t.1 ∧ t.1 < t.2.1 ∧ t.2.1 ≤ f + n := by
  induction n using Nat.strongRecOn with
  | ind n ih =>
    intro f i t hi ht
    by_cases h : n < 2
    · rw [trn_one f i h] at ht; cases ht
    obtain ⟨s1, s2, _⟩ := spl_lt (n := n) (by omega)
    by_cases k : i < spl n
    · rw [trn_left f (by omega) k, List.mem_append, List.mem_singleton] at ht
      rcases ht with ht | rfl
      · have := ih _ s2 f i t k ht; omega
      · dsimp only; omega
    · rw [trn_right f (by omega) (by omega), List.mem_append, List.mem_singleton] at ht
      rcases ht with ht | rfl
      · have := ih _ (by omega) _ _ t (by omega) ht; omega
      · dsimp only; omega
/-- the others' root -/
def oth (l : List (List UInt8)) (t : Nat × Nat × Bool) : List UInt8 := ov ((l.take t.2.1).drop t.1)
theorem pa_trn (l : List (List UInt8)) : ∀ n f i, f + n ≤ l.length → pa ((l.take (f + n)).drop f) i = (trn f n i).map (oth l) := by
  intro n
  induction n using Nat.strongRecOn with
  | ind n ih =>
    intro f i hf
    have hlen : ((l.take (f + n)).drop f).length = n := by simp; omega
    by_cases h : n < 2
    · rw [trn_one f i h, pa_one i (by omega)]; rfl
    obtain ⟨s1, s2, _⟩ := spl_lt (n := n) (by omega)
    have e1 : ((l.take (f + n)).drop f).take (spl n) = (l.take (f + spl n)).drop f := by
      rw [List.take_drop, List.take_take, Nat.min_eq_left (by omega)]
    have e2 : ((l.take (f + n)).drop f).drop (spl n) = (l.take (f + n)).drop (f + spl n) := by rw [List.drop_drop]
    by_cases k : i < spl n
    · rw [trn_left f (by omega) k, pa_left (by omega) (by rw [hlen]; exact k), hlen, List.map_append, e1, e2, ih _ s2 f i (by omega)]; rfl
    · rw [trn_right f (by omega) (by omega), pa_right (by omega) (by rw [hlen]; omega), hlen, List.map_append, e1, e2]
      have := ih (n - spl n) (by omega) (f + spl n) (i - spl n) (by omega)
      rw [show f + spl n + (n - spl n) = f + n by omega] at this
      rw [this]; rfl
theorem pa_all (l : List (List UInt8)) (i : Nat) : pa l i = (trn 0 l.length i).map (oth l) := by
  have := pa_trn l l.length 0 i (by omega)
  rwa [Nat.zero_add, List.take_length, List.drop_zero] at this
theorem pa_length (l : List (List UInt8)) (i : Nat) : (pa l i).length = (ups l.length i).length := by rw [pa_all, List.length_map, trn_length]
theorem oth_length {l : List (List UInt8)} (h : all32 l) (t : Nat × Nat × Bool) : (oth l t).length = 32 := ov_length ((h.take _).drop _)
theorem pa_all32 {l : List (List UInt8)} (h : all32 l) (i : Nat) : all32 (pa l i) := by
  rw [pa_all]
  intro d hd
  obtain ⟨t, _, rfl⟩ := List.mem_map.1 hd
  exact oth_length h t
/-- what a node is made of: own: on the leaf's side; u: whether the others stand left -/
def inn (u : Bool) (own other : List UInt8) : List UInt8 := 1 :: (if u then other ++ own else own ++ other)
/-- the byte strings that a path makes of the first one -/
def mbs (b : List UInt8) (us : List Bool) (ps : List (List UInt8)) : Nat → List UInt8
  | 0 => b
  | s + 1 => inn (us.getD s false) (sha (mbs b us ps s)) (bi ps s)
/-- the digests -/
def fs (d : List UInt8) (us : List Bool) (ps : List (List UInt8)) : Nat → List UInt8
  | 0 => d
  | s + 1 => if us.getD s false then nd (bi ps s) (fs d us ps s) else nd (fs d us ps s) (bi ps s)
theorem sha_inn (u : Bool) (own other : List UInt8) : sha (inn u own other) = if u then nd other own else nd own other := by
  cases u <;> rfl
theorem sha_mb (b : List UInt8) (us : List Bool) (ps : List (List UInt8)) (s : Nat) : sha (mbs b us ps s) = fs (sha b) us ps s := by
  induction s with
  | zero => rfl
  | succ s ih => rw [mbs, sha_inn, ih, fs]
theorem fs_congr {d : List UInt8} {us us' : List Bool} {ps ps' : List (List UInt8)} (m : Nat) (h1 : ∀ s, s < m → us.getD s false = us'.getD s false) (h2 : ∀ s, s < m → bi ps s = bi ps' s) : fs d us ps m = fs d us' ps' m := by
  induction m with
  | zero => rfl
  | succ m ih => rw [fs, fs, ih (fun s hs => h1 s (by omega)) (fun s hs => h2 s (by omega)), h1 m (by omega), h2 m (by omega)]
theorem bi_left {a b : List (List UInt8)} {s : Nat} (h : s < a.length) : bi (a ++ b) s = bi a s := by
  unfold bi
  rw [List.getD_eq_getElem?_getD, List.getD_eq_getElem?_getD, List.getElem?_append_left h]
theorem bi_snoc {a : List (List UInt8)} {p : List UInt8} {s : Nat} (h : s = a.length) : bi (a ++ [p]) s = p := by
  subst h
  simp [bi]
theorem getD_left {a b : List Bool} {s : Nat} (h : s < a.length) : (a ++ b).getD s false = a.getD s false := by
  rw [List.getD_eq_getElem?_getD, List.getD_eq_getElem?_getD, List.getElem?_append_left h]
theorem fs_snoc (d : List UInt8) (us : List Bool) (u : Bool) (ps : List (List UInt8)) (p : List UInt8) (h : ps.length = us.length) :
    fs d (us ++ [u]) (ps ++ [p]) (us.length + 1) = if u then nd p (fs d us ps us.length) else nd (fs d us ps us.length) p := by
  rw [fs, bi_snoc h.symm, fs_congr us.length (fun s hs => getD_left hs) (fun s hs => bi_left (by omega))]
  rw [show (us ++ [u]).getD us.length false = u by simp]
theorem fs_length {d : List UInt8} (hd : d.length = 32) (us : List Bool) (ps : List (List UInt8)) (s : Nat) : (fs d us ps s).length = 32 := by
  cases s with
  | zero => exact hd
  | succ s =>
    rw [fs]
    split <;> exact sha_length _
/-- the root that a leaf's own path makes -/
theorem pa_root (l : List (List UInt8)) : ∀ n i, l.length = n → i < n → fs (bi l i) (ups n i) (pa l i) (ups n i).length = ov l := by
  intro n
  induction n using Nat.strongRecOn generalizing l with
  | ind n ih =>
    intro i hn hi
    by_cases h : n < 2
    · rw [ups_one i h]
      obtain rfl : i = 0 := by omega
      obtain ⟨d, rfl⟩ := List.length_eq_one_iff.1 (show l.length = 1 by omega)
      rw [ov_one]; rfl
    obtain ⟨s1, s2, _⟩ := spl_lt (n := n) (by omega)
    rw [ov_two (by omega), hn]
    have lt : (l.take (spl n)).length = spl n := by rw [List.length_take]; omega
    have ld : (l.drop (spl n)).length = n - spl n := by rw [List.length_drop]; omega
    by_cases k : i < spl n
    · have hp := pa_left (l := l) (i := i) (by omega) (by rw [hn]; exact k)
      rw [hn] at hp
      rw [hp, ups_left (by omega) k, List.length_append, List.length_singleton, fs_snoc _ _ _ _ _ (by rw [pa_length, lt])]
      rw [if_neg (by simp)]
      have := ih _ s2 (l.take (spl n)) i lt k
      rw [show bi (l.take (spl n)) i = bi l i by simp [bi, List.getElem?_take, k]] at this
      rw [this]
    · have hp := pa_right (l := l) (i := i) (by omega) (by rw [hn]; omega)
      rw [hn] at hp
      rw [hp, ups_right (by omega) (by omega), List.length_append, List.length_singleton, fs_snoc _ _ _ _ _ (by rw [pa_length, ld])]
      rw [if_pos rfl]
      have := ih _ (by omega) (l.drop (spl n)) (i - spl n) ld (by omega)
      rw [show bi (l.drop (spl n)) (i - spl n) = bi l i by simp [bi, List.getElem?_drop]; rw [show spl n + (i - spl n) = i by omega]] at this
      rw [this]
theorem log2_mono {a b : Nat} (h : a ≤ b) : a.log2 ≤ b.log2 := by
  by_cases h0 : a = 0
  · subst h0; simp
  · rw [Nat.le_log2 (by omega)]
    exact Nat.le_trans (Nat.log2_self_le h0) h
theorem dpt_mono {a b : Nat} (h : a ≤ b) : dpt a ≤ dpt b := by
  unfold dpt
  have := log2_mono (a := a - 1) (b := b - 1) (by omega)
  split <;> split <;> omega
theorem ups_le (n : Nat) : ∀ i, (ups n i).length ≤ dpt n := by
  induction n using Nat.strongRecOn with
  | ind n ih =>
    intro i
    by_cases h : n < 2
    · rw [ups_one i h]; exact Nat.zero_le _
    obtain ⟨s1, s2, s3⟩ := spl_lt (n := n) (by omega)
    rw [dpt_spl (by omega)]
    by_cases k : i < spl n
    · rw [ups_left (by omega) k, List.length_append, List.length_singleton]
      have := ih _ s2 i; omega
    · rw [ups_right (by omega) (by omega), List.length_append, List.length_singleton]
      have := ih (n - spl n) (by omega) (i - spl n)
      have := dpt_mono (a := n - spl n) (b := spl n) (by omega)
      omega
/-- no path has more than nine digests -/
theorem ups_nine {n : Nat} (h : n ≤ 512) (i : Nat) : (ups n i).length ≤ 9 := by
  refine Nat.le_trans (ups_le n i) (Nat.le_trans (dpt_mono h) ?_)
  decide +kernel
/-- from the top down, the first two that aren't the same have one digest -/
theorem mb_clash {b c : List UInt8} {us : List Bool} {ps qs : List (List UInt8)} (hp : all32 ps) (hq : all32 qs) {m : Nat} (hm : ps.length = m) (hm2 : qs.length = m) (he : sha (mbs b us ps m) = sha (mbs c us qs m)) :
    ∀ j, j ≤ m → (∀ k, j < k → k ≤ m → mbs b us ps k = mbs c us qs k) → sha (mbs b us ps j) = sha (mbs c us qs j) := by
  intro j hj h
  by_cases e : j = m
  · rw [e]; exact he
  · have h2 := h (j + 1) (by omega) (by omega)
    rw [mbs, mbs] at h2
    have l1 := sha_length (mbs b us ps j)
    have l2 := sha_length (mbs c us qs j)
    have l3 : (bi ps j).length = 32 := hp _ (by unfold bi; rw [List.getD_eq_getElem?_getD, List.getElem?_eq_getElem (by omega)]; exact List.getElem_mem _)
    have l4 : (bi qs j).length = 32 := hq _ (by unfold bi; rw [List.getD_eq_getElem?_getD, List.getElem?_eq_getElem (by omega)]; exact List.getElem_mem _)
    unfold inn at h2
    have h3 := (List.cons.inj h2).2
    split at h3
    · exact (List.append_inj h3 (by rw [l3, l4])).2
    · exact (List.append_inj h3 (by rw [l1, l2])).1
end Go.Proofs.YtjcmihiajpgnjaaDoor.Da
