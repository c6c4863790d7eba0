/- Paths, plain: the nodes above a leaf, the others' roots, what a path makes of a leaf; the first two byte strings from the top that aren't the same. The nodes above a leaf, one by one: climb, turns; Length, the code's and the document's. A leaf's path: the code's Make. What a path makes of a leaf, byte string by byte string: made, an iterator that loops over another. made: its iterator's contract. The code's Fold and Check. The code's Fold, where it refuses; Check. The chapter's example. The document's Make; the code's, where there is no such leaf; two rows of digests compared. Two rows of digests compared; PathMakes. -/
import Derived.Test.YtfccpfmgkpcnoaaDoorTh
import Derived.Test.YtfccpfmgkpcnoaaDoorRfm
import Derived.Test.YtfccpfmgkpcnoaaDoorOf
import Derived.Test.YtfccpfmgkpcnoaaDoorStq
import Derived.Test.YtfccpfmgkpcnoaaDoorTn12
import Derived.Test.YtfccpfmgkpcnoaaDoorErr
namespace Go.Proofs.YtfccpfmgkpcnoaaDoor.Da
set_option linter.unusedVariables false
set_option linter.unusedSimpArgs false
/-- the nodes above leaf i of n, the deepest first: on which side the others stand (true: left) -/
def ups (n i : Nat) : List Bool :=
  if h : n < 2 then [] else if i < spl n then ups (spl n) i ++ [false] else ups (n - spl n) (i - spl n) ++ [true]
termination_by n
decreasing_by
  all_goals
    have := spl_lt (n := n) (by omega)
    omega
/-- the same, with the others: the first one, and the one behind them; f: where the n leaves begin -/
def trn (f n i : Nat) : List (Nat × Nat × Bool) :=
  if h : n < 2 then [] else if i < spl n then trn f (spl n) i ++ [(f + spl n, f + n, false)] else trn (f + spl n) (n - spl n) (i - spl n) ++ [(f, f + spl n, true)]
termination_by n
decreasing_by
  all_goals
    have := spl_lt (n := n) (by omega)
    omega
/-- a leaf's path, of leaves' digests -/
def pa (l : List (List UInt8)) (i : Nat) : List (List UInt8) :=
  if h : l.length < 2 then [] else if i < spl l.length then pa (l.take (spl l.length)) i ++ [ov (l.drop (spl l.length))] else pa (l.drop (spl l.length)) (i - spl l.length) ++ [ov (l.take (spl l.length))]
termination_by l.length
decreasing_by
  all_goals
    have := spl_lt (n := l.length) (by omega)
    simp
    omega
theorem ups_one {n : Nat} (i : Nat) (h : n < 2) : ups n i = [] := by rw [ups, dif_pos h]
theorem ups_left {n i : Nat} (h : 2 ≤ n) (k : i < spl n) : ups n i = ups (spl n) i ++ [false] := by rw [ups, dif_neg (by omega), if_pos k]
theorem ups_right {n i : Nat} (h : 2 ≤ n) (k : spl n ≤ i) : ups n i = ups (n - spl n) (i - spl n) ++ [true] := by rw [ups, dif_neg (by omega), if_neg (by omega)]
theorem trn_one {n : Nat} (f i : Nat) (h : n < 2) : trn f n i = [] := by rw [trn, dif_pos h]
theorem trn_left {n i : Nat} (f : Nat) (h : 2 ≤ n) (k : i < spl n) : trn f n i = trn f (spl n) i ++ [(f + spl n, f + n, false)] := by rw [trn, dif_neg (by omega), if_pos k]
theorem trn_right {n i : Nat} (f : Nat) (h : 2 ≤ n) (k : spl n ≤ i) : trn f n i = trn (f + spl n) (n - spl n) (i - spl n) ++ [(f, f + spl n, true)] := by rw [trn, dif_neg (by omega), if_neg (by omega)]
theorem pa_one {l : List (List UInt8)} (i : Nat) (h : l.length < 2) : pa l i = [] := by rw [pa, dif_pos h]
theorem pa_left {l : List (List UInt8)} {i : Nat} (h : 2 ≤ l.length) (k : i < spl l.length) : pa l i = pa (l.take (spl l.length)) i ++ [ov (l.drop (spl l.length))] := by rw [pa, dif_neg (by omega), if_pos k]
theorem pa_right {l : List (List UInt8)} {i : Nat} (h : 2 ≤ l.length) (k : spl l.length ≤ i) : pa l i = pa (l.drop (spl l.length)) (i - spl l.length) ++ [ov (l.take (spl l.length))] := by rw [pa, dif_neg (by omega), if_neg (by omega)]
theorem trn_ups (n : Nat) : ∀ f i, (trn f n i).map (·.2.2) = ups n i := by
  induction n using Nat.strongRecOn with
  | ind n ih =>
    intro f i
    by_cases h : n < 2
    · rw [trn_one f i h, ups_one i h]; rfl
    obtain ⟨s1, s2, _⟩ := spl_lt (n := n) (by omega)
    by_cases k : i < spl n
    · rw [trn_left f (by omega) k, ups_left (by omega) k, List.map_append, ih _ s2]; rfl
    · rw [trn_right f (by omega) (by omega), ups_right (by omega) (by omega), List.map_append, ih _ (by omega)]; rfl
theorem trn_length (f n i : Nat) : (trn f n i).length = (ups n i).length := by rw [← trn_ups n f i, List.length_map]
/-- the others lie within the n leaves -/
theorem trn_in (n : Nat) : ∀ f i t, i < n → t ∈ trn f n i → f ≤ t.1 ∧ t.1 < t.2.1 ∧ t.2.1 ≤ f + n := by
  induction n using Nat.strongRecOn with
  | ind n ih =>
    intro f i t hi ht
    by_cases h : n < 2
    · rw [trn_one f i h] at ht; cases ht
    obtain ⟨s1, s2, _⟩ := spl_lt (n := n) (by omega)
    by_cases k : i < spl n
    · rw [trn_left f (by omega) k, List.mem_append, List.mem_singleton] at ht
      rcases ht with ht | rfl
      · have := ih _ s2 f i t k ht; omega
      · dsimp only; omega
    · rw [trn_right f (by omega) (by omega), List.mem_append, List.mem_singleton] at ht
      rcases ht with ht | rfl
      · have := ih _ (by omega) _ _ t (by omega) ht; omega
      · dsimp only; omega
/-- the others' root -/
def oth (l : List (List UInt8)) (t : Nat × Nat × Bool) : List UInt8 := ov ((l.take t.2.1).drop t.1)
theorem pa_trn (l : List (List UInt8)) : ∀ n f i, f + n ≤ l.length → pa ((l.take (f + n)).drop f) i = (trn f n i).map (oth l) := by
  intro n
  induction n using Nat.strongRecOn with
  | ind n ih =>
    intro f i hf
    have hlen : ((l.take (f + n)).drop f).length = n := by simp; omega
    by_cases h : n < 2
    · rw [trn_one f i h, pa_one i (by omega)]; rfl
    obtain ⟨s1, s2, _⟩ := spl_lt (n := n) (by omega)
    have e1 : ((l.take (f + n)).drop f).take (spl n) = (l.take (f + spl n)).drop f := by
      rw [List.take_drop, List.take_take, Nat.min_eq_left (by omega)]
    have e2 : ((l.take (f + n)).drop f).drop (spl n) = (l.take (f + n)).drop (f + spl n) := by rw [List.drop_drop]
    by_cases k : i < spl n
    · rw [trn_left f (by omega) k, pa_left (by omega) (by rw [hlen]; exact k), hlen, List.map_append, e1, e2, ih _ s2 f i (by omega)]; rfl
    · rw [trn_right f (by omega) (by omega), pa_right (by omega) (by rw [hlen]; omega), hlen, List.map_append, e1, e2]
      have := ih (n - spl n) (by omega) (f + spl n) (i - spl n) (by omega)
      rw [show f + spl n + (n - spl n) = f + n by omega] at this
      rw [this]; rfl
theorem pa_all (l : List (List UInt8)) (i : Nat) : pa l i = (trn 0 l.length i).map (oth l) := by
  have := pa_trn l l.length 0 i (by omega)
  rwa [Nat.zero_add, List.take_length, List.drop_zero] at this
theorem pa_length (l : List (List UInt8)) (i : Nat) : (pa l i).length = (ups l.length i).length := by rw [pa_all, List.length_map, trn_length]
theorem oth_length {l : List (List UInt8)} (h : all32 l) (t : Nat × Nat × Bool) : (oth l t).length = 32 := ov_length ((h.take _).drop _)
theorem pa_all32 {l : List (List UInt8)} (h : all32 l) (i : Nat) : all32 (pa l i) := by
  rw [pa_all]
  intro d hd
  obtain ⟨t, _, rfl⟩ := List.mem_map.1 hd
  exact oth_length h t
/-- what a node is made of: own: on the leaf's side; u: whether the others stand left -/
def inn (u : Bool) (own other : List UInt8) : List UInt8 := 1 :: (if u then other ++ own else own ++ other)
/-- the byte strings that a path makes of the first one -/
def mbs (b : List UInt8) (us : List Bool) (ps : List (List UInt8)) : Nat → List UInt8
  | 0 => b
  | s + 1 => inn (us.getD s false) (sha (mbs b us ps s)) (bi ps s)
/-- the digests -/
def fs (d : List UInt8) (us : List Bool) (ps : List (List UInt8)) : Nat → List UInt8
  | 0 => d
  | s + 1 => if us.getD s false then nd (bi ps s) (fs d us ps s) else nd (fs d us ps s) (bi ps s)
theorem sha_inn (u : Bool) (own other : List UInt8) : sha (inn u own other) = if u then nd other own else nd own other := by
  cases u <;> rfl
theorem sha_mb (b : List UInt8) (us : List Bool) (ps : List (List UInt8)) (s : Nat) : sha (mbs b us ps s) = fs (sha b) us ps s := by
  induction s with
  | zero => rfl
  | succ s ih => rw [mbs, sha_inn, ih, fs]
theorem fs_congr {d : List UInt8} {us us' : List Bool} {ps ps' : List (List UInt8)} (m : Nat) (h1 : ∀ s, s < m → us.getD s false = us'.getD s false) (h2 : ∀ s, s < m → bi ps s = bi ps' s) : fs d us ps m = fs d us' ps' m := by
  induction m with
  | zero => rfl
  | succ m ih => rw [fs, fs, ih (fun s hs => h1 s (by omega)) (fun s hs => h2 s (by omega)), h1 m (by omega), h2 m (by omega)]
theorem bi_left {a b : List (List UInt8)} {s : Nat} (h : s < a.length) : bi (a ++ b) s = bi a s := by
  unfold bi
  rw [List.getD_eq_getElem?_getD, List.getD_eq_getElem?_getD, List.getElem?_append_left h]
theorem bi_snoc {a : List (List UInt8)} {p : List UInt8} {s : Nat} (h : s = a.length) : bi (a ++ [p]) s = p := by
  subst h
  simp [bi]
theorem getD_left {a b : List Bool} {s : Nat} (h : s < a.length) : (a ++ b).getD s false = a.getD s false := by
  rw [List.getD_eq_getElem?_getD, List.getD_eq_getElem?_getD, List.getElem?_append_left h]
theorem fs_snoc (d : List UInt8) (us : List Bool) (u : Bool) (ps : List (List UInt8)) (p : List UInt8) (h : ps.length = us.length) :
    fs d (us ++ [u]) (ps ++ [p]) (us.length + 1) = if u then nd p (fs d us ps us.length) else nd (fs d us ps us.length) p := by
  rw [fs, bi_snoc h.symm, fs_congr us.length (fun s hs => getD_left hs) (fun s hs => bi_left (by omega))]
  rw [show (us ++ [u]).getD us.length false = u by simp]
theorem fs_length {d : List UInt8} (hd : d.length = 32) (us : List Bool) (ps : List (List UInt8)) (s : Nat) : (fs d us ps s).length = 32 := by
  cases s with
  | zero => exact hd
  | succ s =>
    rw [fs]
    split <;> exact sha_length _
/-- the root that a leaf's own path makes -/
theorem pa_root (l : List (List UInt8)) : ∀ n i, l.length = n → i < n → fs (bi l i) (ups n i) (pa l i) (ups n i).length = ov l := by
  intro n
  induction n using Nat.strongRecOn generalizing l with
  | ind n ih =>
    intro i hn hi
    by_cases h : n < 2
    · rw [ups_one i h]
      obtain rfl : i = 0 := by omega
      obtain ⟨d, rfl⟩ := List.length_eq_one_iff.1 (show l.length = 1 by omega)
      rw [ov_one]; rfl
    obtain ⟨s1, s2, _⟩ := spl_lt (n := n) (by omega)
    rw [ov_two (by omega), hn]
    have lt : (l.take (spl n)).length = spl n := by rw [List.length_take]; omega
    have ld : (l.drop (spl n)).length = n - spl n := by rw [List.length_drop]; omega
    by_cases k : i < spl n
    · have hp := pa_left (l := l) (i := i) (by omega) (by rw [hn]; exact k)
      rw [hn] at hp
      rw [hp, ups_left (by omega) k, List.length_append, List.length_singleton, fs_snoc _ _ _ _ _ (by rw [pa_length, lt])]
      rw [if_neg (by simp)]
      have := ih _ s2 (l.take (spl n)) i lt k
      rw [show bi (l.take (spl n)) i = bi l i by simp [bi, List.getElem?_take, k]] at this
      rw [this]
    · have hp := pa_right (l := l) (i := i) (by omega) (by rw [hn]; omega)
      rw [hn] at hp
      rw [hp, ups_right (by omega) (by omega), List.length_append, List.length_singleton, fs_snoc _ _ _ _ _ (by rw [pa_length, ld])]
      rw [if_pos rfl]
      have := ih _ (by omega) (l.drop (spl n)) (i - spl n) ld (by omega)
      rw [show bi (l.drop (spl n)) (i - spl n) = bi l i by simp [bi, List.getElem?_drop]; rw [show spl n + (i - spl n) = i by omega]] at this
      rw [this]
theorem log2_mono {a b : Nat} (h : a ≤ b) : a.log2 ≤ b.log2 := by
  by_cases h0 : a = 0
  · subst h0; simp
  · rw [Nat.le_log2 (by omega)]
    exact Nat.le_trans (Nat.log2_self_le h0) h
theorem dpt_mono {a b : Nat} (h : a ≤ b) : dpt a ≤ dpt b := by
  unfold dpt
  have := log2_mono (a := a - 1) (b := b - 1) (by omega)
  split <;> split <;> omega
theorem ups_le (n : Nat) : ∀ i, (ups n i).length ≤ dpt n := by
  induction n using Nat.strongRecOn with
  | ind n ih =>
    intro i
    by_cases h : n < 2
    · rw [ups_one i h]; exact Nat.zero_le _
    obtain ⟨s1, s2, s3⟩ := spl_lt (n := n) (by omega)
    rw [dpt_spl (by omega)]
    by_cases k : i < spl n
    · rw [ups_left (by omega) k, List.length_append, List.length_singleton]
      have := ih _ s2 i; omega
    · rw [ups_right (by omega) (by omega), List.length_append, List.length_singleton]
      have := ih (n - spl n) (by omega) (i - spl n)
      have := dpt_mono (a := n - spl n) (b := spl n) (by omega)
      omega
/-- no path has more than nine digests -/
theorem ups_nine {n : Nat} (h : n ≤ 512) (i : Nat) : (ups n i).length ≤ 9 := by
  refine Nat.le_trans (ups_le n i) (Nat.le_trans (dpt_mono h) ?_)
  decide +kernel
/-- from the top down, the first two that aren't the same have one digest -/
theorem mb_clash {b c : List UInt8} {us : List Bool} {ps qs : List (List UInt8)} (hp : all32 ps) (hq : all32 qs) {m : Nat} (hm : ps.length = m) (hm2 : qs.length = m) (he : sha (mbs b us ps m) = sha (mbs c us qs m)) :
    ∀ j, j ≤ m → (∀ k, j < k → k ≤ m → mbs b us ps k = mbs c us qs k) → sha (mbs b us ps j) = sha (mbs c us qs j) := by
  intro j hj h
  by_cases e : j = m
  · rw [e]; exact he
  · have h2 := h (j + 1) (by omega) (by omega)
    rw [mbs, mbs] at h2
    have l1 := sha_length (mbs b us ps j)
    have l2 := sha_length (mbs c us qs j)
    have l3 : (bi ps j).length = 32 := hp _ (by unfold bi; rw [List.getD_eq_getElem?_getD, List.getElem?_eq_getElem (by omega)]; exact List.getElem_mem _)
    have l4 : (bi qs j).length = 32 := hq _ (by unfold bi; rw [List.getD_eq_getElem?_getD, List.getElem?_eq_getElem (by omega)]; exact List.getElem_mem _)
    unfold inn at h2
    have h3 := (List.cons.inj h2).2
    split at h3
    · exact (List.append_inj h3 (by rw [l3, l4])).2
    · exact (List.append_inj h3 (by rw [l1, l2])).1
end Go.Proofs.YtfccpfmgkpcnoaaDoor.Da
namespace Go.Proofs.YtfccpfmgkpcnoaaDoor
open Go.RowKit
set_option linter.unusedVariables false
set_option linter.unusedSimpArgs false
attribute [local go_sem] Oper.semAt_some
/-- a node, as the code has it -/
def tnD (t : Nat × Nat × Bool) : Array Value := #[.int .i64 (t.1 : Int), .int .i64 (t.2.1 : Int), .bool t.2.2]
def tnV (t : Nat × Nat × Bool) : Value := .agg (tnD t)
end Go.Proofs.YtfccpfmgkpcnoaaDoor
namespace Go.Proofs.YtfccpfmgkpcnoaaDoor
open Go.RowKit
set_option linter.unusedVariables false
set_option linter.unusedSimpArgs false
attribute [local go_sem] Oper.semAt_some
/-- digests that are appended to a row of one's own; W: the world where the loop begins -/
structure MkI (W : World) (g : Nat) (es : List (List UInt8)) (v : Value) (X : World) : Prop where
  own : X.ownsRow W.heap.size 41 32 v es.length (bytesV es.flatten)
  box : Boxed X g 32 v
  els : Rf.Mut (fun k => k = g) W X
  lt : g < W.heap.size
theorem MkI.ne {W : World} {g : Nat} {es : List (List UInt8)} {v : Value} {X : World} (h : MkI W g es v X) {k : Nat} (hk : k < W.heap.size) : some k ≠ v.ownBlock := fun e => by
  have := (own_blk h.own k e.symm).1
  omega
theorem MkI.later {W : World} {g : Nat} {es : List (List UInt8)} {v : Value} {X X' : World} (h : MkI W g es v X) (hb : Below X.heap.size X X') : MkI W g es v X' :=
  ⟨own_later12 h.own hb, boxed_later h.box hb, h.els.trans (.of_below hb), h.lt⟩
theorem MkI.nc {W : World} {g : Nat} {es : List (List UInt8)} {v : Value} {X X' : World} (h : MkI W g es v X) (k : Rf.NC W.heap.size X X') : MkI W g es v X' :=
  ⟨k.owns h.own, boxed_nc12 h.box k, ⟨k.os.trans h.els.os, k.tape.trans h.els.tape, k.output.trans h.els.output, Nat.le_trans h.els.size k.size, fun i hi hm => by
    have h1 := h.els.same i hi hm
    have hlt : i < X.heap.size := Nat.lt_of_lt_of_le hi h.els.size
    rw [Array.getElem?_eq_getElem hlt] at h1
    rw [k.same i _ (Array.getElem?_eq_getElem hlt) (.inr hi), h1]⟩, h.lt⟩
theorem MkI.boxed {W : World} {g : Nat} {es : List (List UInt8)} {v : Value} {X : World} (h : MkI W g es v X) {q : Nat} {t : TypeId} {u : Value} (hb : Boxed W q t u) (hq : q ≠ g) : Boxed X q t u := by
  unfold Boxed at *
  rw [h.els.same q (Array.getElem?_eq_some_iff.1 hb).1 hq]
  exact hb
theorem MkI.push {W : World} {g : Nat} {es : List (List UInt8)} {v : Value} {X X1 X2 : World} (h : MkI W g es v X) (hb : Below X.heap.size X X1) {d : List UInt8} {g2 cap2 : Nat}
    (hown : X2.ownsRow W.heap.size 41 32 (.slice (some ⟨g2, 0, none⟩) (es.length + 1) cap2) (es.length + 1) (bytesV es.flatten ++ bytesV d)) (hg : X1.grownBy X2 v.ownBlock) :
    Boxed X2 g 32 v ∧ MkI W g (es ++ [d]) (.slice (some ⟨g2, 0, none⟩) (es.length + 1) cap2) (X2.setCell ⟨g, 0, none⟩ (.slice (some ⟨g2, 0, none⟩) (es.length + 1) cap2)) ∧ KeepsOthers X (X2.setCell ⟨g, 0, none⟩ (.slice (some ⟨g2, 0, none⟩) (es.length + 1) cap2)) := by
  have h1 := h.later hb
  have hlt := h.lt
  have hg2 := (own_blk hown g2 rfl).1
  have hbox : Boxed X2 g 32 v := h1.box.kept hg (h1.ne hlt)
  have k1 : X2.grownBy (X2.setCell ⟨g, 0, none⟩ (.slice (some ⟨g2, 0, none⟩) (es.length + 1) cap2)) (some g) := grownBy_setCell' _ _ _
  refine ⟨hbox, ⟨?_, hbox.set _, ?_, hlt⟩, ?_⟩
  · rw [List.length_append, List.length_singleton, List.flatten_append, bytesV_app]
    rw [show ([d] : List (List UInt8)).flatten = d by simp]
    exact World.ownsRow.kept hown k1 (.inr (by simp [Value.ownBlock]; omega))
  · refine Rf.Mut.trans ⟨hg.os.trans h1.els.os, hg.tape.trans h1.els.tape, hg.output.trans h1.els.output, Nat.le_trans h1.els.size hg.size, fun k hk hn => ?_⟩ (.grown k1 (fun k e => by cases e; rfl))
    exact (hg.block k (Nat.lt_of_lt_of_le hk h1.els.size) (h1.ne hk)).trans (h1.els.same k hk hn)
  · refine (keeps_below hb).trans ((KeepsOthers.of_grownBy hg fun k o e ho => ?_).trans (KeepsOthers.setCell _ _ _))
    obtain ⟨_, cur', h2⟩ := own_blk h1.own k e
    rw [h2] at ho
    cases ho
    rfl
/-- a row of digests lies in no block of one cell -/
theorem DgIs.ne_box {W : World} {o : Option Addr} {ds : List (List UInt8)} {c : Nat} (h : DgIs W o ds c) (h0 : 0 < ds.length) {g : Nat} {t : TypeId} {v : Value} (hb : Boxed W g t v) : ∀ ad, o = some ad → ad.block ≠ g := by
  intro ad e ebg
  obtain ⟨b, off, e2, hlt, hc⟩ := h.cells h0
  rw [e] at e2
  cases e2
  dsimp only at ebg
  subst ebg
  have hl := Da.flat_len h.all
  have h1 := hc 1 ((bytesV ds.flatten).getD 1 undef) (by rw [List.getD_eq_getElem?_getD, List.getElem?_eq_getElem (by rw [bytesV_length]; omega)]; rfl)
  unfold World.cell? at h1
  unfold Boxed at hb
  rw [hb] at h1
  simp at h1
theorem DgIs.moved {W X : World} {o : Option Addr} {ds : List (List UInt8)} {c g : Nat} (h : DgIs W o ds c) (hm : Rf.Mut (fun k => k = g) W X) (hne : 0 < ds.length → ∀ ad, o = some ad → ad.block ≠ g) : DgIs X o ds c :=
  ⟨h.le, h.cap, h.nil, h.all, fun h0 => by
    obtain ⟨b, off, e, hlt, hc⟩ := h.cells h0
    refine ⟨b, off, e, Nat.lt_of_lt_of_le hlt hm.size, fun j v hv => ?_⟩
    have := hc j v hv
    rw [← this]
    exact World.cell?_of_block (hm.same b hlt (hne h0 _ e))⟩
end Go.Proofs.YtfccpfmgkpcnoaaDoor
namespace Go.Proofs.YtfccpfmgkpcnoaaDoor
open Go.RowKit
set_option linter.unusedVariables false
set_option linter.unusedSimpArgs false
attribute [local go_sem] Oper.semAt_some
theorem Buf.block {W W' : World} {g cap : Nat} {ys : List UInt8} (h : Buf W g cap ys) (hk : W'.heap[g]? = W.heap[g]?) : Buf W' g cap ys := by
  obtain ⟨h1, h2⟩ := h
  refine ⟨h1, ?_⟩
  rcases h2 with h2 | ⟨g', cap', cur, e, hg, hh, r1, r2, r3, r4⟩
  · exact .inl h2
  · refine .inr ⟨g', cap', cur, e, hg, ?_, r1, r2, r3, r4⟩
    cases e
    rw [hk]
    exact hh
theorem box_block {W W' : World} {g : Nat} {t : TypeId} {v : Value} (h : Boxed W g t v) (hk : W'.heap[g]? = W.heap[g]?) : Boxed W' g t v := by
  unfold Boxed at *
  rw [hk]
  exact h
theorem box_ne {W : World} {p q : Nat} {t u : TypeId} {v x : Value} (h : Boxed W p t v) (k : Boxed W q u x) (hne : t ≠ u) : p ≠ q := fun e => by
  subst e
  unfold Boxed at *
  rw [h] at k
  cases k
  exact hne rfl
theorem Buf.ne {W : World} {g cap q : Nat} {ys : List UInt8} {u : TypeId} {x : Value} (h : Buf W g cap ys) (k : Boxed W q u x) (hne : u ≠ 5) : g ≠ q := fun e => by
  subst e
  obtain ⟨cur, hc⟩ := h.cells
  unfold Boxed at k
  rw [hc] at k
  cases k
  exact hne rfl
end Go.Proofs.YtfccpfmgkpcnoaaDoor
namespace Go.Proofs.YtfccpfmgkpcnoaaDoor
open Go.RowKit
set_option linter.unusedVariables false
set_option linter.unusedSimpArgs false
attribute [local go_sem] Oper.semAt_some
/-- behind made's first statement -/
structure Md1 (W1 : World) (leaf : List UInt8) (vp : Value) (p6 p7 gb cb : Nat) (X : World) : Prop where
  b6 : Boxed X p6 27 (.slice (some ⟨gb, 0, none⟩) (leaf.length + 1) cb)
  b7 : Boxed X p7 32 vp
  buf : Buf X gb cb (0 :: leaf)
  below : Below W1.heap.size W1 X
  g6 : W1.heap.size ≤ p6
  g7 : W1.heap.size ≤ p7
  gg : W1.heap.size ≤ gb
/-- what stays, in made's loop -/
structure MdE where
  leaf : List UInt8
  ps : List (List UInt8)
  us : List Bool
  p5 : Nat
  p6 : Nat
  p7 : Nat
  q : Nat
  D : Nat
  n : Nat
  i : Nat
  m : Nat
  cp : Nat
  op : Option Addr
  yf : Value
structure MdE.ok (E : MdE) : Prop where
  h6 : E.p5 < E.p6
  h7 : E.p5 < E.p7
  q6 : E.p6 < E.q
  q7 : E.p7 < E.q
  qd : E.q + 2 = E.D
def mo (E : MdE) (M : Rf.Blk) : Rf.Blk := fun k => M k ∨ k = E.p6 ∨ k = E.p7 ∨ k = E.D ∨ k = E.D + 1
theorem mo_new {E : MdE} (hE : E.ok) {M : Rf.Blk} {B : Nat} (hM : ∀ k, M k → E.D + 2 ≤ k) (hB : B ≤ E.p5) : ∀ k, mo E M k → B ≤ k := fun k hk => by
  have e1 := hE.h6
  have e2 := hE.h7
  have e3 := hE.q6
  have e5 := hE.qd
  rcases hk with h | h | h | h | h
  · have := hM k h; omega
  · omega
  · omega
  · omega
  · omega
theorem Da.mbs_len (b : List UInt8) (us : List Bool) (ps : List (List UInt8)) (s : Nat) (h : (bi ps s).length = 32) : (Da.mbs b us ps (s + 1)).length = 65 := by
  rw [Da.mbs, Da.inn]
  split <;> simp [h, Da.sha_length]
theorem Md1.of {W1 V : World} {leaf : List UInt8} {vp : Value} {p6 p7 gb cb : Nat} (h6 : Boxed V p6 27 (.slice none 0 0)) (h7 : Boxed V p7 32 (.slice none 0 0)) (hb : Buf V gb cb (0 :: leaf)) (hB : Below W1.heap.size W1 V)
    (g6 : W1.heap.size ≤ p6) (g7 : W1.heap.size ≤ p7) (gg : W1.heap.size ≤ gb) :
    Boxed (V.setCell ⟨p6, 0, none⟩ (.slice (some ⟨gb, 0, none⟩) (leaf.length + 1) cb)) p7 32 (.slice none 0 0) ∧
    Md1 W1 leaf vp p6 p7 gb cb ((V.setCell ⟨p6, 0, none⟩ (.slice (some ⟨gb, 0, none⟩) (leaf.length + 1) cb)).setCell ⟨p7, 0, none⟩ vp) := by
  have hne := box_ne h6 h7 (by decide)
  have hn6 := hb.ne h6 (by decide)
  have hn7 := hb.ne h7 (by decide)
  have k6 := h6.set (.slice (some ⟨gb, 0, none⟩) (leaf.length + 1) cb)
  have k7 := h7.other (B' := p6) (fun e => hne e.symm) (.slice (some ⟨gb, 0, none⟩) (leaf.length + 1) cb)
  have kb : Buf (V.setCell ⟨p6, 0, none⟩ (.slice (some ⟨gb, 0, none⟩) (leaf.length + 1) cb)) gb cb (0 :: leaf) := hb.block ((grownBy_setCell' V p6 _).block gb hb.lt (by simp; exact hn6))
  refine ⟨k7, k6.other hne _, k7.set _, kb.block ((grownBy_setCell' _ p7 _).block gb kb.lt (by simp; exact hn7)), ?_, g6, g7, gg⟩
  exact (hB.setCell (p := ⟨p6, 0, none⟩) g6 _).setCell (p := ⟨p7, 0, none⟩) g7 _
end Go.Proofs.YtfccpfmgkpcnoaaDoor
namespace Go.Proofs.YtfccpfmgkpcnoaaDoor
open Go.RowKit
set_option linter.unusedVariables false
set_option linter.unusedSimpArgs false
attribute [local go_sem] Oper.semAt_some
/-- an error's value, by its number -/
def errP (A : Nat → Addr) (b : Nat) : Value := if b = 0 then .nilIface else .iface 135 (.pointer (some (A (b - 1))))
/-- the sentinels of paths -/
structure E13 (W : World) (A : Nat → Addr) : Prop where
  c0 : W.cell? ⟨0, 0, none⟩ = some (.iface 135 (.pointer (some (A 0))))
  c7 : W.cell? ⟨1, 0, none⟩ = some (.iface 135 (.pointer (some (A 7))))
  c14 : W.cell? ⟨14, 0, none⟩ = some (.iface 135 (.pointer (some (A 14))))
theorem E13.later {W W' : World} {A : Nat → Addr} (h : E13 W A) (hb : Below W.heap.size W W') : E13 W' A := by
  have k : ∀ (g : Nat) (v : Value), W.cell? ⟨g, 0, none⟩ = some v → W'.cell? ⟨g, 0, none⟩ = some v := fun g v hc => by
    rw [hb.cell (p := ⟨g, 0, none⟩) (St.cell_lt hc)]; exact hc
  exact ⟨k _ _ h.c0, k _ _ h.c7, k _ _ h.c14⟩
theorem Da.zero_dg : (bytesV (List.replicate 32 0)).toArray.size = 32 := by simp
/-- between two rounds of Fold -/
structure FoI (bb : Nat → List UInt8) (g : Nat) (W : World) (M : Rf.Blk) (s : Nat) (v : Value) (X : World) : Prop where
  box : Boxed X g 27 v
  els : Rf.Mut (fun k => k = g) W X
  val : s = 0 ∨ ∃ gb cb, v = .slice (some ⟨gb, 0, none⟩) (bb (s - 1)).length cb ∧ Buf X gb cb (bb (s - 1)) ∧ ¬ M gb ∧ gb ≠ W.heap.size ∧ gb ≠ W.heap.size + 1
  lt : g < W.heap.size
theorem FoI.mut {bb : Nat → List UInt8} {g : Nat} {W : World} {M : Rf.Blk} {s : Nat} {v : Value} {X X' : World} (h : FoI bb g W M s v X) (hM : ∀ k, M k → W.heap.size + 2 ≤ k) (k : Rf.Mut (Rf.own2 W.heap.size M) X X') : FoI bb g W M s v X' := by
  have hn : ∀ k, k < W.heap.size → ¬ Rf.own2 W.heap.size M k := fun k hk hh => by
    rcases hh with h1 | h1 | h1
    · have := hM k h1; omega
    · omega
    · omega
  refine ⟨box_block h.box (k.same _ h.box.lt (hn _ h.lt)), ⟨k.os.trans h.els.os, k.tape.trans h.els.tape, k.output.trans h.els.output, Nat.le_trans h.els.size k.size, fun i hi hng => (k.same i (Nat.lt_of_lt_of_le hi h.els.size) (hn i hi)).trans (h.els.same i hi hng)⟩, ?_, h.lt⟩
  rcases h.val with h0 | ⟨gb, cb, e, hb, h1, h2, h3⟩
  · exact .inl h0
  · refine .inr ⟨gb, cb, e, hb.block (k.same gb hb.lt fun hh => ?_), h1, h2, h3⟩
    rcases hh with h4 | h4 | h4
    · exact h1 h4
    · exact h2 h4
    · exact h3 h4
theorem FoI.keep {bb : Nat → List UInt8} {g : Nat} {W : World} {M : Rf.Blk} {s : Nat} {v : Value} {X : World} (h : FoI bb g W M s v X) {q : Nat} {t : TypeId} {u : Value} (hb : Boxed W q t u) (hq : q ≠ g) : Boxed X q t u := box_block hb (h.els.same q hb.lt hq)
end Go.Proofs.YtfccpfmgkpcnoaaDoor
namespace Go.Proofs.YtfccpfmgkpcnoaaDoor
open Go.RowKit
set_option linter.unusedVariables false
set_option linter.unusedSimpArgs false
theorem dgq_neq (xs ys : List UInt8) (hx : xs.length = 32) (hy : ys.length = 32) (w : World) : (binOp .neq 41 (.agg (bytesV xs).toArray) (.agg (bytesV ys).toArray)).run Tryd.prog w = .ok (.bool (!(xs == ys))) w := by
  have h := run_equalIn_bytes (P := Tryd.prog) w 9998 41 5 32 dg_under Tryd.underlying5 (fun w => by
    obtain ⟨i0, hi, _, hz1, _⟩ := info_parts info_u8
    simp [sizeOf, typeInfo, hi, hz1]) xs ys hx hy
  have h' : (Op.equalIn 10000 41 (.agg (bytesV xs).toArray) (.agg (bytesV ys).toArray)).run Tryd.prog w = .ok (xs == ys) w := h
  rw [run_neq_struct, h']
  rfl
theorem dg_built13 : Tryd.prog.built 41 [] = some (bytesV (List.replicate 32 0)).toArray := by kernel_rfl
theorem neq_nil13 (v : World) : (binOp .neq 29 .nilIface .nilIface).run Tryd.prog v = .ok (.bool false) v := by kernel_rfl
/-- what a path's root is: 0, or an error's number -/
def Da.chkF (n i : Int) (m : Nat) : Nat := if 0 ≤ i ∧ i < n ∧ n ≤ 512 then (if m = (Da.ups n.toNat i.toNat).length then 0 else 8) else 1
def Da.fold13 (n i : Int) (leaf : List UInt8) (ps : List (List UInt8)) : List UInt8 := if Da.chkF n i ps.length = 0 then Da.fs (Da.lf leaf) (Da.ups n.toNat i.toNat) ps ps.length else List.replicate 32 0
def Da.chk13 (root : List UInt8) (n i : Int) (leaf : List UInt8) (ps : List (List UInt8)) : Nat := if Da.chkF n i ps.length = 0 then (if Da.fold13 n i leaf ps = root then 0 else 15) else Da.chkF n i ps.length
theorem Da.fold13_length (n i : Int) (leaf : List UInt8) (ps : List (List UInt8)) : (Da.fold13 n i leaf ps).length = 32 := by
  unfold Da.fold13
  split
  · exact Da.fs_length (Da.lf_length leaf) _ _ _
  · simp
end Go.Proofs.YtfccpfmgkpcnoaaDoor
namespace Go.Proofs.YtfccpfmgkpcnoaaDoor
open Go.RowKit
set_option linter.unusedVariables false
set_option linter.unusedSimpArgs false
theorem Da.ups10 : Da.ups 1 0 = [] := Da.ups_one 0 (by omega)
theorem Da.ups20 : (Da.ups 2 0).length = 1 := by
  have h : Da.spl 2 = 1 := by decide +kernel
  rw [Da.ups_left (by omega) (by rw [h]; omega), h, Da.ups10]; rfl
theorem eql_nil13 (v : World) : (binOp .eql 29 .nilIface .nilIface).run Tryd.prog v = .ok (.bool true) v := by kernel_rfl
end Go.Proofs.YtfccpfmgkpcnoaaDoor
namespace Go.Proofs.YtfccpfmgkpcnoaaDoor
open Go.RowKit
set_option linter.unusedVariables false
set_option linter.unusedSimpArgs false
theorem own_base {T : TypeId} {W : World} {b b' sz n : Nat} {v : Value} {xs : List Value} (h : W.ownsRow b T sz v n xs) (hb : b' ≤ b) : W.ownsRow b' T sz v n xs := by
  obtain ⟨h1, h2⟩ := h
  refine ⟨h1, ?_⟩
  rcases h2 with h2 | ⟨g, cap, cur, e, hg, r⟩
  · exact .inl h2
  · exact .inr ⟨g, cap, cur, e, Nat.le_trans hb hg, r⟩
end Go.Proofs.YtfccpfmgkpcnoaaDoor
namespace Go.Proofs.YtfccpfmgkpcnoaaDoor
open Go.RowKit
set_option linter.unusedVariables false
set_option linter.unusedSimpArgs false
theorem Er.Errs.t13 {W : World} {A : Nat → Addr} (h : Er.Errs W A) : E13 W A := ⟨h.c0, h.c7, h.c14⟩
/-- a leaf's own path holds -/
theorem Da.chk_own (bs : List (List UInt8)) (n i : Nat) (hn : bs.length = n) (hi : i < n) (h5 : n ≤ 512) : Da.chk13 (Da.mth bs) (n : Int) (i : Int) (bi bs i) (Da.pa (bs.map Da.lf) i) = 0 := by
  have hl := Da.pa_length (bs.map Da.lf) i
  rw [List.length_map, hn] at hl
  have hk : Da.chkF (n : Int) (i : Int) (Da.pa (bs.map Da.lf) i).length = 0 := by
    unfold Da.chkF
    rw [if_pos ⟨by omega, by omega, by omega⟩, if_pos (by rw [hl]; simp)]
  unfold Da.chk13
  rw [if_pos hk]
  have hr := Da.pa_root (bs.map Da.lf) n i (by rw [List.length_map]; exact hn) hi
  rw [bi_lf bs i (by omega)] at hr
  unfold Da.fold13
  rw [if_pos hk, hl]
  rw [show ((n : Int)).toNat = n by omega, show ((i : Int)).toNat = i by omega]
  rw [hr]
  exact if_pos rfl
def SmAt (n : Nat) (w : World) (iv : Value) (wr : World) : Prop := ∃ k : Nat, k ≤ n ∧ iv = .int .i64 (k : Int) ∧ Below w.heap.size w wr
end Go.Proofs.YtfccpfmgkpcnoaaDoor
