/- Matrices in memory: a row of rows, each in a block of its own; read, written, turned. Registers as solutions of linear equations, plain; Gauss' loops, part by part. What Gauss' loops hold in memory. The document's way of solving linear equations: a solution just if there is one. The document's registers of a length, and the least length of one. The document's way of mending a word: what 'tried' makes of a register. The document's Fix: a word is mended just if it can be. -/
import Derived.Test.YtomkkkbdipcjgaaDoorApw
import Derived.Test.YtomkkkbdipcjgaaDoorMt
import Derived.Test.YtomkkkbdipcjgaaDoorPy
import Derived.Test.YtomkkkbdipcjgaaDoorIns
import Derived.Deep.Onto
import Derived.Test.YtomkkkbdipcjgaaDoorGn
import Derived.StillTailTactics
import Derived.Test.YtomkkkbdipcjgaaDoorFq
import Derived.Test.YtomkkkbdipcjgaaDoorRep
import Derived.OwnWalk
import Derived.BigRegion
import Derived.BigQuiet
namespace Go.Proofs.YtomkkkbdipcjgaaDoor
open Go.RowKit
set_option linter.unusedVariables false
set_option linter.unusedSimpArgs false
/-- where a row lies when two have been turned -/
def trn (a k i : Nat) : Nat := if i = a then k else if i = k then a else i
theorem swp_trn (m : Nat → Nat → UInt8) (a k i j : Nat) : Gf.swp m a k i j = m (trn a k i) j := by
  unfold Gf.swp trn
  split
  · rfl
  · split <;> rfl
theorem trn_lt {a k i R : Nat} (ha : a < R) (hk : k < R) (hi : i < R) : trn a k i < R := by
  unfold trn
  split
  · exact hk
  · split
    · exact ha
    · exact hi
theorem trn_trn (a k i : Nat) : trn a k (trn a k i) = i := by
  unfold trn
  by_cases h1 : i = a
  · subst h1
    rw [if_pos rfl]
    by_cases h2 : k = i
    · rw [if_pos h2, h2]
    · rw [if_neg h2, if_pos rfl]
  · rw [if_neg h1]
    by_cases h2 : i = k
    · subst h2
      rw [if_pos rfl, if_pos rfl]
    · rw [if_neg h2, if_neg h1, if_neg h2]
theorem Mat.swap {W : World} {B gO capO N R : Nat} {Gb Gc : Nat → Nat} {m : Nat → Nat → UInt8} (h : Mat W B gO capO N R Gb Gc m) (a k : Nat) (ha : a < R) (hk : k < R) :
    Mat ((W.setCell ⟨gO, a, none⟩ (.slice (some ⟨Gb k, 0, none⟩) N (Gc k))).setCell ⟨gO, k, none⟩ (.slice (some ⟨Gb a, 0, none⟩) N (Gc a))) B gO capO N R (fun i => Gb (trn a k i)) (fun i => Gc (trn a k i)) (Gf.swp m a k) ∧
      Only gO W ((W.setCell ⟨gO, a, none⟩ (.slice (some ⟨Gb k, 0, none⟩) N (Gc k))).setCell ⟨gO, k, none⟩ (.slice (some ⟨Gb a, 0, none⟩) N (Gc a))) := by
  have h1 := World.ownsRow.stored h.outer a (.slice (some ⟨Gb k, 0, none⟩) N (Gc k))
  have h2 := World.ownsRow.stored h1.1 k (.slice (some ⟨Gb a, 0, none⟩) N (Gc a))
  have ho : Only gO W ((W.setCell ⟨gO, a, none⟩ (.slice (some ⟨Gb k, 0, none⟩) N (Gc k))).setCell ⟨gO, k, none⟩ (.slice (some ⟨Gb a, 0, none⟩) N (Gc a))) := Only.trans h1.2 h2.2
  refine ⟨⟨?_, fun i hi => ?_, fun i j hi hj e => ?_⟩, ho⟩
  · have e : (((List.range R).map fun i => (.slice (some ⟨Gb i, 0, none⟩) N (Gc i) : Value)).set a (.slice (some ⟨Gb k, 0, none⟩) N (Gc k))).set k (.slice (some ⟨Gb a, 0, none⟩) N (Gc a)) = (List.range R).map fun i => (.slice (some ⟨Gb (trn a k i), 0, none⟩) N (Gc (trn a k i)) : Value) := by
      refine List.ext_getElem (by simp) fun i hi1 hi2 => ?_
      simp only [List.getElem_set, List.getElem_map, List.getElem_range]
      unfold trn
      by_cases e1 : k = i
      · subst e1
        rw [if_pos rfl]
        by_cases e2 : k = a
        · subst e2
          rw [if_pos rfl]
        · rw [if_neg e2, if_pos rfl]
      · rw [if_neg e1]
        by_cases e2 : a = i
        · subst e2
          rw [if_pos rfl, if_pos rfl]
        · rw [if_neg e2, if_neg (fun h => e2 h.symm), if_neg (fun h => e1 h.symm)]
    rw [← e]
    exact h2.1
  · have e : tab (Gf.swp m a k i) N = tab (m (trn a k i)) N := by
      congr 1
      funext j
      exact swp_trn m a k i j
    rw [e]
    have hr := h.row (trn a k i) (trn_lt ha hk hi)
    exact ⟨World.ownsRow.kept hr.1 ho (.inr fun e3 => h.ne _ (trn_lt ha hk hi) (Option.some.inj (show some (Gb (trn a k i)) = some gO from e3)).symm), hr.2⟩
  · have := h.apart _ _ (trn_lt ha hk hi) (trn_lt ha hk hj) e
    have h3 := congrArg (trn a k) this
    rwa [trn_trn, trn_trn] at h3
end Go.Proofs.YtomkkkbdipcjgaaDoor
namespace Go.Proofs.YtomkkkbdipcjgaaDoor
set_option linter.unusedVariables false
namespace Gf
/-- the equations of a register of length L for the numbers s -/
def regM (s : Nat → UInt8) (L : Nat) (i j : Nat) : UInt8 := if j < L then s (L + i - (j + 1)) else s (L + i)
/-- a register of a solution -/
def regC (x : Nat → UInt8) (j : Nat) : UInt8 := if j = 0 then 1 else x (j - 1)
theorem dis_regC (s x : Nat → UInt8) (L i : Nat) : dis s (regC x) L i = s i ^^^ sm (fun j => gm (x j) (s (i - (j + 1)))) L := by
  unfold dis
  rw [sm_left]
  congr 1
  exact one_gm _
theorem sol_run (s : Nat → UInt8) (n L : Nat) (x : Nat → UInt8) : Sol (regM s L) (n - L) L x ↔ Run s n (regC x) L := by
  have e : ∀ i, sm (fun j => gm (regM s L i j) (x j)) L = sm (fun j => gm (x j) (s (L + i - (j + 1)))) L := fun i => sm_congr fun j hj => by
    unfold regM
    rw [if_pos hj, gm_comm]
  have e2 : ∀ i, regM s L i L = s (L + i) := fun i => by
    unfold regM
    rw [if_neg (by omega)]
  constructor
  · intro h
    refine ⟨rfl, fun i h1 h2 => ?_⟩
    have h3 := h (i - L) (by omega)
    rw [e, e2, show L + (i - L) = i by omega] at h3
    rw [dis_regC, h3, UInt8.xor_self]
  · intro h i hi
    have h3 := h.run (L + i) (by omega) (by omega)
    rw [dis_regC] at h3
    rw [e, e2]
    exact (xor_eq_zero _ _ h3).symm
theorem run_sol {s c : Nat → UInt8} {n L : Nat} (h : Run s n c L) : Sol (regM s L) (n - L) L (fun j => c (j + 1)) := by
  refine (sol_run s n L _).2 ⟨rfl, fun i h1 h2 => ?_⟩
  have h3 := h.run i h1 h2
  rw [← h3]
  unfold dis
  refine sm_congr fun j hj => ?_
  unfold regC
  by_cases e : j = 0
  · subst e
    rw [if_pos rfl, h.one]
  · rw [if_neg e]
    show gm (c (j - 1 + 1)) _ = _
    rw [show j - 1 + 1 = j by omega]
/-- row a times a number, up to a column -/
def sclAt (m : Nat → Nat → UInt8) (a : Nat) (y : UInt8) (b : Nat) (i j : Nat) : UInt8 := if i = a ∧ j < b then gm (m a j) y else m i j
theorem sclAt_zero (m : Nat → Nat → UInt8) (a : Nat) (y : UInt8) (i j : Nat) : sclAt m a y 0 i j = m i j := if_neg (by omega)
theorem sclAt_full (m : Nat → Nat → UInt8) (a : Nat) (y : UInt8) (N i j : Nat) (h : j < N) : sclAt m a y N i j = scl m a y i j := by
  unfold sclAt scl
  by_cases e : i = a
  · rw [if_pos ⟨e, h⟩, if_pos e]
  · rw [if_neg (fun h => e h.1), if_neg e]
theorem sclAt_here (m : Nat → Nat → UInt8) (a : Nat) (y : UInt8) (b : Nat) : sclAt m a y b a b = m a b := if_neg (by omega)
theorem sclAt_step (m : Nat → Nat → UInt8) (a : Nat) (y : UInt8) (b i j : Nat) : put2 (sclAt m a y b) a b (gm (m a b) y) i j = sclAt m a y (b + 1) i j := by
  unfold put2 sclAt
  by_cases e : i = a ∧ j = b
  · rw [if_pos e, if_pos ⟨e.1, by omega⟩, e.2]
  · rw [if_neg e]
    by_cases e2 : i = a ∧ j < b
    · rw [if_pos e2, if_pos ⟨e2.1, by omega⟩]
    · rw [if_neg e2, if_neg (fun h => by
        rcases Nat.lt_or_ge j b with h1 | h1
        · exact e2 ⟨h.1, h1⟩
        · exact e ⟨h.1, by omega⟩)]
/-- row i and row a times a number, up to a column -/
def addAt (m : Nat → Nat → UInt8) (a r : Nat) (f : UInt8) (b : Nat) (i j : Nat) : UInt8 := if i = r ∧ j < b then m r j ^^^ gm f (m a j) else m i j
theorem addAt_zero (m : Nat → Nat → UInt8) (a r : Nat) (f : UInt8) (i j : Nat) : addAt m a r f 0 i j = m i j := if_neg (by omega)
theorem addAt_here (m : Nat → Nat → UInt8) (a r : Nat) (f : UInt8) (b : Nat) : addAt m a r f b r b = m r b := if_neg (by omega)
theorem addAt_other (m : Nat → Nat → UInt8) (a r : Nat) (f : UInt8) (b j : Nat) (h : a ≠ r) : addAt m a r f b a j = m a j := if_neg fun e => h e.1
theorem addAt_step (m : Nat → Nat → UInt8) (a r : Nat) (f : UInt8) (b i j : Nat) : put2 (addAt m a r f b) r b (m r b ^^^ gm f (m a b)) i j = addAt m a r f (b + 1) i j := by
  unfold put2 addAt
  by_cases e : i = r ∧ j = b
  · rw [if_pos e, if_pos ⟨e.1, by omega⟩, e.2]
  · rw [if_neg e]
    by_cases e2 : i = r ∧ j < b
    · rw [if_pos e2, if_pos ⟨e2.1, by omega⟩]
    · rw [if_neg e2, if_neg (fun h => by
        rcases Nat.lt_or_ge j b with h1 | h1
        · exact e2 ⟨h.1, h1⟩
        · exact e ⟨h.1, by omega⟩)]
theorem clr_zero (m : Nat → Nat → UInt8) (a c i j : Nat) : clr m a c 0 i j = m i j := if_pos (.inr (Nat.zero_le _))
theorem clr_here (m : Nat → Nat → UInt8) (a c i j : Nat) : clr m a c i i j = m i j := if_pos (.inr (Nat.le_refl _))
theorem clr_lead (m : Nat → Nat → UInt8) (a c r j : Nat) : clr m a c r a j = m a j := if_pos (.inl rfl)
/-- nothing is to be done in this row -/
theorem clr_skip (m : Nat → Nat → UInt8) (a c r i j : Nat) (h : r = a ∨ m r c = 0) : clr m a c (r + 1) i j = clr m a c r i j := by
  unfold clr
  by_cases e : i = a
  · rw [if_pos (.inl e), if_pos (.inl e)]
  · by_cases e2 : r + 1 ≤ i
    · rw [if_pos (.inr e2), if_pos (.inr (by omega))]
    · rw [if_neg (by omega)]
      by_cases e3 : r ≤ i
      · rw [if_pos (.inr e3)]
        obtain rfl : i = r := by omega
        rcases h with h | h
        · exact absurd h e
        · rw [h, zero_gm, UInt8.xor_zero]
      · rw [if_neg (by omega)]
/-- a row is done -/
theorem clr_row (m : Nat → Nat → UInt8) (a c r N i j : Nat) (h : r ≠ a) (hj : j < N) : addAt (clr m a c r) a r (m r c) N i j = clr m a c (r + 1) i j := by
  unfold addAt
  by_cases e : i = r
  · subst e
    rw [if_pos ⟨rfl, hj⟩, clr_here, clr_lead]
    unfold clr
    rw [if_neg (by omega)]
  · rw [if_neg (fun h => e h.1)]
    unfold clr
    by_cases e2 : i = a ∨ r ≤ i
    · rw [if_pos e2, if_pos (by omega)]
    · rw [if_neg e2, if_neg (by omega)]
end Gf
end Go.Proofs.YtomkkkbdipcjgaaDoor
namespace Go.Proofs.YtomkkkbdipcjgaaDoor
open Go.RowKit
set_option linter.unusedVariables false
set_option linter.unusedSimpArgs false
theorem info_row : (Tryd.prog.info? 36).map (fun i => (i.zero, i.size, i.bytes)) = some (some (.slice none 0 0), 1, 24) := by kernel_rfl
theorem own_bufM {w : World} {base n : Nat} {v : Value} {z : List UInt8} (h : w.ownsRow base 5 1 v n (bytesV z)) (h0 : 0 < n) (hn : n = z.length) : ∃ g cap, v = .slice (some ⟨g, 0, none⟩) z.length cap ∧ base ≤ g ∧ Buf w g cap z := by
  subst hn
  rcases h.2 with ⟨_, h1⟩ | ⟨g, cap, cur, rfl, hg, _⟩
  · omega
  · exact ⟨g, cap, rfl, hg, World.ownsRow.mono h (Nat.zero_le _)⟩
/-- rows that are only read -/
structure RIn (W : World) (gI N R : Nat) (m : Nat → Nat → UInt8) : Prop where
  lt : gI < W.heap.size
  row : ∀ i, i < R → ∃ o c, W.cell? ⟨gI, i, none⟩ = some (.slice o N c) ∧ RowIs W o (bytesV (tab (m i) N)) c
theorem RIn.later {W W' : World} {gI N R : Nat} {m : Nat → Nat → UInt8} (h : RIn W gI N R m) (hb : Below W.heap.size W W') : RIn W' gI N R m :=
  ⟨Nat.lt_of_lt_of_le h.lt hb.size, fun i hi => by
    obtain ⟨o, c, h1, h2⟩ := h.row i hi
    exact ⟨o, c, (hb.cell (p := ⟨gI, i, none⟩) h.lt).trans h1, h2.later hb⟩⟩
/-- the rows that have been copied so far -/
def Cpy (W : World) (B N k : Nat) (v : Value) (m : Nat → Nat → UInt8) : Prop := ∃ gO capO Gb Gc, v = .slice (some ⟨gO, 0, none⟩) k capO ∧ Mat W B gO capO N k Gb Gc m
theorem Cpy.later {W W' : World} {B N k : Nat} {v : Value} {m : Nat → Nat → UInt8} (h : Cpy W B N k v m) (hb : Below W.heap.size W W') : Cpy W' B N k v m := by
  obtain ⟨gO, capO, Gb, Gc, e, h⟩ := h
  exact ⟨gO, capO, Gb, Gc, e, h.later hb⟩
theorem Cpy.start (W : World) (B N : Nat) (m : Nat → Nat → UInt8) (hB : B ≤ W.heap.size) : Cpy (W.alloc (.cells #[] 36)) B N 0 (.slice (some ⟨W.heap.size, 0, none⟩) 0 0) m :=
  ⟨W.heap.size, 0, fun _ => 0, fun _ => 0, rfl, World.ownsRow_lit W #[] 0 hB (Nat.zero_le _) rfl, fun i hi => absurd hi (by omega), fun i j hi => absurd hi (by omega)⟩
/-- a row more: row k in a new block g, behind the append of its header -/
theorem Cpy.add {W W' : World} {B N k gO capO : Nat} {Gb Gc : Nat → Nat} {v' : Value} {m : Nat → Nat → UInt8} (h : Mat W B gO capO N k Gb Gc m) (g cap : Nat) (hg : B ≤ g) (hrow : Buf W g cap (tab (m k) N)) (hn : ∀ i, i < k → Gb i ≠ g)
    (h1 : W'.ownsRow B 36 1 v' (k + 1) (((List.range k).map fun i => (.slice (some ⟨Gb i, 0, none⟩) N (Gc i) : Value)) ++ [.slice (some ⟨g, 0, none⟩) N cap])) (hgr : W.grownBy W' (some gO)) : Cpy W' B N (k + 1) v' m := by
  have e : ((List.range k).map fun i => (.slice (some ⟨Gb i, 0, none⟩) N (Gc i) : Value)) ++ [.slice (some ⟨g, 0, none⟩) N cap] = (List.range (k + 1)).map fun i => (.slice (some ⟨if i = k then g else Gb i, 0, none⟩) N (if i = k then cap else Gc i) : Value) := by
    rw [List.range_succ, List.map_append, List.map_cons, List.map_nil, if_pos rfl, if_pos rfl]
    congr 1
    refine List.map_congr_left fun i hi => ?_
    have hi := List.mem_range.1 hi
    rw [if_neg (by omega), if_neg (by omega)]
  rw [e] at h1
  obtain ⟨cur, hcur⟩ := h.outCells
  have hne : ∀ g' cap' ys, Buf W g' cap' ys → gO ≠ g' := fun g' cap' ys hb e => by
    obtain ⟨cur2, h2⟩ := hb.cells
    rw [← e, hcur] at h2
    cases h2
  have hkeep : ∀ g' cap' ys, Buf W g' cap' ys → Buf W' g' cap' ys := fun g' cap' ys hb => World.ownsRow.kept hb hgr (.inr fun e => hne g' cap' ys hb (Option.some.inj (show some g' = some gO from e)).symm)
  rcases h1.2 with ⟨h2, h3⟩ | ⟨gO', cap', cur', rfl, _⟩
  · omega
  refine ⟨gO', cap', fun i => if i = k then g else Gb i, fun i => if i = k then cap else Gc i, rfl, h1, fun i hi => ?_, fun i j hi hj e => ?_⟩
  · by_cases e : i = k
    · subst e
      simp only [if_pos]
      exact ⟨hkeep _ _ _ hrow, hg⟩
    · simp only [if_neg e]
      have := h.row i (by omega)
      exact ⟨hkeep _ _ _ this.1, this.2⟩
  · by_cases e1 : i = k
    · by_cases e2 : j = k
      · omega
      · simp only [if_pos e1, if_neg e2] at e
        exact absurd e.symm (hn j (by omega))
    · by_cases e2 : j = k
      · simp only [if_neg e1, if_pos e2] at e
        exact absurd e (hn i (by omega))
      · simp only [if_neg e1, if_neg e2] at e
        exact h.apart i j (by omega) (by omega) e
/-- the rows, and the leading columns -/
structure SoS (W : World) (B gO capO N R : Nat) (Gb Gc : Nat → Nat) (m : Nat → Nat → UInt8) (v : Value) (lead : List Nat) : Prop where
  mat : Mat W B gO capO N R Gb Gc m
  hl : W.ownsRow B 3 1 v lead.length (intsV (lead.map fun c : Nat => (c : Int)))
theorem own_kindI {W : World} {B : Nat} {v : Value} {n : Nat} {xs : List Value} (h : W.ownsRow B 3 1 v n xs) (g : Nat) (e : TypeId) (he : e ≠ 3) (hg : ∃ cur, W.heap[g]? = some (.cells cur e (0, 0))) : v.ownBlock ≠ some g := fun h0 => by
  obtain ⟨cur, hg⟩ := hg
  rcases h.2 with ⟨rfl, _⟩ | ⟨g', cap, cur', rfl, _, h2, _⟩
  · cases h0
  · have : g' = g := Option.some.inj (show some g' = some g from h0)
    rw [this, hg] at h2
    cases h2
    exact he rfl
theorem SoS.later {W W' : World} {B gO capO N R : Nat} {Gb Gc : Nat → Nat} {m : Nat → Nat → UInt8} {v : Value} {lead : List Nat} (h : SoS W B gO capO N R Gb Gc m v lead) (hb : Below W.heap.size W W') : SoS W' B gO capO N R Gb Gc m v lead :=
  ⟨h.mat.later hb, World.ownsRow.kept (row := none) h.hl ⟨hb.os, hb.tape, hb.output, hb.size, fun i hi _ => hb.block i hi⟩ (by
    rcases h.hl.2 with ⟨e, _⟩ | ⟨g, cap, cur, e, _⟩
    · exact .inl (by rw [e]; rfl)
    · exact .inr (by rw [e]; simp [Value.ownBlock]))⟩
theorem SoS.congr {W : World} {B gO capO N R : Nat} {Gb Gc : Nat → Nat} {m m' : Nat → Nat → UInt8} {v : Value} {lead : List Nat} (h : SoS W B gO capO N R Gb Gc m v lead) (he : ∀ i j, i < R → j < N → m i j = m' i j) : SoS W B gO capO N R Gb Gc m' v lead := ⟨h.mat.congr he, h.hl⟩
theorem SoS.store {W : World} {B gO capO N R : Nat} {Gb Gc : Nat → Nat} {m : Nat → Nat → UInt8} {v : Value} {lead : List Nat} (h : SoS W B gO capO N R Gb Gc m v lead) (i j : Nat) (hi : i < R) (hj : j < N) (x : UInt8) :
    SoS (W.setCell ⟨Gb i, j, none⟩ (.int .u8 (x.toNat : Int))) B gO capO N R Gb Gc (put2 m i j x) v lead ∧ Below B W (W.setCell ⟨Gb i, j, none⟩ (.int .u8 (x.toNat : Int))) := by
  have hs := h.mat.store i j hi hj x
  have hr := h.mat.row i hi
  exact ⟨⟨hs.1, World.ownsRow.kept h.hl hs.2 (.inr (own_kindI h.hl _ 5 (by decide) hr.1.cells))⟩, hs.2.below hr.2 (Nat.le_trans h.mat.lt.1 (Nat.le_of_lt h.mat.lt.2))⟩
theorem SoS.swap {W : World} {B gO capO N R : Nat} {Gb Gc : Nat → Nat} {m : Nat → Nat → UInt8} {v : Value} {lead : List Nat} (h : SoS W B gO capO N R Gb Gc m v lead) (a k : Nat) (ha : a < R) (hk : k < R) :
    SoS ((W.setCell ⟨gO, a, none⟩ (.slice (some ⟨Gb k, 0, none⟩) N (Gc k))).setCell ⟨gO, k, none⟩ (.slice (some ⟨Gb a, 0, none⟩) N (Gc a))) B gO capO N R (fun i => Gb (trn a k i)) (fun i => Gc (trn a k i)) (Gf.swp m a k) v lead ∧
      Below B W ((W.setCell ⟨gO, a, none⟩ (.slice (some ⟨Gb k, 0, none⟩) N (Gc k))).setCell ⟨gO, k, none⟩ (.slice (some ⟨Gb a, 0, none⟩) N (Gc a))) := by
  have hs := h.mat.swap a k ha hk
  exact ⟨⟨hs.1, World.ownsRow.kept h.hl hs.2 (.inr (own_kindI h.hl _ 36 (by decide) h.mat.outCells))⟩, hs.2.below h.mat.lt.1 (Nat.le_trans h.mat.lt.1 (Nat.le_of_lt h.mat.lt.2))⟩
theorem SoS.push {W W' : World} {B gO capO N R : Nat} {Gb Gc : Nat → Nat} {m : Nat → Nat → UInt8} {v v' : Value} {lead : List Nat} (h : SoS W B gO capO N R Gb Gc m v lead) (c : Nat) (hown : W'.ownsRow B 3 1 v' (lead.length + 1) (intsV ((lead.map fun c : Nat => (c : Int)) ++ [(c : Int)]))) (hgr : W.grownBy W' v.ownBlock) :
    SoS W' B gO capO N R Gb Gc m v' (lead ++ [c]) := by
  have hk : ∀ g e, e ≠ 3 → (∃ cur, W.heap[g]? = some (.cells cur e (0, 0))) → v.ownBlock ≠ some g := fun g e he hg => own_kindI h.hl g e he hg
  refine ⟨⟨World.ownsRow.kept h.mat.outer hgr (.inr fun e => hk gO 36 (by decide) h.mat.outCells e.symm), fun i hi => ⟨World.ownsRow.kept (h.mat.row i hi).1 hgr (.inr fun e => hk (Gb i) 5 (by decide) (h.mat.row i hi).1.cells e.symm), (h.mat.row i hi).2⟩, h.mat.apart⟩, ?_⟩
  rw [List.length_append, List.map_append]
  exact hown
end Go.Proofs.YtomkkkbdipcjgaaDoor
namespace Go.Proofs.YtomkkkbdipcjgaaDoor
open Go.RowKit
set_option linter.unusedVariables false
set_option linter.unusedSimpArgs false
def SolTo (mm : Nat → Nat → UInt8) (R n : Nat) (w : World) (e : Ending) (w' : World) : Prop :=
  Below w.heap.size w w' ∧ ((∃ (x : List UInt8) (v : Value), x.length = n ∧ Gf.Sol mm R n (co x) ∧ e = .returned (.tuple #[v, .bool true]) ∧ RowV x v w') ∨ ((∀ x, ¬ Gf.Sol mm R n x) ∧ e = .returned (.tuple #[.slice none 0 0, .bool false])))
def L1At (mm : Nat → Nat → UInt8) (R N : Nat) (w : World) (v i : Value) (wr : World) : Prop :=
  ∃ k : Nat, k ≤ R ∧ i = .int .i64 k ∧ Cpy wr w.heap.size N k v mm ∧ Below w.heap.size w wr
def L2At (mm : Nat → Nat → UInt8) (R n N gO capO : Nat) (w : World) (v at_ c : Value) (wr : World) : Prop :=
  ∃ (lead : List Nat) (m : Nat → Nat → UInt8) (Gb Gc : Nat → Nat) (cc : Nat), cc ≤ n ∧ c = .int .i64 cc ∧ at_ = .int .i64 lead.length ∧ Gf.El mm R n m lead cc ∧ SoS wr w.heap.size gO capO N R Gb Gc m v lead ∧ Below w.heap.size w wr
/-- so far along a row, or along the rows -/
def LcAt (f : Nat → Nat → Nat → UInt8) (N : Nat) (S : (Nat → Nat → UInt8) → World → Prop) (i : Value) (wr : World) : Prop := ∃ b : Nat, b ≤ N ∧ i = .int .i64 b ∧ S (f b) wr
def L7At (m : Nat → Nat → UInt8) (R a n : Nat) (w : World) (kv : Value) (wr : World) : Prop :=
  ∃ k : Nat, a ≤ k ∧ k ≤ R ∧ kv = .int .i64 k ∧ (∀ i, a ≤ i → i < k → m i n = 0) ∧ Kit.Dn w wr
/-- a solution, so far: the right sides stand at the leading columns -/
structure XoAt (m : Nat → Nat → UInt8) (n : Nat) (lead : List Nat) (w : World) (t : Nat) (xs : List UInt8) (wr : World) : Prop where
  len : xs.length = n
  at_ : ∀ t', t' < t → co xs (lead.getD t' 0) = m t' n
  none_ : ∀ j, (∀ t', t' < t → lead.getD t' 0 ≠ j) → co xs j = 0
  buf : Buf wr w.heap.size n xs
  below : Below w.heap.size w wr
theorem XoAt.step {mm m : Nat → Nat → UInt8} {R n cc : Nat} {lead : List Nat} {w wr : World} {t : Nat} {xs : List UInt8} (h : XoAt m n lead w t xs wr) (hel : Gf.El mm R n m lead cc) (ht : t < lead.length) (hc : lead.getD t 0 < n) :
    XoAt m n lead w (t + 1) (xs.set (lead.getD t 0) (m t n)) (wr.setCell ⟨w.heap.size, lead.getD t 0, none⟩ (.int .u8 ((m t n).toNat : Int))) := by
  have hs := h.buf.store (lead.getD t 0) (m t n)
  have hd : ∀ t', t' < t → lead.getD t' 0 ≠ lead.getD t 0 := fun t' ht' e => by
    have h1 := hel.one t ht
    have h2 := hel.else_ t' (by omega) t (by have := hel.le; omega) (by omega)
    rw [e, h1] at h2
    exact absurd h2 (by decide)
  refine ⟨by rw [List.length_set, h.len], fun t' ht' => ?_, fun j hj => ?_, hs.1, h.below.trans (Only.below hs.2 (Nat.le_refl _) h.below.size)⟩
  · rw [co_set]
    by_cases e : t' = t
    · subst e
      rw [if_pos ⟨rfl, by rw [h.len]; exact hc⟩]
    · rw [if_neg (fun e2 => hd t' (by omega) e2.1.symm)]
      exact h.at_ t' (by omega)
  · rw [co_set, if_neg (fun e2 => hj t (by omega) e2.1)]
    exact h.none_ j fun t' ht' => hj t' (by omega)
def XtAt (m : Nat → Nat → UInt8) (n : Nat) (lead : List Nat) (w : World) (iv : Value) (wr : World) : Prop := ∃ (t : Nat) (xs : List UInt8), t ≤ lead.length ∧ iv = .int .i64 t ∧ XoAt m n lead w t xs wr
def L3At (m : Nat → Nat → UInt8) (R a cc : Nat) (w : World) (kv : Value) (wr : World) : Prop :=
  ∃ k : Nat, a ≤ k ∧ k ≤ R ∧ kv = .int .i64 k ∧ (∀ i, a ≤ i → i < k → m i cc = 0) ∧ Kit.Dn w wr
end Go.Proofs.YtomkkkbdipcjgaaDoor
namespace Go.Proofs.YtomkkkbdipcjgaaDoor
open Go.RowKit
set_option linter.unusedVariables false
set_option linter.unusedSimpArgs false
theorem Mat.rin {W : World} {B gO capO N R : Nat} {Gb Gc : Nat → Nat} {m : Nat → Nat → UInt8} (h : Mat W B gO capO N R Gb Gc m) : RIn W gO N R m :=
  ⟨h.lt.2, fun i hi => ⟨_, _, h.hdr i hi, by
    have := (h.row i hi).1.row
    exact this⟩⟩
def RgAt (s : List UInt8) (L : Nat) (w : World) (v iv : Value) (wr : World) : Prop :=
  ∃ k i : Nat, i = L + k ∧ i ≤ s.length ∧ iv = .int .i64 i ∧ Cpy wr w.heap.size (L + 1) k v (Gf.regM (co s) L) ∧ Below w.heap.size w wr
/-- a row of the equations, so far -/
def eqL (s : List UInt8) (L i t : Nat) : List UInt8 := tab (fun b => if b < t then co s (i - (b + 1)) else 0) (L + 1)
theorem eqL_step (s : List UInt8) (L i t : Nat) (h : t < L) : (eqL s L i t).set t (co s (i - (t + 1))) = eqL s L i (t + 1) := list_ext (by simp [eqL]) fun b hb => by
  simp [eqL] at hb
  unfold eqL
  rw [co_set, co_tab _ _ _ hb, co_tab _ _ _ hb]
  by_cases e : t = b
  · subst e
    rw [if_pos ⟨rfl, by rw [tab_length]; exact hb⟩, if_pos (by omega)]
  · rw [if_neg (fun h => e h.1)]
    by_cases e2 : b < t
    · rw [if_pos e2, if_pos (by omega)]
    · rw [if_neg e2, if_neg (by omega)]
theorem eqL_full (s : List UInt8) (L k : Nat) : (eqL s L (L + k) L).set L (co s (L + k)) = tab (Gf.regM (co s) L k) (L + 1) := list_ext (by simp [eqL]) fun b hb => by
  simp [eqL] at hb
  unfold eqL
  rw [co_set, co_tab _ _ _ hb, co_tab _ _ _ hb]
  unfold Gf.regM
  by_cases e : L = b
  · subst e
    rw [if_pos ⟨rfl, by rw [tab_length]; exact hb⟩, if_neg (by omega)]
  · rw [if_neg (fun h => e h.1), if_pos (by omega), if_pos (by omega)]
def RhAt (s : List UInt8) (L i : Nat) (w : World) (jv : Value) (wr : World) : Prop :=
  ∃ t j : Nat, j = t + 1 ∧ t ≤ L ∧ jv = .int .i64 j ∧ Buf wr w.heap.size (L + 1) (eqL s L i t) ∧ Below w.heap.size w wr
def ShAt (L : Nat) (w : World) (iv : Value) (wr : World) : Prop := ∃ k : Nat, k ≤ L ∧ iv = .int .i64 k ∧ Below w.heap.size w wr
end Go.Proofs.YtomkkkbdipcjgaaDoor
namespace Go.Proofs.YtomkkkbdipcjgaaDoor
open Go.RowKit
set_option linter.unusedVariables false
set_option linter.unusedSimpArgs false
def rtB (n : Nat) (z : List Int) (R : List UInt8) (p : Nat) : Bool := !(decide ((p : Int) ∈ z)) && decide (evL R (Gf.gd 1 (Gf.al (n - 1 - p))) = 0)
/-- those of the first k places -/
def fnd (n : Nat) (z : List Int) (R : List UInt8) (k : Nat) : List Nat := (List.range k).filter (rtB n z R)
theorem fnd_no {n k : Nat} {z : List Int} {R : List UInt8} (h : rtB n z R k = false) : fnd n z R (k + 1) = fnd n z R k := by
  unfold fnd
  rw [List.range_succ, List.filter_append, List.filter_cons, h]
  simp
theorem fnd_yes {n k : Nat} {z : List Int} {R : List UInt8} (h : rtB n z R k = true) : fnd n z R (k + 1) = fnd n z R k ++ [k] := by
  unfold fnd
  rw [List.range_succ, List.filter_append, List.filter_cons, h]
  simp
theorem fnd_nodup (n : Nat) (z : List Int) (R : List UInt8) (k : Nat) : (fnd n z R k).Nodup := List.filter_sublist.nodup List.nodup_range
theorem fnd_le (n : Nat) (z : List Int) (R : List UInt8) (k : Nat) : (fnd n z R k).length ≤ k := by
  have := List.length_filter_le (rtB n z R) (List.range k)
  simpa [fnd] using this
theorem mem_fnd {n k p : Nat} {z : List Int} {R : List UInt8} : p ∈ fnd n z R k ↔ p < k ∧ (p : Int) ∉ z ∧ ∃ y, Gf.gm (Gf.al (n - 1 - p)) y = 1 ∧ evL R y = 0 := by
  unfold fnd rtB
  rw [List.mem_filter, List.mem_range]
  simp only [Bool.and_eq_true, Bool.not_eq_true', decide_eq_false_iff_not, decide_eq_true_eq]
  constructor
  · rintro ⟨h1, h2, h3⟩
    obtain ⟨y, hy⟩ := al_inv (n - 1 - p)
    exact ⟨h1, h2, y, hy, by rw [inv_only hy]; exact h3⟩
  · rintro ⟨h1, h2, y, hy, h3⟩
    exact ⟨h1, h2, by rw [← inv_only hy]; exact h3⟩
/-- all places to mend: the erased ones, and the roots -/
def alN (n : Nat) (z : List Int) (R : List UInt8) (k : Nat) : List Nat := z.map Int.toNat ++ fnd n z R k
def alI (n : Nat) (z : List Int) (R : List UInt8) (k : Nat) : List Int := z ++ (fnd n z R k).map fun p : Nat => (p : Int)
theorem al_len (n : Nat) (z : List Int) (R : List UInt8) (k : Nat) : (alI n z R k).length = (alN n z R k).length := by simp [alI, alN]
theorem al_ci {n k : Nat} {z : List Int} {R : List UInt8} (hok : EOk n z) (i : Nat) (hi : i < (alN n z R k).length) : ci (alI n z R k) i = (((alN n z R k).getD i 0 : Nat) : Int) := by
  have e : alI n z R k = (alN n z R k).map fun p : Nat => (p : Int) := by
    unfold alI alN
    rw [List.map_append]
    congr 1
    rw [List.map_map]
    conv => lhs; rw [← List.map_id z]
    refine List.map_congr_left fun q hq => ?_
    have := (ints_mem hok hq).1
    show q = ((q.toNat : Nat) : Int)
    omega
  unfold ci
  rw [e, List.getD_eq_getElem?_getD, List.getD_eq_getElem?_getD, List.getElem?_map, List.getElem?_eq_getElem hi]
  rfl
theorem al_all {n : Nat} {z : List Int} {R : List UInt8} (hok : EOk n z) : All n z (fnd n z R n) (alN n z R n) := by
  have hm : ∀ p, p ∈ alN n z R n ↔ ((p < n ∧ (p : Int) ∈ z) ∨ p ∈ fnd n z R n) := fun p => by
    unfold alN
    rw [List.mem_append]
    constructor
    · rintro (h | h)
      · obtain ⟨q, hq, rfl⟩ := List.mem_map.1 h
        have := ints_mem hok hq
        exact .inl ⟨by omega, by rw [Int.toNat_of_nonneg this.1]; exact hq⟩
      · exact .inr h
    · rintro (⟨_, h⟩ | h)
      · exact .inl (List.mem_map.2 ⟨(p : Int), h, by simp⟩)
      · exact .inr h
  refine ⟨List.nodup_append.2 ⟨?_, fnd_nodup _ _ _ _, fun a ha b hb e => ?_⟩, fun p hp => ?_, fun p hp => ?_⟩
  · have h1 := ints_nodup hok
    rw [List.nodup_iff_pairwise_ne, List.pairwise_map]
    rw [List.nodup_iff_pairwise_ne] at h1
    refine List.Pairwise.imp_of_mem (fun {a b} ha hb hab => ?_) h1
    have := ints_mem hok ha
    have := ints_mem hok hb
    omega
  · subst e
    obtain ⟨q, hq, rfl⟩ := List.mem_map.1 ha
    have := ints_mem hok hq
    exact (mem_fnd.1 hb).2.1 (by rw [Int.toNat_of_nonneg this.1]; exact hq)
  · rcases (hm p).1 hp with h | h
    · exact h.1
    · exact (mem_fnd.1 h).1
  · rw [hm]
    exact ⟨fun h => h.elim (fun h => .inl h.2) .inr, fun h => h.elim (fun h => .inl ⟨hp, h⟩) .inr⟩
/-- what is added at the first k places -/
def lk (P : List Nat) (x : List UInt8) (k : Nat) : List (Nat × UInt8) := (List.range k).map fun i => (P.getD i 0, co x i)
theorem lk_succ (P : List Nat) (x : List UInt8) (k : Nat) : lk P x (k + 1) = lk P x k ++ [(P.getD k 0, co x k)] := by
  unfold lk
  rw [List.range_succ, List.map_append]; rfl
theorem lk_fst (P : List Nat) (x : List UInt8) : (lk P x P.length).map (·.1) = P := by
  refine List.ext_getElem (by simp [lk]) fun i h1 h2 => ?_
  simp [lk, List.getElem?_eq_getElem h2]
theorem ls_lk (n : Nat) (P : List Nat) (x : List UInt8) (j k : Nat) : Gf.ls ((lk P x k).map fun e => (e.2, Gf.al (n - 1 - e.1))) j = Gf.sm (fun i => Gf.gm (Gf.px (Gf.al (n - 1 - P.getD i 0)) j) (co x i)) k := by
  induction k with
  | zero => rfl
  | succ k ih =>
    rw [lk_succ, List.map_append, List.map_cons, List.map_nil, Gf.ls_snoc, ih]
    show _ = Gf.sm _ k ^^^ _
    congr 1
    exact Gf.gm_comm _ _
/-- the equations: the sums of the powers are the syndromes -/
def mmT (n : Nat) (P : List Nat) (s : List UInt8) (j i : Nat) : UInt8 := if i < P.length then Gf.px (Gf.al (n - 1 - P.getD i 0)) j else co s j
theorem mmT_adds {n : Nat} {P : List Nat} {W x : List UInt8} (h : Gf.Sol (mmT n P (synL W)) 32 P.length (co x)) : Adds W n (lk P x P.length) := fun j hj => by
  rw [ls_lk]
  have h1 := h j hj
  rw [show mmT n P (synL W) j P.length = co (synL W) j from if_neg (by omega)] at h1
  rw [← h1]
  exact Gf.sm_congr fun i hi => by unfold mmT; rw [if_pos hi]
theorem mmT_some {n : Nat} {P : List Nat} {W : List UInt8} {l : List (Nat × UInt8)} (hl : l.map (·.1) = P) (ha : Adds W n l) : Gf.Sol (mmT n P (synL W)) 32 P.length (co (l.map (·.2))) := fun j hj => by
  rw [show mmT n P (synL W) j P.length = co (synL W) j from if_neg (by omega), ← ha j hj]
  have e : l = lk P (l.map (·.2)) P.length := by
    refine List.ext_getElem (by simp [lk, ← hl]) fun i h1 h2 => ?_
    have h3 : i < P.length := by rw [← hl]; simpa using h1
    simp [lk, ← hl, co, h1]
  have h1 := ls_lk n P (l.map (·.2)) j P.length
  rw [← e] at h1
  rw [h1]
  exact Gf.sm_congr fun i hi => by unfold mmT; rw [if_pos hi]
theorem append_ints {ops : Array Oper} {rest : List Oper} {o : Oper} {a : Act} {Q : Exit → Act → World → Prop} {w : World} (hgd : o.guard = none) (s x : Operand)
    (ho : o.op = .call { callee := .builtin .append, args := #[s, x], argTypes := #[74, 74] })
    (base : Nat) (v : Value) (n : Nat) (z : List Int) (hs : a.eval s = v) (hown : w.ownsRow base 3 1 v n (intsV z))
    (ad : Option Addr) (m c : Nat) (y : List Int) (hx : a.eval x = .slice ad m c) (hm : m = y.length) (hrow : RowIs w ad (intsV y) c) (hl : n + m ≤ 10000000) (hbase : base ≤ w.heap.size)
    (h : ∀ v' w', w'.ownsRow base 3 1 v' (n + m) (intsV (z ++ y)) → w.grownBy w' v.ownBlock → wpList Tryd.prog ops Q rest (a.put o.dst v') w') : wpList Tryd.prog ops Q (o :: rest) a w := by
  obtain ⟨i0, hi, hz0, hz1, hz2⟩ := info_parts info_int
  have e : intsV (z ++ y) = intsV z ++ intsV y := by simp [intsV]
  rw [e] at h
  subst hm
  cases ad with
  | none =>
    have h0 := hrow.nil rfl
    have hle := hrow.le
    simp only [intsV_length] at hle
    obtain rfl : y = [] := List.eq_nil_of_length_eq_zero (by omega)
    subst h0
    refine wpList_append_own_none hgd s x 74 ho base 3 i0 1 Tryd.underlying74 hi v n (intsV z) hs hown hx ?_
    exact h v w (by simpa [intsV] using hown) ⟨rfl, rfl, rfl, Nat.le_refl _, fun _ _ _ => rfl⟩
  | some ad =>
    refine wpList_append_own_wide w hgd s x 74 ho base 3 i0 (.int .i64 0) 1 8 Tryd.underlying74 hi hz0 hz1 hz2 rfl (by decide) v n (intsV z) hs hown ad y.length c (intsV y) hx (by simp) (hrow.adds ad rfl) (fun u hu => by
      obtain ⟨b, _, rfl⟩ := List.mem_map.1 hu
      rfl) (by unfold maxLen; omega) (by omega) hbase ?_
    intro v' w' h1 h2 _
    exact h v' w' h1 h2
def TgAt (z : List Int) (n g : Nat) (w : World) (iv : Value) (wr : World) : Prop := ∃ k : Nat, k ≤ z.length ∧ iv = .int .i64 k ∧ BRow wr g n (fun q => decide ((q : Int) ∈ z.take k)) ∧ Below w.heap.size w wr
def TfAt (z : List Int) (n : Nat) (R : List UInt8) (w : World) (v f p : Value) (wr : World) : Prop := ∃ k : Nat, k ≤ n ∧ p = .int .i64 k ∧ f = .int .i64 (fnd n z R k).length ∧ wr.ownsRow w.heap.size 3 1 v (alI n z R k).length (intsV (alI n z R k)) ∧ Below w.heap.size w wr
def TrAt (mm : Nat → Nat → UInt8) (N : Nat) (w : World) (v jv : Value) (wr : World) : Prop := ∃ k : Nat, k ≤ 32 ∧ jv = .int .i64 k ∧ Cpy wr w.heap.size N k v mm ∧ Below w.heap.size w wr
def TiAt (m : Nat → UInt8) (M : Nat) (w : World) (v iv : Value) (wr : World) : Prop := ∃ i : Nat, i ≤ M ∧ iv = .int .i64 i ∧ wr.ownsRow w.heap.size 5 1 v i (bytesV (tab m i)) ∧ Below w.heap.size w wr
def ToAt (W x : List UInt8) (P : List Nat) (g cap : Nat) (w : World) (iv : Value) (wr : World) : Prop := ∃ i : Nat, i ≤ P.length ∧ iv = .int .i64 i ∧ Buf wr g cap (putW W (lk P x i)) ∧ Below w.heap.size w wr
def TpAt (a b : List UInt8) (n : Nat) (w : World) (v i : Value) (wr : World) : Prop := ∃ k : Nat, k ≤ n ∧ i = .int .i64 k ∧ wr.ownsRow w.heap.size 3 1 v (dfL a b k).length (intsV (dfL a b k)) ∧ Below w.heap.size w wr
/-- a new row of bytes -/
def Frs (xs : List UInt8) (x : Value) (w w' : World) : Prop := ∃ g cap, x = .slice (some ⟨g, 0, none⟩) xs.length cap ∧ w.heap.size ≤ g ∧ Buf w' g cap xs
/-- a new row of numbers -/
def FrI (z : List Int) (x : Value) (w w' : World) : Prop := w'.ownsRow w.heap.size 3 1 x z.length (intsV z)
theorem own_lower {T : TypeId} {W : World} {m n k : Nat} {v : Value} {xs : List Value} (h : W.ownsRow n T 1 v k xs) (hm : m ≤ n) : W.ownsRow m T 1 v k xs :=
  ⟨h.1, h.2.imp id fun ⟨g, cap, cur, e, hg, r⟩ => ⟨g, cap, cur, e, Nat.le_trans hm hg, r⟩⟩
theorem Frs.rv {xs : List UInt8} {x : Value} {w w' : World} (h : Frs xs x w w') : RowV xs x w' := by
  obtain ⟨g, cap, e, _, hb⟩ := h
  exact ⟨_, _, e, hb.row⟩
theorem Frs.lower {xs : List UInt8} {x : Value} {w v w' : World} (h : Frs xs x v w') (hw : w.heap.size ≤ v.heap.size) : Frs xs x w w' := by
  obtain ⟨g, cap, e, hg, hb⟩ := h
  exact ⟨g, cap, e, Nat.le_trans hw hg, hb⟩
theorem FrI.iv {z : List Int} {x : Value} {w w' : World} (h : FrI z x w w') : IntsV z x w' := owns_ints h rfl
theorem FrI.lower {z : List Int} {x : Value} {w v w' : World} (h : FrI z x v w') (hw : w.heap.size ≤ v.heap.size) : FrI z x w w' := own_lower h hw
def TdTo (W R : List UInt8) (n L : Nat) (z : List Int) (w : World) (e : Ending) (w' : World) : Prop :=
  Below w.heap.size w w' ∧ (((fnd n z R n).length ≠ L ∧ e = .returned (.tuple #[.slice none 0 0, .slice none 0 0, .bool false])) ∨
    ((fnd n z R n).length = L ∧ ∃ l v1 v2, l.map (·.1) = alN n z R n ∧ Adds W n l ∧ e = .returned (.tuple #[v1, v2, .bool true]) ∧ Frs (putW W l) v1 w w' ∧ FrI (dfL (putW W l) W n) v2 w w'))
theorem take_mem {k p : Nat} {z : List Int} (hk : k < z.length) (hp : ci z k = (p : Int)) (q : Nat) : (if q = p then true else decide ((q : Int) ∈ z.take k)) = decide ((q : Int) ∈ z.take (k + 1)) := by
  have e : z.take (k + 1) = z.take k ++ [ci z k] := by
    rw [List.take_add_one, List.getElem?_eq_getElem hk]
    simp [ci, List.getD_eq_getElem?_getD, List.getElem?_eq_getElem hk]
  rw [e, hp]
  by_cases h : q = p
  · subst h
    simp
  · have h2 : ¬ (q : Int) = (p : Int) := by omega
    simp [h, h2]
/-- nothing is added at an erased place alone -/
theorem Reg.nz {W C : List UInt8} {n L : Nat} {z : List Int} {H P : List Nat} (h : Reg W C n L z H) (hP : All n z H P) (x : List UInt8) (ha : Adds W n (lk P x P.length)) (i : Nat) (hi : i < P.length) (h0 : co x i = 0) : ((P.getD i 0 : Nat) : Int) ∈ z := by
  have hc := h.chg hP _ (lk_fst P x) ha
  have hPi : P.getD i 0 ∈ P := by
    rw [List.getD_eq_getElem?_getD, List.getElem?_eq_getElem hi]
    exact List.getElem_mem hi
  rcases (hP.mem _ (hP.lt _ hPi)).1 hPi with h1 | h1
  · exact h1
  · have h2 := (hc.mem _ h1).2.1
    have h3 := putW_in (lk P x P.length) W (by rw [lk_fst]; exact hP.nd) (P.getD i 0, co x i) (List.mem_map.2 ⟨i, List.mem_range.2 hi, rfl⟩) (by rw [h.lw]; exact hP.lt _ hPi)
    rw [h0, UInt8.xor_zero] at h3
    exact absurd h3.symm h2
theorem px_pw (m j : Nat) : ((Gf.pw (Gf.al m).toNat j : Nat) : Int) = ((Gf.px (Gf.al m) j).toNat : Int) := by
  rw [Gf.px_al, Gf.al_nat, Gf.al_nat, Gf.pw_ex]
end Go.Proofs.YtomkkkbdipcjgaaDoor
namespace Go.Proofs.YtomkkkbdipcjgaaDoor
open Go.RowKit
set_option linter.unusedVariables false
set_option linter.unusedSimpArgs false
theorem results_tmp4 {fn : Func} {t u v x : Tmp} (h : fn.results = #[.tmp t, .tmp u, .tmp v, .tmp x]) (tmps : Array Value) (P : Program) (w : World) :
    (results fn tmps).run P w = .ok (.tuple #[tmps.getD t undef, tmps.getD u undef, tmps.getD v undef, tmps.getD x undef]) w := by
  simp [results, h]
def bad_r (k : Nat) : Ending := .returned (.tuple #[.slice none 0 0, .slice none 0 0, .int .i64 0, .int .i64 (k : Int)])
def RxTo (W : List UInt8) (n : Nat) (z : List Int) (w : World) (e : Ending) (w' : World) : Prop :=
  Below w.heap.size w w' ∧ (((∀ v H, ¬ Chg v W n z H) ∧ e = bad_r 17) ∨ ∃ v H x1 x2, Chg v W n z H ∧ e = .returned (.tuple #[x1, x2, .int .i64 (H.length : Int), .int .i64 0]) ∧ RowV v x1 w' ∧ IntsV (dfL v W n) x2 w')
def RxS (W : List UInt8) (n : Nat) (z : List Int) (w : World) (e : Ending) (w' : World) : Prop :=
  Below w.heap.size w w' ∧ (((∀ v H, ¬ Chg v W n z H) ∧ e = bad_r 17) ∨ ∃ v H x1 x2, Chg v W n z H ∧ e = .returned (.tuple #[x1, x2, .int .i64 (H.length : Int), .int .i64 0]) ∧ Frs v x1 w w' ∧ FrI (dfL v W n) x2 w w')
theorem least_of (P : Nat → Prop) (k : Nat) (h : P k) : ∃ L, P L ∧ L ≤ k ∧ ∀ M, P M → L ≤ M := by
  induction k using Nat.strongRecOn with
  | ind k ih =>
    by_cases h2 : ∃ M, M < k ∧ P M
    · obtain ⟨M, h3, h4⟩ := h2
      obtain ⟨L, h5, h6, h7⟩ := ih M h3 h4
      exact ⟨L, h5, by omega, h7⟩
    · exact ⟨k, h, Nat.le_refl _, fun M hM => by
        by_cases h3 : M < k
        · exact absurd ⟨M, h3, hM⟩ h2
        · omega⟩
theorem run_least (s : Nat → UInt8) (n : Nat) : ∃ L c, Gf.Run s n c L ∧ Gf.Least s n L ∧ L ≤ n := by
  obtain ⟨L, ⟨c, hc⟩, hL, hm⟩ := least_of (fun L => ∃ c, Gf.Run s n c L) n ⟨co [1], rfl, fun i h1 h2 => by omega⟩
  exact ⟨L, c, hc, fun d M h => hm M ⟨d, h⟩, hL⟩
/-- a solution of the equations is a register -/
theorem rf_of {R x : List UInt8} {L : Nat} (hx : x.length = L) (hs : Gf.Sol (Gf.regM (co R) L) (R.length - L) L (co x)) (hl : Gf.Least (co R) R.length L) (hL : L ≤ R.length) : RF R (1 :: x) L := by
  have e : co (1 :: x) = Gf.regC (co x) := funext fun j => by
    unfold Gf.regC
    cases j with
    | zero => rfl
    | succ j => rw [if_neg (by omega), Nat.add_sub_cancel]; simp [co]
  refine ⟨?_, hl, hL, by simp [hx]⟩
  rw [e]
  exact (Gf.sol_run (co R) R.length L (co x)).1 hs
def DxAt (L m : Nat) (w0 : World) (tv : Value) (wr : World) : Prop := ∃ t : Nat, t ≤ L ∧ 2 * t ≤ m + 2 ∧ tv = .int .i64 t ∧ Below w0.heap.size w0 wr
end Go.Proofs.YtomkkkbdipcjgaaDoor
