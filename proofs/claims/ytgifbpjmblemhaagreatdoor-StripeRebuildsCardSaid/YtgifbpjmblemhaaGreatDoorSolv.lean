/- Matrices in memory: a row of rows, each in a block of its own; read, written, turned. Registers as solutions of linear equations, plain; Gauss' loops, part by part. What Gauss' loops hold in memory. The document's way of solving linear equations: a solution just if there is one. The document's registers of a length, and the least length of one. -/
import Derived.Test.YtgifbpjmblemhaaGreatDoorApw
import Derived.Test.YtgifbpjmblemhaaGreatDoorMt
import Derived.Test.YtgifbpjmblemhaaGreatDoorMs
import Derived.Test.YtgifbpjmblemhaaGreatDoorIns
import Derived.Deep.Onto
import Derived.Test.YtgifbpjmblemhaaGreatDoorRr
import Derived.StillTailTactics
namespace Go.Proofs.YtgifbpjmblemhaaGreatDoor
open Go.RowKit
set_option linter.unusedVariables false
set_option linter.unusedSimpArgs false
/-- where a row lies when two have been turned -/
def trn (a k i : Nat) : Nat := if i = a then k else if i = k then a else i
theorem swp_trn (m : Nat → Nat → UInt8) (a k i j : Nat) : Gf.swp m a k i j = m (trn a k i) j := by
  unfold Gf.swp trn
  split
  · rfl
  · split <;> rfl
theorem trn_lt {a k i R : Nat} (ha : a < R) (hk : k < R) (hi : i < R) : trn a k i < R := by
  unfold trn
  split
  · exact hk
  · split
    · exact ha
    · exact hi
theorem trn_trn (a k i : Nat) : trn a k (trn a k i) = i := by
  unfold trn
  by_cases h1 : i = a
  · subst h1
    rw [if_pos rfl]
    by_cases h2 : k = i
    · rw [if_pos h2, h2]
    · rw [if_neg h2, if_pos rfl]
  · rw [if_neg h1]
    by_cases h2 : i = k
    · subst h2
      rw [if_pos rfl, if_pos rfl]
    · rw [if_neg h2, if_neg h1, if_neg h2]
theorem Mat.swap {W : World} {B gO capO N R : Nat} {Gb Gc : Nat → Nat} {m : Nat → Nat → UInt8} (h : Mat W B gO capO N R Gb Gc m) (a k : Nat) (ha : a < R) (hk : k < R) :
    Mat ((W.setCell ⟨gO, a, none⟩ (.slice (some ⟨Gb k, 0, none⟩) N (Gc k))).setCell ⟨gO, k, none⟩ (.slice (some ⟨Gb a, 0, none⟩) N (Gc a))) B gO capO N R (fun i => Gb (trn a k i)) (fun i => Gc (trn a k i)) (Gf.swp m a k) ∧
      Only gO W ((W.setCell ⟨gO, a, none⟩ (.slice (some ⟨Gb k, 0, none⟩) N (Gc k))).setCell ⟨gO, k, none⟩ (.slice (some ⟨Gb a, 0, none⟩) N (Gc a))) := by
  have h1 := World.ownsRow.stored h.outer a (.slice (some ⟨Gb k, 0, none⟩) N (Gc k))
  have h2 := World.ownsRow.stored h1.1 k (.slice (some ⟨Gb a, 0, none⟩) N (Gc a))
  have ho : Only gO W ((W.setCell ⟨gO, a, none⟩ (.slice (some ⟨Gb k, 0, none⟩) N (Gc k))).setCell ⟨gO, k, none⟩ (.slice (some ⟨Gb a, 0, none⟩) N (Gc a))) := Only.trans h1.2 h2.2
  refine ⟨⟨?_, fun i hi => ?_, fun i j hi hj e => ?_⟩, ho⟩
  · have e : (((List.range R).map fun i => (.slice (some ⟨Gb i, 0, none⟩) N (Gc i) : Value)).set a (.slice (some ⟨Gb k, 0, none⟩) N (Gc k))).set k (.slice (some ⟨Gb a, 0, none⟩) N (Gc a)) = (List.range R).map fun i => (.slice (some ⟨Gb (trn a k i), 0, none⟩) N (Gc (trn a k i)) : Value) := by
      refine List.ext_getElem (by simp) fun i hi1 hi2 => ?_
      simp only [List.getElem_set, List.getElem_map, List.getElem_range]
      unfold trn
      by_cases e1 : k = i
      · subst e1
        rw [if_pos rfl]
        by_cases e2 : k = a
        · subst e2
          rw [if_pos rfl]
        · rw [if_neg e2, if_pos rfl]
      · rw [if_neg e1]
        by_cases e2 : a = i
        · subst e2
          rw [if_pos rfl, if_pos rfl]
        · rw [if_neg e2, if_neg (fun h => e2 h.symm), if_neg (fun h => e1 h.symm)]
    rw [← e]
    exact h2.1
  · have e : tab (Gf.swp m a k i) N = tab (m (trn a k i)) N := by
      congr 1
      funext j
      exact swp_trn m a k i j
    rw [e]
    have hr := h.row (trn a k i) (trn_lt ha hk hi)
    exact ⟨World.ownsRow.kept hr.1 ho (.inr fun e3 => h.ne _ (trn_lt ha hk hi) (Option.some.inj (show some (Gb (trn a k i)) = some gO from e3)).symm), hr.2⟩
  · have := h.apart _ _ (trn_lt ha hk hi) (trn_lt ha hk hj) e
    have h3 := congrArg (trn a k) this
    rwa [trn_trn, trn_trn] at h3
end Go.Proofs.YtgifbpjmblemhaaGreatDoor
namespace Go.Proofs.YtgifbpjmblemhaaGreatDoor
set_option linter.unusedVariables false
namespace Gf
/-- the equations of a register of length L for the numbers s -/
def regM (s : Nat → UInt8) (L : Nat) (i j : Nat) : UInt8 := if j < L then s (L + i - (j + 1)) else s (L + i)
/-- a register of a solution -/
def regC (x : Nat → UInt8) (j : Nat) : UInt8 := if j = 0 then 1 else x (j - 1)
theorem dis_regC (s x : Nat → UInt8) (L i : Nat) : dis s (regC x) L i = s i ^^^ sm (fun j => gm (x j) (s (i - (j + 1)))) L := by
  unfold dis
  rw [sm_left]
  congr 1
  exact one_gm _
theorem sol_run (s : Nat → UInt8) (n L : Nat) (x : Nat → UInt8) : Sol (regM s L) (n - L) L x ↔ Run s n (regC x) L := by
  have e : ∀ i, sm (fun j => gm (regM s L i j) (x j)) L = sm (fun j => gm (x j) (s (L + i - (j + 1)))) L := fun i => sm_congr fun j hj => by
    unfold regM
    rw [if_pos hj, gm_comm]
  have e2 : ∀ i, regM s L i L = s (L + i) := fun i => by
    unfold regM
    rw [if_neg (by omega)]
  constructor
  · intro h
    refine ⟨rfl, fun i h1 h2 => ?_⟩
    have h3 := h (i - L) (by omega)
    rw [e, e2, show L + (i - L) = i by omega] at h3
    rw [dis_regC, h3, UInt8.xor_self]
  · intro h i hi
    have h3 := h.run (L + i) (by omega) (by omega)
    rw [dis_regC] at h3
    rw [e, e2]
    exact (xor_eq_zero _ _ h3).symm
theorem run_sol {s c : Nat → UInt8} {n L : Nat} (h : Run s n c L) : Sol (regM s L) (n - L) L (fun j => c (j + 1)) := by
  refine (sol_run s n L _).2 ⟨rfl, fun i h1 h2 => ?_⟩
  have h3 := h.run i h1 h2
  rw [← h3]
  unfold dis
  refine sm_congr fun j hj => ?_
  unfold regC
  by_cases e : j = 0
  · subst e
    rw [if_pos rfl, h.one]
  · rw [if_neg e]
    show gm (c (j - 1 + 1)) _ = _
    rw [show j - 1 + 1 = j by omega]
/-- row a times a number, up to a column -/
def sclAt (m : Nat → Nat → UInt8) (a : Nat) (y : UInt8) (b : Nat) (i j : Nat) : UInt8 := if i = a ∧ j < b then gm (m a j) y else m i j
theorem sclAt_zero (m : Nat → Nat → UInt8) (a : Nat) (y : UInt8) (i j : Nat) : sclAt m a y 0 i j = m i j := if_neg (by omega)
theorem sclAt_full (m : Nat → Nat → UInt8) (a : Nat) (y : UInt8) (N i j : Nat) (h : j < N) : sclAt m a y N i j = scl m a y i j := by
  unfold sclAt scl
  by_cases e : i = a
  · rw [if_pos ⟨e, h⟩, if_pos e]
  · rw [if_neg (fun h => e h.1), if_neg e]
theorem sclAt_here (m : Nat → Nat → UInt8) (a : Nat) (y : UInt8) (b : Nat) : sclAt m a y b a b = m a b := if_neg (by omega)
theorem sclAt_step (m : Nat → Nat → UInt8) (a : Nat) (y : UInt8) (b i j : Nat) : put2 (sclAt m a y b) a b (gm (m a b) y) i j = sclAt m a y (b + 1) i j := by
  unfold put2 sclAt
  by_cases e : i = a ∧ j = b
  · rw [if_pos e, if_pos ⟨e.1, by omega⟩, e.2]
  · rw [if_neg e]
    by_cases e2 : i = a ∧ j < b
    · rw [if_pos e2, if_pos ⟨e2.1, by omega⟩]
    · rw [if_neg e2, if_neg (fun h => by
        rcases Nat.lt_or_ge j b with h1 | h1
        · exact e2 ⟨h.1, h1⟩
        · exact e ⟨h.1, by omega⟩)]
/-- row i and row a times a number, up to a column -/
def addAt (m : Nat → Nat → UInt8) (a r : Nat) (f : UInt8) (b : Nat) (i j : Nat) : UInt8 := if i = r ∧ j < b then m r j ^^^ gm f (m a j) else m i j
theorem addAt_zero (m : Nat → Nat → UInt8) (a r : Nat) (f : UInt8) (i j : Nat) : addAt m a r f 0 i j = m i j := if_neg (by omega)
theorem addAt_here (m : Nat → Nat → UInt8) (a r : Nat) (f : UInt8) (b : Nat) : addAt m a r f b r b = m r b := if_neg (by omega)
theorem addAt_other (m : Nat → Nat → UInt8) (a r : Nat) (f : UInt8) (b j : Nat) (h : a ≠ r) : addAt m a r f b a j = m a j := if_neg fun e => h e.1
theorem addAt_step (m : Nat → Nat → UInt8) (a r : Nat) (f : UInt8) (b i j : Nat) : put2 (addAt m a r f b) r b (m r b ^^^ gm f (m a b)) i j = addAt m a r f (b + 1) i j := by
  unfold put2 addAt
  by_cases e : i = r ∧ j = b
  · rw [if_pos e, if_pos ⟨e.1, by omega⟩, e.2]
  · rw [if_neg e]
    by_cases e2 : i = r ∧ j < b
    · rw [if_pos e2, if_pos ⟨e2.1, by omega⟩]
    · rw [if_neg e2, if_neg (fun h => by
        rcases Nat.lt_or_ge j b with h1 | h1
        · exact e2 ⟨h.1, h1⟩
        · exact e ⟨h.1, by omega⟩)]
theorem clr_zero (m : Nat → Nat → UInt8) (a c i j : Nat) : clr m a c 0 i j = m i j := if_pos (.inr (Nat.zero_le _))
theorem clr_here (m : Nat → Nat → UInt8) (a c i j : Nat) : clr m a c i i j = m i j := if_pos (.inr (Nat.le_refl _))
theorem clr_lead (m : Nat → Nat → UInt8) (a c r j : Nat) : clr m a c r a j = m a j := if_pos (.inl rfl)
/-- nothing is to be done in this row -/
theorem clr_skip (m : Nat → Nat → UInt8) (a c r i j : Nat) (h : r = a ∨ m r c = 0) : clr m a c (r + 1) i j = clr m a c r i j := by
  unfold clr
  by_cases e : i = a
  · rw [if_pos (.inl e), if_pos (.inl e)]
  · by_cases e2 : r + 1 ≤ i
    · rw [if_pos (.inr e2), if_pos (.inr (by omega))]
    · rw [if_neg (by omega)]
      by_cases e3 : r ≤ i
      · rw [if_pos (.inr e3)]
        obtain rfl : i = r := by omega
        rcases h with h | h
        · exact absurd h e
        · rw [h, zero_gm, UInt8.xor_zero]
      · rw [if_neg (by omega)]
/-- a row is done -/
theorem clr_row (m : Nat → Nat → UInt8) (a c r N i j : Nat) (h : r ≠ a) (hj : j < N) : addAt (clr m a c r) a r (m r c) N i j = clr m a c (r + 1) i j := by
  unfold addAt
  by_cases e : i = r
  · subst e
    rw [if_pos ⟨rfl, hj⟩, clr_here, clr_lead]
    unfold clr
    rw [if_neg (by omega)]
  · rw [if_neg (fun h => e h.1)]
    unfold clr
    by_cases e2 : i = a ∨ r ≤ i
    · rw [if_pos e2, if_pos (by omega)]
    · rw [if_neg e2, if_neg (by omega)]
end Gf
end Go.Proofs.YtgifbpjmblemhaaGreatDoor
namespace Go.Proofs.YtgifbpjmblemhaaGreatDoor
open Go.RowKit
set_option linter.unusedVariables false
set_option linter.unusedSimpArgs false
theorem info_row : (Tryz.prog.info? 24).map (fun i => (i.zero, i.size, i.bytes)) = some (some (.slice none 0 0), 1, 24) := by kernel_rfl
theorem own_bufM {w : World} {base n : Nat} {v : Value} {z : List UInt8} (h : w.ownsRow base 5 1 v n (bytesV z)) (h0 : 0 < n) (hn : n = z.length) : ∃ g cap, v = .slice (some ⟨g, 0, none⟩) z.length cap ∧ base ≤ g ∧ Buf w g cap z := by
  subst hn
  rcases h.2 with ⟨_, h1⟩ | ⟨g, cap, cur, rfl, hg, _⟩
  · omega
  · exact ⟨g, cap, rfl, hg, World.ownsRow.mono h (Nat.zero_le _)⟩
/-- rows that are only read -/
structure RIn (W : World) (gI N R : Nat) (m : Nat → Nat → UInt8) : Prop where
  lt : gI < W.heap.size
  row : ∀ i, i < R → ∃ o c, W.cell? ⟨gI, i, none⟩ = some (.slice o N c) ∧ RowIs W o (bytesV (tab (m i) N)) c
theorem RIn.later {W W' : World} {gI N R : Nat} {m : Nat → Nat → UInt8} (h : RIn W gI N R m) (hb : Below W.heap.size W W') : RIn W' gI N R m :=
  ⟨Nat.lt_of_lt_of_le h.lt hb.size, fun i hi => by
    obtain ⟨o, c, h1, h2⟩ := h.row i hi
    exact ⟨o, c, (hb.cell (p := ⟨gI, i, none⟩) h.lt).trans h1, h2.later hb⟩⟩
theorem append_hdr {ops : Array Oper} {rest : List Oper} {o : Oper} {a : Act} {Q : Exit → Act → World → Prop} {w : World} (hgd : o.guard = none) (s x : Operand)
    (ho : o.op = .call { callee := .builtin .append, args := #[s, x], argTypes := #[22, 22] })
    (base : Nat) (v : Value) (n : Nat) (z : List Value) (hs : a.eval s = v) (hown : w.ownsRow base 24 1 v n z)
    (g : Nat) (p : Option Addr) (l c : Nat) (hx : a.eval x = .slice (some ⟨g, 0, none⟩) 1 1) (hg : w.cell? ⟨g, 0, none⟩ = some (.slice p l c)) (hl : n ≤ 1000000) (hbase : base ≤ w.heap.size)
    (h : ∀ v' w', w'.ownsRow base 24 1 v' (n + 1) (z ++ [.slice p l c]) → w.grownBy w' v.ownBlock → wpList Tryz.prog ops Q rest (a.put o.dst v') w') : wpList Tryz.prog ops Q (o :: rest) a w := by
  obtain ⟨i0, hi, hz0, hz1, hz2⟩ := info_parts info_row
  refine wpList_append_own_wide w hgd s x 22 ho base 24 i0 (.slice none 0 0) 1 24 Tryz.underlying22 hi hz0 hz1 hz2 rfl (by decide) v n z hs hown ⟨g, 0, none⟩ 1 1 [.slice p l c] hx (by simp) (fun j u hj => ?_) (fun u hu => ?_) (by unfold maxLen; omega) (by omega) hbase ?_
  · have h1 := (List.getElem?_eq_some_iff.1 hj).1
    simp at h1
    subst h1
    simp at hj
    subst hj
    exact hg
  · simp at hu
    subst hu
    rfl
  · intro v' w' h1 h2 _
    exact h v' w' h1 h2
/-- the rows that have been copied so far -/
def Cpy (W : World) (B N k : Nat) (v : Value) (m : Nat → Nat → UInt8) : Prop := ∃ gO capO Gb Gc, v = .slice (some ⟨gO, 0, none⟩) k capO ∧ Mat W B gO capO N k Gb Gc m
theorem Cpy.later {W W' : World} {B N k : Nat} {v : Value} {m : Nat → Nat → UInt8} (h : Cpy W B N k v m) (hb : Below W.heap.size W W') : Cpy W' B N k v m := by
  obtain ⟨gO, capO, Gb, Gc, e, h⟩ := h
  exact ⟨gO, capO, Gb, Gc, e, h.later hb⟩
theorem Cpy.start (W : World) (B N : Nat) (m : Nat → Nat → UInt8) (hB : B ≤ W.heap.size) : Cpy (W.alloc (.cells #[] 24)) B N 0 (.slice (some ⟨W.heap.size, 0, none⟩) 0 0) m :=
  ⟨W.heap.size, 0, fun _ => 0, fun _ => 0, rfl, World.ownsRow_lit W #[] 0 hB (Nat.zero_le _) rfl, fun i hi => absurd hi (by omega), fun i j hi => absurd hi (by omega)⟩
/-- a row more: row k in a new block g, behind the append of its header -/
theorem Cpy.add {W W' : World} {B N k gO capO : Nat} {Gb Gc : Nat → Nat} {v' : Value} {m : Nat → Nat → UInt8} (h : Mat W B gO capO N k Gb Gc m) (g cap : Nat) (hg : B ≤ g) (hrow : Buf W g cap (tab (m k) N)) (hn : ∀ i, i < k → Gb i ≠ g)
    (h1 : W'.ownsRow B 24 1 v' (k + 1) (((List.range k).map fun i => (.slice (some ⟨Gb i, 0, none⟩) N (Gc i) : Value)) ++ [.slice (some ⟨g, 0, none⟩) N cap])) (hgr : W.grownBy W' (some gO)) : Cpy W' B N (k + 1) v' m := by
  have e : ((List.range k).map fun i => (.slice (some ⟨Gb i, 0, none⟩) N (Gc i) : Value)) ++ [.slice (some ⟨g, 0, none⟩) N cap] = (List.range (k + 1)).map fun i => (.slice (some ⟨if i = k then g else Gb i, 0, none⟩) N (if i = k then cap else Gc i) : Value) := by
    rw [List.range_succ, List.map_append, List.map_cons, List.map_nil, if_pos rfl, if_pos rfl]
    congr 1
    refine List.map_congr_left fun i hi => ?_
    have hi := List.mem_range.1 hi
    rw [if_neg (by omega), if_neg (by omega)]
  rw [e] at h1
  obtain ⟨cur, hcur⟩ := h.outCells
  have hne : ∀ g' cap' ys, Buf W g' cap' ys → gO ≠ g' := fun g' cap' ys hb e => by
    obtain ⟨cur2, h2⟩ := hb.cells
    rw [← e, hcur] at h2
    cases h2
  have hkeep : ∀ g' cap' ys, Buf W g' cap' ys → Buf W' g' cap' ys := fun g' cap' ys hb => World.ownsRow.kept hb hgr (.inr fun e => hne g' cap' ys hb (Option.some.inj (show some g' = some gO from e)).symm)
  rcases h1.2 with ⟨h2, h3⟩ | ⟨gO', cap', cur', rfl, _⟩
  · omega
  refine ⟨gO', cap', fun i => if i = k then g else Gb i, fun i => if i = k then cap else Gc i, rfl, h1, fun i hi => ?_, fun i j hi hj e => ?_⟩
  · by_cases e : i = k
    · subst e
      simp only [if_pos]
      exact ⟨hkeep _ _ _ hrow, hg⟩
    · simp only [if_neg e]
      have := h.row i (by omega)
      exact ⟨hkeep _ _ _ this.1, this.2⟩
  · by_cases e1 : i = k
    · by_cases e2 : j = k
      · omega
      · simp only [if_pos e1, if_neg e2] at e
        exact absurd e.symm (hn j (by omega))
    · by_cases e2 : j = k
      · simp only [if_neg e1, if_pos e2] at e
        exact absurd e (hn i (by omega))
      · simp only [if_neg e1, if_neg e2] at e
        exact h.apart i j (by omega) (by omega) e
/-- the rows, and the leading columns -/
structure SoS (W : World) (B gO capO N R : Nat) (Gb Gc : Nat → Nat) (m : Nat → Nat → UInt8) (v : Value) (lead : List Nat) : Prop where
  mat : Mat W B gO capO N R Gb Gc m
  hl : W.ownsRow B 3 1 v lead.length (intsV (lead.map fun c : Nat => (c : Int)))
theorem own_kindI {W : World} {B : Nat} {v : Value} {n : Nat} {xs : List Value} (h : W.ownsRow B 3 1 v n xs) (g : Nat) (e : TypeId) (he : e ≠ 3) (hg : ∃ cur, W.heap[g]? = some (.cells cur e (0, 0))) : v.ownBlock ≠ some g := fun h0 => by
  obtain ⟨cur, hg⟩ := hg
  rcases h.2 with ⟨rfl, _⟩ | ⟨g', cap, cur', rfl, _, h2, _⟩
  · cases h0
  · have : g' = g := Option.some.inj (show some g' = some g from h0)
    rw [this, hg] at h2
    cases h2
    exact he rfl
theorem SoS.later {W W' : World} {B gO capO N R : Nat} {Gb Gc : Nat → Nat} {m : Nat → Nat → UInt8} {v : Value} {lead : List Nat} (h : SoS W B gO capO N R Gb Gc m v lead) (hb : Below W.heap.size W W') : SoS W' B gO capO N R Gb Gc m v lead :=
  ⟨h.mat.later hb, World.ownsRow.kept (row := none) h.hl ⟨hb.os, hb.tape, hb.output, hb.size, fun i hi _ => hb.block i hi⟩ (by
    rcases h.hl.2 with ⟨e, _⟩ | ⟨g, cap, cur, e, _⟩
    · exact .inl (by rw [e]; rfl)
    · exact .inr (by rw [e]; simp [Value.ownBlock]))⟩
theorem SoS.congr {W : World} {B gO capO N R : Nat} {Gb Gc : Nat → Nat} {m m' : Nat → Nat → UInt8} {v : Value} {lead : List Nat} (h : SoS W B gO capO N R Gb Gc m v lead) (he : ∀ i j, i < R → j < N → m i j = m' i j) : SoS W B gO capO N R Gb Gc m' v lead := ⟨h.mat.congr he, h.hl⟩
theorem SoS.store {W : World} {B gO capO N R : Nat} {Gb Gc : Nat → Nat} {m : Nat → Nat → UInt8} {v : Value} {lead : List Nat} (h : SoS W B gO capO N R Gb Gc m v lead) (i j : Nat) (hi : i < R) (hj : j < N) (x : UInt8) :
    SoS (W.setCell ⟨Gb i, j, none⟩ (.int .u8 (x.toNat : Int))) B gO capO N R Gb Gc (put2 m i j x) v lead ∧ Below B W (W.setCell ⟨Gb i, j, none⟩ (.int .u8 (x.toNat : Int))) := by
  have hs := h.mat.store i j hi hj x
  have hr := h.mat.row i hi
  exact ⟨⟨hs.1, World.ownsRow.kept h.hl hs.2 (.inr (own_kindI h.hl _ 5 (by decide) hr.1.cells))⟩, hs.2.below hr.2 (Nat.le_trans h.mat.lt.1 (Nat.le_of_lt h.mat.lt.2))⟩
theorem SoS.swap {W : World} {B gO capO N R : Nat} {Gb Gc : Nat → Nat} {m : Nat → Nat → UInt8} {v : Value} {lead : List Nat} (h : SoS W B gO capO N R Gb Gc m v lead) (a k : Nat) (ha : a < R) (hk : k < R) :
    SoS ((W.setCell ⟨gO, a, none⟩ (.slice (some ⟨Gb k, 0, none⟩) N (Gc k))).setCell ⟨gO, k, none⟩ (.slice (some ⟨Gb a, 0, none⟩) N (Gc a))) B gO capO N R (fun i => Gb (trn a k i)) (fun i => Gc (trn a k i)) (Gf.swp m a k) v lead ∧
      Below B W ((W.setCell ⟨gO, a, none⟩ (.slice (some ⟨Gb k, 0, none⟩) N (Gc k))).setCell ⟨gO, k, none⟩ (.slice (some ⟨Gb a, 0, none⟩) N (Gc a))) := by
  have hs := h.mat.swap a k ha hk
  exact ⟨⟨hs.1, World.ownsRow.kept h.hl hs.2 (.inr (own_kindI h.hl _ 24 (by decide) h.mat.outCells))⟩, hs.2.below h.mat.lt.1 (Nat.le_trans h.mat.lt.1 (Nat.le_of_lt h.mat.lt.2))⟩
theorem SoS.push {W W' : World} {B gO capO N R : Nat} {Gb Gc : Nat → Nat} {m : Nat → Nat → UInt8} {v v' : Value} {lead : List Nat} (h : SoS W B gO capO N R Gb Gc m v lead) (c : Nat) (hown : W'.ownsRow B 3 1 v' (lead.length + 1) (intsV ((lead.map fun c : Nat => (c : Int)) ++ [(c : Int)]))) (hgr : W.grownBy W' v.ownBlock) :
    SoS W' B gO capO N R Gb Gc m v' (lead ++ [c]) := by
  have hk : ∀ g e, e ≠ 3 → (∃ cur, W.heap[g]? = some (.cells cur e (0, 0))) → v.ownBlock ≠ some g := fun g e he hg => own_kindI h.hl g e he hg
  refine ⟨⟨World.ownsRow.kept h.mat.outer hgr (.inr fun e => hk gO 24 (by decide) h.mat.outCells e.symm), fun i hi => ⟨World.ownsRow.kept (h.mat.row i hi).1 hgr (.inr fun e => hk (Gb i) 5 (by decide) (h.mat.row i hi).1.cells e.symm), (h.mat.row i hi).2⟩, h.mat.apart⟩, ?_⟩
  rw [List.length_append, List.map_append]
  exact hown
theorem rinv_u8 (a : UInt8) (h : a ≠ 0) : ∃ y : UInt8, Gf.gm a y = 1 ∧ ∀ w, Calls Tryz.prog 50 #[.int .u8 (a.toNat : Int)] w fun e w' => e = .returned (.int .u8 (y.toNat : Int)) ∧ w' = w := by
  have hy : (UInt8.ofNat (Gf.inv a.toNat)).toNat = Gf.inv a.toNat := by
    have := Gf.inv_lt a.toNat
    rw [UInt8.toNat_ofNat']
    omega
  have h0 : a.toNat ≠ 0 := fun e => h (Gf.u8_ext e)
  refine ⟨UInt8.ofNat (Gf.inv a.toNat), Gf.u8_ext (by rw [Gf.gm_nat, hy, Gf.mul_inv _ h0 (UInt8.toNat_lt a)]; rfl), fun w => ?_⟩
  rw [hy]
  have c : ∀ w, Calls Tryz.prog 51 #[.int .u8 (a.toNat : Int), .int .i64 254] w fun e w' => e = .returned (.int .u8 (Gf.inv a.toNat : Nat)) ∧ w = w' := fun w => power_any a.toNat 254 (UInt8.toNat_lt a) (by omega) w
  have C := Lib.hid c
  clear c h0 hy
  have hal := UInt8.toNat_lt a
  go_enter Tryz.func50, Tryz.ntmps50
  go_wp2_with fail
  refine (C.out _).mono ?_; rintro e w' ⟨rfl, rfl⟩
  go_wp2_with fail
  go_ret
  exact ⟨rfl, rfl⟩
end Go.Proofs.YtgifbpjmblemhaaGreatDoor
namespace Go.Proofs.YtgifbpjmblemhaaGreatDoor
open Go.RowKit
set_option linter.unusedVariables false
set_option linter.unusedSimpArgs false
def SolTo (mm : Nat → Nat → UInt8) (R n : Nat) (w : World) (e : Ending) (w' : World) : Prop :=
  Below w.heap.size w w' ∧ ((∃ (x : List UInt8) (v : Value), x.length = n ∧ Gf.Sol mm R n (co x) ∧ e = .returned (.tuple #[v, .bool true]) ∧ RowV x v w') ∨ ((∀ x, ¬ Gf.Sol mm R n x) ∧ e = .returned (.tuple #[.slice none 0 0, .bool false])))
def L1At (mm : Nat → Nat → UInt8) (R N : Nat) (w : World) (v i : Value) (wr : World) : Prop :=
  ∃ k : Nat, k ≤ R ∧ i = .int .i64 k ∧ Cpy wr w.heap.size N k v mm ∧ Below w.heap.size w wr
def L2At (mm : Nat → Nat → UInt8) (R n N gO capO : Nat) (w : World) (v at_ c : Value) (wr : World) : Prop :=
  ∃ (lead : List Nat) (m : Nat → Nat → UInt8) (Gb Gc : Nat → Nat) (cc : Nat), cc ≤ n ∧ c = .int .i64 cc ∧ at_ = .int .i64 lead.length ∧ Gf.El mm R n m lead cc ∧ SoS wr w.heap.size gO capO N R Gb Gc m v lead ∧ Below w.heap.size w wr
/-- so far along a row, or along the rows -/
def LcAt (f : Nat → Nat → Nat → UInt8) (N : Nat) (S : (Nat → Nat → UInt8) → World → Prop) (i : Value) (wr : World) : Prop := ∃ b : Nat, b ≤ N ∧ i = .int .i64 b ∧ S (f b) wr
def L7At (m : Nat → Nat → UInt8) (R a n : Nat) (w : World) (kv : Value) (wr : World) : Prop :=
  ∃ k : Nat, a ≤ k ∧ k ≤ R ∧ kv = .int .i64 k ∧ (∀ i, a ≤ i → i < k → m i n = 0) ∧ Kit.Dn w wr
/-- a solution, so far: the right sides stand at the leading columns -/
structure XoAt (m : Nat → Nat → UInt8) (n : Nat) (lead : List Nat) (w : World) (t : Nat) (xs : List UInt8) (wr : World) : Prop where
  len : xs.length = n
  at_ : ∀ t', t' < t → co xs (lead.getD t' 0) = m t' n
  none_ : ∀ j, (∀ t', t' < t → lead.getD t' 0 ≠ j) → co xs j = 0
  buf : Buf wr w.heap.size n xs
  below : Below w.heap.size w wr
theorem XoAt.step {mm m : Nat → Nat → UInt8} {R n cc : Nat} {lead : List Nat} {w wr : World} {t : Nat} {xs : List UInt8} (h : XoAt m n lead w t xs wr) (hel : Gf.El mm R n m lead cc) (ht : t < lead.length) (hc : lead.getD t 0 < n) :
    XoAt m n lead w (t + 1) (xs.set (lead.getD t 0) (m t n)) (wr.setCell ⟨w.heap.size, lead.getD t 0, none⟩ (.int .u8 ((m t n).toNat : Int))) := by
  have hs := h.buf.store (lead.getD t 0) (m t n)
  have hd : ∀ t', t' < t → lead.getD t' 0 ≠ lead.getD t 0 := fun t' ht' e => by
    have h1 := hel.one t ht
    have h2 := hel.else_ t' (by omega) t (by have := hel.le; omega) (by omega)
    rw [e, h1] at h2
    exact absurd h2 (by decide)
  refine ⟨by rw [List.length_set, h.len], fun t' ht' => ?_, fun j hj => ?_, hs.1, h.below.trans (Only.below hs.2 (Nat.le_refl _) h.below.size)⟩
  · rw [co_set]
    by_cases e : t' = t
    · subst e
      rw [if_pos ⟨rfl, by rw [h.len]; exact hc⟩]
    · rw [if_neg (fun e2 => hd t' (by omega) e2.1.symm)]
      exact h.at_ t' (by omega)
  · rw [co_set, if_neg (fun e2 => hj t (by omega) e2.1)]
    exact h.none_ j fun t' ht' => hj t' (by omega)
def XtAt (m : Nat → Nat → UInt8) (n : Nat) (lead : List Nat) (w : World) (iv : Value) (wr : World) : Prop := ∃ (t : Nat) (xs : List UInt8), t ≤ lead.length ∧ iv = .int .i64 t ∧ XoAt m n lead w t xs wr
def L3At (m : Nat → Nat → UInt8) (R a cc : Nat) (w : World) (kv : Value) (wr : World) : Prop :=
  ∃ k : Nat, a ≤ k ∧ k ≤ R ∧ kv = .int .i64 k ∧ (∀ i, a ≤ i → i < k → m i cc = 0) ∧ Kit.Dn w wr
set_option maxRecDepth 100000 in
set_option maxHeartbeats 20000000 in
theorem solve_of (mm : Nat → Nat → UInt8) (R n N gI cI : Nat) (w : World) (hN : N = n + 1) (hI : RIn w gI N R mm) (hn : n ≤ 1000) (hR : R ≤ 1000) (hc1 : R ≤ cI) (hc2 : cI ≤ 9223372036854775807) :
    Calls Tryz.prog 48 #[.slice (some ⟨gI, 0, none⟩) R cI, .int .i64 n] w (SolTo mm R n w) := by
  have HI := Lib.hid hI
  have HN := Lib.hid hN
  have hnN : n < N := by omega
  have hN0 : 0 < N := by omega
  have hN1 : N ≤ 1001 := by omega
  have HC0 := Lib.hid (Cpy.start w w.heap.size N mm (Nat.le_refl _))
  have HB0 : Hid (Below w.heap.size w (w.alloc (.cells #[] 24))) := Lib.hid ((Below.refl _ _).alloc (Nat.le_refl _) _)
  clear hI hN
  go_enter Tryz.func48, Tryz.ntmps48
  go_wp2_with fail
  go_loopw [6, 8, 25] (fun v _ i wr => L1At mm R N w v i wr) (fun _ _ i _ => R - (intOf i).toNat)
  case atStart => exact ⟨0, Nat.zero_le _, rfl, HC0.out, HB0.out⟩
  case round =>
    clear HC0 HB0
    obtain ⟨k, hk, rfl, ⟨gO, capO, Gb, Gc, rfl, hmat⟩, hb⟩ := hrel
    have HM := Lib.hid hmat
    have HB := Lib.hid hb
    have hcO := hmat.cap
    unfold maxLen at hcO
    have hcO1 := hcO.1
    have hcO2 := hcO.2
    clear hmat hb hcO
    by_cases hlt : k < R
    · obtain ⟨ok, ck, hcell, hrow⟩ := (HI.out.later HB.out).row k hlt
      have hck := hrow.cap
      unfold maxLen at hck
      have HPE : Hid (RowIs (wr.alloc (.cells #[] 5)) ok (bytesV (tab (mm k) N)) ck) := Lib.hid (hrow.later ((Below.refl _ _).alloc (Nat.le_refl _) _))
      have HOWN : Hid ((wr.alloc (.cells #[] 5)).ownsRow wr.heap.size 5 1 (.slice (some ⟨wr.heap.size, 0, none⟩) 0 0) 0 (bytesV [])) := Lib.hid (World.ownsRow_lit wr #[] 0 (Nat.le_refl _) (Nat.zero_le _) rfl)
      have HBE : Hid (Below wr.heap.size wr (wr.alloc (.cells #[] 5))) := Lib.hid ((Below.refl _ _).alloc (Nat.le_refl _) _)
      have hk0 : (0 : Int) ≤ (k : Int) := by omega
      have hk1 : (k : Int) < (R : Int) := by omega
      clear hrow
      go_wp2_with (at_builtin; refine append_row rfl (.tmp 30) (.tmp 31) rfl wr.heap.size _ 0 [] rfl HOWN.out ok N ck (tab (mm k) N) rfl (by simp) HPE.out (by omega) HBE.out.size ?_)
      intro v2 w2 hv hgr
      have hb2 := own_below (n := 0) HBE.out HOWN.out hgr
      have hv' : w2.ownsRow wr.heap.size 5 1 v2 N (bytesV (tab (mm k) N)) := by simpa using hv
      obtain ⟨g, cap, e2, hg, hbuf⟩ := own_bufM hv' (by omega) (by simp)
      rw [tab_length] at e2
      subst e2
      have hcap := hbuf.le
      unfold maxLen at hcap
      have hcap2 := hcap.2
      obtain ⟨w3, hw3⟩ : ∃ w3, w2.alloc (.cells #[.slice (some ⟨g, 0, none⟩) N cap] 24) = w3 := ⟨_, rfl⟩
      have hb3 : Below w2.heap.size w2 w3 := by rw [← hw3]; exact (Below.refl _ _).alloc (Nat.le_refl _) _
      have hc3 : w3.cell? ⟨w2.heap.size, 0, none⟩ = some (.slice (some ⟨g, 0, none⟩) N cap) := by
        rw [← hw3]
        exact cell_of_row _ _ 0 _ _ _ (World.alloc_heap_new w2 _)
      have HM3 := Lib.hid ((HM.out.later hb2).later hb3)
      have HBF3 := Lib.hid (hbuf.later hb3)
      have HB3 := Lib.hid (Kit.step (Kit.step HB.out hb2) hb3)
      have HC3 := Lib.hid hc3
      have HW3 := Lib.hid hw3
      have HGN : Hid (∀ i, i < k → Gb i ≠ g) := Lib.hid fun i hi e => by
        have := (HM.out.row i hi).1.lt
        omega
      have HGB : Hid (w.heap.size ≤ g) := Lib.hid (Nat.le_trans HB.out.size hg)
      clear hv hgr hb2 hv' hg hbuf hcap hb3 hc3 hw3 HPE HOWN HBE
      go_wp2_with (at_builtin; rw [HW3.out]; refine append_hdr rfl (.tmp 29) (.tmp 33) rfl w.heap.size _ k _ rfl HM3.out.outer w2.heap.size (some ⟨g, 0, none⟩) N cap rfl HC3.out (by omega) HB3.out.size ?_)
      intro v4 w4 hv hgr
      have HC4 : Hid (Cpy w4 w.heap.size N (k + 1) v4 mm) := Lib.hid (Cpy.add HM3.out g cap HGB.out HBF3.out HGN.out hv hgr)
      have HB4 : Hid (Below w.heap.size w w4) := Lib.hid (HB3.out.grown hgr HB3.out.size fun k e => (World.ownsRow.lt HM3.out.outer k e).1)
      clear hv hgr HM3 HBF3 HB3 HC3 HW3
      go_wp2_with fail
      go_roundw
      case rel => exact ⟨k + 1, by omega, by go_num, HC4.out, HB4.out⟩
      case measure => simp [intOf]; omega
    · obtain rfl : R = k := by omega
      have hb1 : Below wr.heap.size wr (wr.alloc (.cells #[] 3)) := (Below.refl _ _).alloc (Nat.le_refl _) _
      have HS1 : Hid (SoS (wr.alloc (.cells #[] 3)) w.heap.size gO capO N R Gb Gc mm (.slice (some ⟨wr.heap.size, 0, none⟩) 0 0) []) := Lib.hid ⟨HM.out.later hb1, World.ownsRow_lit wr #[] 0 HB.out.size (Nat.zero_le _) rfl⟩
      have HB1 := Lib.hid (Kit.step HB.out hb1)
      clear hb1
      go_wp2_with fail
      go_loopw [9, 10, 11] (fun v at_ c wr => L2At mm R n N gO capO w v at_ c wr) (fun _ _ c _ => n - (intOf c).toNat)
      case atStart => exact ⟨[], mm, Gb, Gc, 0, Nat.zero_le _, rfl, rfl, Gf.El.start mm R n, HS1.out, HB1.out⟩
      case round =>
        rename World => W3
        clear HS1 HB1
        obtain ⟨lead, m, Gb2, Gc2, cc, hcc, rfl, rfl, hel, hso, hb⟩ := hrel
        obtain ⟨a, ha⟩ : ∃ a, lead.length = a := ⟨_, rfl⟩
        have HEL := Lib.hid hel
        have HSO := Lib.hid hso
        have HB2 := Lib.hid hb
        have HA := Lib.hid ha
        have haR : a ≤ R := by rw [← ha]; exact hel.le
        rw [ha]
        clear hel hso hb ha
        by_cases hcn : cc < n
        · have hd1 : decide ((cc : Int) < (n : Int)) = true := decide_eq_true (by omega)
          by_cases har : a < R
          · have hd2 : decide ((a : Int) < (R : Int)) = true := decide_eq_true (by omega)
            go_wp2_with fail
            go_loopw [12] (fun kv wr => L3At m R a cc W3 kv wr) (fun kv _ => R - (intOf kv).toNat)
            case atStart => exact ⟨a, Nat.le_refl _, by omega, rfl, fun i h1 h2 => absurd h2 (by omega), Kit.Dn.refl _⟩
            case round =>
              rename World => W4
              obtain ⟨q, hq1, hq2, rfl, hz, hd⟩ := hrel
              have HZ := Lib.hid hz
              have HD := Lib.hid hd
              have HS4 := Lib.hid (HSO.out.later hd.below)
              have HB4 := Lib.hid (Kit.step HB2.out hd.below)
              clear hz hd
              by_cases hq : q < R
              · have hh := HS4.out.mat.hdr q hq
                have hcl := HS4.out.mat.cell q cc hq (by omega)
                have hcap := (HS4.out.mat.caps q hq).2
                unfold maxLen at hcap
                have hq0 : (0 : Int) ≤ (q : Int) := by omega
                have hqR : (q : Int) < (R : Int) := by omega
                have hqd : decide ((q : Int) < (R : Int)) = true := decide_eq_true hqR
                have hc0 : (0 : Int) ≤ (cc : Int) := by omega
                have hcN : (cc : Int) < (N : Int) := by omega
                by_cases hx : m q cc = 0
                · rw [hx] at hcl
                  go_wp2_with fail
                  go_roundw
                  case rel =>
                    refine ⟨q + 1, by omega, by omega, by go_num, fun i h1 h2 => ?_, HD.out⟩
                    by_cases e : i = q
                    · rw [e]; exact hx
                    · exact HZ.out i h1 (by omega)
                  case measure => simp [intOf]; omega
                · have HX := Lib.hid hx
                  obtain ⟨x, hxe⟩ : ∃ x, m q cc = x := ⟨_, rfl⟩
                  rw [hxe] at hcl
                  have hx0 : ¬ x.toNat = 0 := fun e => hx (by rw [hxe]; exact Gf.u8_ext e)
                  have hxb : ((x.toNat : Int) == 0) = false := beq_false_of_ne (by omega)
                  have hxd : decide ((x.toNat : Int) = 0) = false := decide_eq_false (by omega)
                  have hxl := UInt8.toNat_lt x
                  have HXE := Lib.hid hxe
                  have hqb : ((q : Int) == (R : Int)) = false := beq_false_of_ne (by omega)
                  have hqe : decide ((q : Int) = (R : Int)) = false := decide_eq_false (by omega)
                  clear hx hxe
                  have hha := HS4.out.mat.hdr a har
                  have hfa := HS4.out.mat.hdrFrozen a
                  have hfq := HS4.out.mat.hdrFrozen q
                  have ha0 : (0 : Int) ≤ (a : Int) := by omega
                  have haR1 : (a : Int) < (R : Int) := by omega
                  have HSW := Lib.hid (HS4.out.swap a q har hq)
                  rcases Nat.eq_or_lt_of_le hq1 with e0 | e0
                  · subst e0
                    go_wp2_with fail
                    go_region
                    all_goals
                      obtain ⟨W5, hW5⟩ : ∃ W5, ((W4.setCell ⟨gO, a, none⟩ (.slice (some ⟨Gb2 a, 0, none⟩) N (Gc2 a))).setCell ⟨gO, a, none⟩ (.slice (some ⟨Gb2 a, 0, none⟩) N (Gc2 a))).drew = W5 := ⟨_, rfl⟩
                      have hs5 : SoS W5 w.heap.size gO capO N R (fun i => Gb2 (trn a a i)) (fun i => Gc2 (trn a a i)) (Gf.swp m a a) u9 lead := by rw [← hW5]; exact HSW.out.1.later (dn_drew (Kit.Dn.refl _)).below
                      have hb5 : Below w.heap.size w W5 := by rw [← hW5]; exact (HB4.out.trans HSW.out.2).trans ⟨rfl, rfl, rfl, Nat.le_refl _, fun _ _ => rfl⟩
                      have hsq : Gf.swp m a a a cc = m a cc := by unfold Gf.swp; rw [if_pos rfl]
                      have hm1 : Gf.swp m a a a cc ≠ 0 := by rw [hsq]; exact HX.out
                      have hpv : ∀ y, Gf.gm (Gf.swp m a a a cc) y = 1 → Gf.El mm R n (Gf.clr (Gf.scl (Gf.swp m a a) a y) a cc R) (lead ++ [cc]) (cc + 1) := fun y hy => by
                        have h := HEL.out.pivot (k := a) (by rw [HA.out]; exact Nat.le_refl _) hq (y := y) (by rw [← hsq]; exact hy)
                        rw [HA.out] at h
                        exact h
                      generalize (fun i => Gb2 (trn a a i)) = Gb3 at hs5
                      generalize (fun i => Gc2 (trn a a i)) = Gc3 at hs5
                      generalize Gf.swp m a a = m1 at hs5 hm1 hpv
                      rw [hW5]
                      obtain ⟨y, hy, hinv⟩ := rinv_u8 (m1 a cc) hm1
                      have HINV := Lib.hid hinv
                      have HEL2 := Lib.hid (hpv y hy)
                      have HS5 := Lib.hid hs5
                      have HB5 := Lib.hid hb5
                      have hh5 := hs5.mat.hdr a har
                      have hc5 := hs5.mat.cell a cc har (by omega)
                      have hcap5 := (hs5.mat.caps a har).2
                      unfold maxLen at hcap5
                      have hyl := UInt8.toNat_lt y
                      have hil := UInt8.toNat_lt (m1 a cc)
                      clear hW5 hs5 hb5 hsq hm1 hpv hy hinv hha hfa hfq hh hcl HSW HS4 HB4 HEL HZ HSO
                      go_wp2_with fail
                      refine (HINV.out _).mono ?_; rintro e w' ⟨rfl, rfl⟩
                      go_wp2_with fail
                      clear hh5 hc5 hcap5 HINV
                      go_loopw [14, 96] (fun _ i wr => LcAt (fun b => Gf.sclAt m1 a y b) N (fun f wr => SoS wr w.heap.size gO capO N R Gb3 Gc3 f u9 lead ∧ Below w.heap.size w wr) i wr) (fun _ i _ => N - (intOf i).toNat)
                      case atStart => exact ⟨0, Nat.zero_le _, rfl, HS5.out.congr fun i j _ _ => (Gf.sclAt_zero m1 a y i j).symm, HB5.out⟩
                      case round =>
                        rename World => W6
                        clear HS5 HB5
                        obtain ⟨b, hbN, rfl, hs6, hb6⟩ := hrel
                        replace hs6 : SoS W6 w.heap.size gO capO N R Gb3 Gc3 (Gf.sclAt m1 a y b) u9 lead := hs6
                        have HS6 := Lib.hid hs6
                        have HB6 := Lib.hid hb6
                        have hcap6 := (hs6.mat.caps a har).2
                        unfold maxLen at hcap6
                        by_cases hbl : b < N
                        · have hh6 := hs6.mat.hdr a har
                          have hc6 := hs6.mat.cell a b har hbl
                          have hf6 := hs6.mat.frozen a b har
                          rw [Gf.sclAt_here] at hc6
                          have hst := (hs6.later (dn_drew (Kit.Dn.refl _)).below).store a b har hbl (Gf.gm (m1 a b) y)
                          have HST := Lib.hid (show SoS (W6.drew.setCell ⟨Gb3 a, b, none⟩ (.int .u8 ((Gf.gm (m1 a b) y).toNat : Int))) w.heap.size gO capO N R Gb3 Gc3 (Gf.sclAt m1 a y (b + 1)) u9 lead from hst.1.congr fun i j _ _ => Gf.sclAt_step m1 a y b i j)
                          have HSB := Lib.hid ((show Below w.heap.size w W6.drew from Kit.dn hb6 1).trans hst.2)
                          have MC : Hid (∀ v : World, Calls Tryz.prog 45 #[.int .u8 ((m1 a b).toNat : Int), .int .u8 (y.toNat : Int)] v fun e w' => e = .returned (.int .u8 ((Gf.gm (m1 a b) y).toNat : Int)) ∧ w' = v) := Lib.hid fun v => rmul_u8 (m1 a b) y v
                          generalize Gf.gm (m1 a b) y = s at *
                          generalize m1 a b = p at *
                          have hpl := UInt8.toNat_lt p
                          have hsl := UInt8.toNat_lt s
                          have hb0 : (0 : Int) ≤ (b : Int) := by omega
                          have hb1 : (b : Int) < (N : Int) := by omega
                          clear hs6 hb6 hst
                          have hh6' : World.cell? { W6 with drawn := W6.drawn + 1 } ⟨gO, a, none⟩ = _ := hh6
                          have hc6' : World.cell? { W6 with drawn := W6.drawn + 1 } ⟨Gb3 a, b, none⟩ = _ := hc6
                          have hf6' : World.frozen? W6.drew ⟨Gb3 a, b, none⟩ = _ := hf6
                          have hc6'' : World.cell? W6.drew ⟨Gb3 a, b, none⟩ = _ := hc6
                          go_wp2_with fail
                          go_still_tail 15, (by kernel_rfl)
                          still_call (MC.out _)
                          repeat still_step
                          refine wpStill_nil ?_
                          change wpList _ _ _ _ _ (World.drew _)
                          go_wp2_with fail
                          go_roundw
                          case rel => exact ⟨b + 1, by omega, by go_num, HST.out, HSB.out⟩
                          case measure => simp [intOf]; omega
                        · obtain rfl : b = N := by omega
                          have HS7 : Hid (SoS W6 w.heap.size gO capO b R Gb3 Gc3 (Gf.scl m1 a y) u9 lead) := Lib.hid (hs6.congr fun i j _ hj => Gf.sclAt_full m1 a y b i j hj)
                          generalize Gf.scl m1 a y = m2 at *
                          clear hs6 hb6 HS6
                          go_wp2_with fail
                          go_loopw [15, 16, 117] (fun _ _ i wr => LcAt (fun b => Gf.clr m2 a cc b) R (fun f wr => SoS wr w.heap.size gO capO b R Gb3 Gc3 f u9 lead ∧ Below w.heap.size w wr) i wr) (fun _ _ i _ => R - (intOf i).toNat)
                          case atStart => exact ⟨0, Nat.zero_le _, rfl, HS7.out.congr fun i j _ _ => (Gf.clr_zero m2 a cc i j).symm, HB6.out⟩
                          case round =>
                            rename World => W7
                            clear HS7 HB6
                            obtain ⟨r, hrR, rfl, hs7, hb7⟩ := hrel
                            replace hs7 : SoS W7 w.heap.size gO capO b R Gb3 Gc3 (Gf.clr m2 a cc r) u9 lead := hs7
                            have HS7 := Lib.hid hs7
                            have HB7 := Lib.hid hb7
                            by_cases hrl : r < R
                            · have hh7 := hs7.mat.hdr r hrl
                              have hc7 := hs7.mat.cell r cc hrl (by omega)
                              have hcap7 := (hs7.mat.caps r hrl).2
                              unfold maxLen at hcap7
                              rw [Gf.clr_here] at hc7
                              have hr0 : (0 : Int) ≤ (r : Int) := by omega
                              have hr1 : (r : Int) < (R : Int) := by omega
                              have HSK : Hid (r = a ∨ m2 r cc = 0 → SoS W7 w.heap.size gO capO b R Gb3 Gc3 (Gf.clr m2 a cc (r + 1)) u9 lead) := Lib.hid fun h => hs7.congr fun i j _ _ => (Gf.clr_skip m2 a cc r i j h).symm
                              by_cases hra : r = a
                              · have hrb : ((r : Int) == (a : Int)) = true := by rw [hra]; simp
                                have hrd : decide ((r : Int) = (a : Int)) = true := decide_eq_true (by omega)
                                have HRA := Lib.hid hra
                                have hfl := UInt8.toNat_lt (m2 r cc)
                                clear hs7 hb7 hra
                                go_wp2_with fail
                                go_roundw
                                case rel => exact ⟨r + 1, by omega, by go_num, HSK.out (.inl HRA.out), HB7.out⟩
                                case measure => simp [intOf]; omega
                              · have hrb : ((r : Int) == (a : Int)) = false := beq_false_of_ne (by omega)
                                have hrd : decide ((r : Int) = (a : Int)) = false := decide_eq_false (by omega)
                                have HRA := Lib.hid hra
                                by_cases hf0 : m2 r cc = 0
                                · rw [hf0] at hc7
                                  have HF0 := Lib.hid hf0
                                  clear hs7 hb7 hra hf0
                                  go_wp2_with fail
                                  go_roundw
                                  case rel => exact ⟨r + 1, by omega, by go_num, HSK.out (.inr HF0.out), HB7.out⟩
                                  case measure => simp [intOf]; omega
                                · have HS8 : Hid (SoS W7 w.heap.size gO capO b R Gb3 Gc3 (Gf.addAt (Gf.clr m2 a cc r) a r (m2 r cc) 0) u9 lead) := Lib.hid (hs7.congr fun i j _ _ => (Gf.addAt_zero _ a r _ i j).symm)
                                  have HRW : Hid (∀ i j, j < b → Gf.addAt (Gf.clr m2 a cc r) a r (m2 r cc) b i j = Gf.clr m2 a cc (r + 1) i j) := Lib.hid fun i j hj => Gf.clr_row m2 a cc r b i j hra hj
                                  obtain ⟨f, hfe⟩ : ∃ f, m2 r cc = f := ⟨_, rfl⟩
                                  rw [hfe] at hc7 HS8 HRW
                                  generalize Gf.clr m2 a cc r = m3 at *
                                  have hf00 : ¬ f.toNat = 0 := fun e => hf0 (by rw [hfe]; exact Gf.u8_ext e)
                                  have hfb : ((f.toNat : Int) == 0) = false := beq_false_of_ne (by omega)
                                  have hfd : decide ((f.toNat : Int) = 0) = false := decide_eq_false (by omega)
                                  have hfl := UInt8.toNat_lt f
                                  clear hs7 hb7 hra hf0 hfe HSK
                                  go_wp2_with fail
                                  go_loopw [17, 139] (fun _ i wr => LcAt (fun x => Gf.addAt m3 a r f x) b (fun f wr => SoS wr w.heap.size gO capO b R Gb3 Gc3 f u9 lead ∧ Below w.heap.size w wr) i wr) (fun _ i _ => b - (intOf i).toNat)
                                  case atStart => exact ⟨0, Nat.zero_le _, rfl, HS8.out, HB7.out⟩
                                  case round =>
                                    rename World => W8
                                    clear HS8 HB7
                                    obtain ⟨x8, hxb, rfl, hs8, hb8⟩ := hrel
                                    replace hs8 : SoS W8 w.heap.size gO capO b R Gb3 Gc3 (Gf.addAt m3 a r f x8) u9 lead := hs8
                                    have HS9 := Lib.hid hs8
                                    have HB9 := Lib.hid hb8
                                    by_cases hxl8 : x8 < b
                                    · have hh8 := hs8.mat.hdr r hrl
                                      have hh9 := hs8.mat.hdr a har
                                      have hc8 := hs8.mat.cell r x8 hrl hxl8
                                      have hc9 := hs8.mat.cell a x8 har hxl8
                                      have hf8 := hs8.mat.frozen r x8 hrl
                                      have hcap8 := (hs8.mat.caps r hrl).2
                                      have hcap9 := (hs8.mat.caps a har).2
                                      unfold maxLen at hcap8 hcap9
                                      rw [Gf.addAt_here] at hc8
                                      rw [Gf.addAt_other m3 a r f x8 x8 (fun e => HRA.out e.symm)] at hc9
                                      have hst := (hs8.later (dn_drew (Kit.Dn.refl _)).below).store r x8 hrl hxl8 (m3 r x8 ^^^ Gf.gm f (m3 a x8))
                                      have HST := Lib.hid (show SoS (W8.drew.setCell ⟨Gb3 r, x8, none⟩ (.int .u8 ((m3 r x8 ^^^ Gf.gm f (m3 a x8)).toNat : Int))) w.heap.size gO capO b R Gb3 Gc3 (Gf.addAt m3 a r f (x8 + 1)) u9 lead from hst.1.congr fun i j _ _ => Gf.addAt_step m3 a r f x8 i j)
                                      have HSB := Lib.hid ((show Below w.heap.size w W8.drew from Kit.dn hb8 1).trans hst.2)
                                      have MC : Hid (∀ v : World, Calls Tryz.prog 45 #[.int .u8 (f.toNat : Int), .int .u8 ((m3 a x8).toNat : Int)] v fun e w' => e = .returned (.int .u8 ((Gf.gm f (m3 a x8)).toNat : Int)) ∧ w' = v) := Lib.hid fun v => rmul_u8 f (m3 a x8) v
                                      have hxo := u8c (m3 r x8) (Gf.gm f (m3 a x8))
                                      generalize m3 r x8 ^^^ Gf.gm f (m3 a x8) = s at *
                                      generalize Gf.gm f (m3 a x8) = g8 at *
                                      generalize m3 r x8 = p8 at *
                                      generalize m3 a x8 = q8 at *
                                      have hp8 := UInt8.toNat_lt p8
                                      have hq8 := UInt8.toNat_lt q8
                                      have hg8 := UInt8.toNat_lt g8
                                      have hs9 := UInt8.toNat_lt s
                                      have hx0 : (0 : Int) ≤ (x8 : Int) := by omega
                                      have hx1 : (x8 : Int) < (b : Int) := by omega
                                      have ha0' : (0 : Int) ≤ (a : Int) := by omega
                                      have ha1' : (a : Int) < (R : Int) := by omega
                                      clear hs8 hb8 hst
                                      have hh8' : World.cell? { W8 with drawn := W8.drawn + 1 } ⟨gO, r, none⟩ = _ := hh8
                                      have hh9' : World.cell? { W8 with drawn := W8.drawn + 1 } ⟨gO, a, none⟩ = _ := hh9
                                      have hc8' : World.cell? { W8 with drawn := W8.drawn + 1 } ⟨Gb3 r, x8, none⟩ = _ := hc8
                                      have hc9' : World.cell? { W8 with drawn := W8.drawn + 1 } ⟨Gb3 a, x8, none⟩ = _ := hc9
                                      have hf8' : World.frozen? W8.drew ⟨Gb3 r, x8, none⟩ = _ := hf8
                                      have hc8'' : World.cell? W8.drew ⟨Gb3 r, x8, none⟩ = _ := hc8
                                      go_wp2_with fail
                                      go_still_tail 23, (by kernel_rfl)
                                      still_call (MC.out _)
                                      repeat still_step
                                      refine wpStill_nil ?_
                                      change wpList _ _ _ _ _ (World.drew _)
                                      go_wp2_with fail
                                      go_roundw
                                      case rel => exact ⟨x8 + 1, by omega, by go_num, HST.out, HSB.out⟩
                                      case measure => simp [intOf]; omega
                                    · obtain rfl : x8 = b := by omega
                                      have HSX : Hid (SoS W8 w.heap.size gO capO x8 R Gb3 Gc3 (Gf.clr m2 a cc (r + 1)) u9 lead) := Lib.hid (hs8.congr fun i j _ hj => HRW.out i j hj)
                                      clear hs8 hb8 HS9
                                      go_wp2_with fail
                                      go_roundw
                                      case rel => exact ⟨r + 1, by omega, by go_num, HSX.out, HB9.out⟩
                                      case measure => simp [intOf]; omega
                            · obtain rfl : r = R := by omega
                              clear hs7 hb7
                              have HV8 : Hid ((W7.alloc (.cells #[.int .i64 (cc : Int)] 3)).ownsRow w.heap.size 3 1 u9 lead.length (intsV (lead.map fun c : Nat => (c : Int)))) := Lib.hid (World.ownsRow.alloc HS7.out.hl _)
                              have HB8 : Hid (Below w.heap.size w (W7.alloc (.cells #[.int .i64 (cc : Int)] 3))) := Lib.hid (HB7.out.alloc HB7.out.size _)
                              have HS8 : Hid (SoS (W7.alloc (.cells #[.int .i64 (cc : Int)] 3)) w.heap.size gO capO b r Gb3 Gc3 (Gf.clr m2 a cc r) u9 lead) := Lib.hid (HS7.out.later ((Below.refl _ _).alloc (Nat.le_refl _) _))
                              have HC8 : Hid ((W7.alloc (.cells #[.int .i64 (cc : Int)] 3)).cell? ⟨W7.heap.size, 0, none⟩ = some (.int .i64 (cc : Int))) := Lib.hid (cell_of_row _ _ 0 _ _ _ (World.alloc_heap_new W7 _))
                              go_wp2_with (at_builtin; refine append_int rfl (.tmp 167) (.tmp 169) rfl w.heap.size _ lead.length (lead.map fun c : Nat => (c : Int)) rfl HV8.out W7.heap.size (cc : Int) rfl HC8.out (by have := HA.out; omega) HB8.out.size ?_)
                              intro v9 w9 hv hg
                              have HS9 := Lib.hid (HS8.out.push cc hv hg)
                              have HB9 := Lib.hid (own_belowI HB8.out HV8.out hg)
                              clear hv hg
                              go_wp2_with fail
                              go_roundw
                              case rel => exact ⟨lead ++ [cc], _, Gb3, Gc3, cc + 1, by omega, by go_num, by rw [List.length_append, HA.out]; rfl, HEL2.out, HS9.out, HB9.out⟩
                              case measure => simp [intOf]; omega
                  · have hne1 : ¬ a = q := by omega
                    have hne2 : ¬ q = a := by omega
                    go_wp2_with fail
                    go_region
                    all_goals
                      obtain ⟨W5, hW5⟩ : ∃ W5, ((W4.setCell ⟨gO, a, none⟩ (.slice (some ⟨Gb2 q, 0, none⟩) N (Gc2 q))).setCell ⟨gO, q, none⟩ (.slice (some ⟨Gb2 a, 0, none⟩) N (Gc2 a))).drew = W5 := ⟨_, rfl⟩
                      have hs5 : SoS W5 w.heap.size gO capO N R (fun i => Gb2 (trn a q i)) (fun i => Gc2 (trn a q i)) (Gf.swp m a q) u9 lead := by rw [← hW5]; exact HSW.out.1.later (dn_drew (Kit.Dn.refl _)).below
                      have hb5 : Below w.heap.size w W5 := by rw [← hW5]; exact (HB4.out.trans HSW.out.2).trans ⟨rfl, rfl, rfl, Nat.le_refl _, fun _ _ => rfl⟩
                      have hsq : Gf.swp m a q a cc = m q cc := by unfold Gf.swp; rw [if_pos rfl]
                      have hm1 : Gf.swp m a q a cc ≠ 0 := by rw [hsq]; exact HX.out
                      have hpv : ∀ y, Gf.gm (Gf.swp m a q a cc) y = 1 → Gf.El mm R n (Gf.clr (Gf.scl (Gf.swp m a q) a y) a cc R) (lead ++ [cc]) (cc + 1) := fun y hy => by
                        have h := HEL.out.pivot (k := q) (by rw [HA.out]; exact hq1) hq (y := y) (by rw [← hsq]; exact hy)
                        rw [HA.out] at h
                        exact h
                      generalize (fun i => Gb2 (trn a q i)) = Gb3 at hs5
                      generalize (fun i => Gc2 (trn a q i)) = Gc3 at hs5
                      generalize Gf.swp m a q = m1 at hs5 hm1 hpv
                      rw [hW5]
                      obtain ⟨y, hy, hinv⟩ := rinv_u8 (m1 a cc) hm1
                      have HINV := Lib.hid hinv
                      have HEL2 := Lib.hid (hpv y hy)
                      have HS5 := Lib.hid hs5
                      have HB5 := Lib.hid hb5
                      have hh5 := hs5.mat.hdr a har
                      have hc5 := hs5.mat.cell a cc har (by omega)
                      have hcap5 := (hs5.mat.caps a har).2
                      unfold maxLen at hcap5
                      have hyl := UInt8.toNat_lt y
                      have hil := UInt8.toNat_lt (m1 a cc)
                      clear hW5 hs5 hb5 hsq hm1 hpv hy hinv hha hfa hfq hh hcl HSW HS4 HB4 HEL HZ HSO
                      go_wp2_with fail
                      refine (HINV.out _).mono ?_; rintro e w' ⟨rfl, rfl⟩
                      go_wp2_with fail
                      clear hh5 hc5 hcap5 HINV
                      go_loopw [14, 96] (fun _ i wr => LcAt (fun b => Gf.sclAt m1 a y b) N (fun f wr => SoS wr w.heap.size gO capO N R Gb3 Gc3 f u9 lead ∧ Below w.heap.size w wr) i wr) (fun _ i _ => N - (intOf i).toNat)
                      case atStart => exact ⟨0, Nat.zero_le _, rfl, HS5.out.congr fun i j _ _ => (Gf.sclAt_zero m1 a y i j).symm, HB5.out⟩
                      case round =>
                        rename World => W6
                        clear HS5 HB5
                        obtain ⟨b, hbN, rfl, hs6, hb6⟩ := hrel
                        replace hs6 : SoS W6 w.heap.size gO capO N R Gb3 Gc3 (Gf.sclAt m1 a y b) u9 lead := hs6
                        have HS6 := Lib.hid hs6
                        have HB6 := Lib.hid hb6
                        have hcap6 := (hs6.mat.caps a har).2
                        unfold maxLen at hcap6
                        by_cases hbl : b < N
                        · have hh6 := hs6.mat.hdr a har
                          have hc6 := hs6.mat.cell a b har hbl
                          have hf6 := hs6.mat.frozen a b har
                          rw [Gf.sclAt_here] at hc6
                          have hst := (hs6.later (dn_drew (Kit.Dn.refl _)).below).store a b har hbl (Gf.gm (m1 a b) y)
                          have HST := Lib.hid (show SoS (W6.drew.setCell ⟨Gb3 a, b, none⟩ (.int .u8 ((Gf.gm (m1 a b) y).toNat : Int))) w.heap.size gO capO N R Gb3 Gc3 (Gf.sclAt m1 a y (b + 1)) u9 lead from hst.1.congr fun i j _ _ => Gf.sclAt_step m1 a y b i j)
                          have HSB := Lib.hid ((show Below w.heap.size w W6.drew from Kit.dn hb6 1).trans hst.2)
                          have MC : Hid (∀ v : World, Calls Tryz.prog 45 #[.int .u8 ((m1 a b).toNat : Int), .int .u8 (y.toNat : Int)] v fun e w' => e = .returned (.int .u8 ((Gf.gm (m1 a b) y).toNat : Int)) ∧ w' = v) := Lib.hid fun v => rmul_u8 (m1 a b) y v
                          generalize Gf.gm (m1 a b) y = s at *
                          generalize m1 a b = p at *
                          have hpl := UInt8.toNat_lt p
                          have hsl := UInt8.toNat_lt s
                          have hb0 : (0 : Int) ≤ (b : Int) := by omega
                          have hb1 : (b : Int) < (N : Int) := by omega
                          clear hs6 hb6 hst
                          have hh6' : World.cell? { W6 with drawn := W6.drawn + 1 } ⟨gO, a, none⟩ = _ := hh6
                          have hc6' : World.cell? { W6 with drawn := W6.drawn + 1 } ⟨Gb3 a, b, none⟩ = _ := hc6
                          have hf6' : World.frozen? W6.drew ⟨Gb3 a, b, none⟩ = _ := hf6
                          have hc6'' : World.cell? W6.drew ⟨Gb3 a, b, none⟩ = _ := hc6
                          go_wp2_with fail
                          go_still_tail 15, (by kernel_rfl)
                          still_call (MC.out _)
                          repeat still_step
                          refine wpStill_nil ?_
                          change wpList _ _ _ _ _ (World.drew _)
                          go_wp2_with fail
                          go_roundw
                          case rel => exact ⟨b + 1, by omega, by go_num, HST.out, HSB.out⟩
                          case measure => simp [intOf]; omega
                        · obtain rfl : b = N := by omega
                          have HS7 : Hid (SoS W6 w.heap.size gO capO b R Gb3 Gc3 (Gf.scl m1 a y) u9 lead) := Lib.hid (hs6.congr fun i j _ hj => Gf.sclAt_full m1 a y b i j hj)
                          generalize Gf.scl m1 a y = m2 at *
                          clear hs6 hb6 HS6
                          go_wp2_with fail
                          go_loopw [15, 16, 117] (fun _ _ i wr => LcAt (fun b => Gf.clr m2 a cc b) R (fun f wr => SoS wr w.heap.size gO capO b R Gb3 Gc3 f u9 lead ∧ Below w.heap.size w wr) i wr) (fun _ _ i _ => R - (intOf i).toNat)
                          case atStart => exact ⟨0, Nat.zero_le _, rfl, HS7.out.congr fun i j _ _ => (Gf.clr_zero m2 a cc i j).symm, HB6.out⟩
                          case round =>
                            rename World => W7
                            clear HS7 HB6
                            obtain ⟨r, hrR, rfl, hs7, hb7⟩ := hrel
                            replace hs7 : SoS W7 w.heap.size gO capO b R Gb3 Gc3 (Gf.clr m2 a cc r) u9 lead := hs7
                            have HS7 := Lib.hid hs7
                            have HB7 := Lib.hid hb7
                            by_cases hrl : r < R
                            · have hh7 := hs7.mat.hdr r hrl
                              have hc7 := hs7.mat.cell r cc hrl (by omega)
                              have hcap7 := (hs7.mat.caps r hrl).2
                              unfold maxLen at hcap7
                              rw [Gf.clr_here] at hc7
                              have hr0 : (0 : Int) ≤ (r : Int) := by omega
                              have hr1 : (r : Int) < (R : Int) := by omega
                              have HSK : Hid (r = a ∨ m2 r cc = 0 → SoS W7 w.heap.size gO capO b R Gb3 Gc3 (Gf.clr m2 a cc (r + 1)) u9 lead) := Lib.hid fun h => hs7.congr fun i j _ _ => (Gf.clr_skip m2 a cc r i j h).symm
                              by_cases hra : r = a
                              · have hrb : ((r : Int) == (a : Int)) = true := by rw [hra]; simp
                                have hrd : decide ((r : Int) = (a : Int)) = true := decide_eq_true (by omega)
                                have HRA := Lib.hid hra
                                have hfl := UInt8.toNat_lt (m2 r cc)
                                clear hs7 hb7 hra
                                go_wp2_with fail
                                go_roundw
                                case rel => exact ⟨r + 1, by omega, by go_num, HSK.out (.inl HRA.out), HB7.out⟩
                                case measure => simp [intOf]; omega
                              · have hrb : ((r : Int) == (a : Int)) = false := beq_false_of_ne (by omega)
                                have hrd : decide ((r : Int) = (a : Int)) = false := decide_eq_false (by omega)
                                have HRA := Lib.hid hra
                                by_cases hf0 : m2 r cc = 0
                                · rw [hf0] at hc7
                                  have HF0 := Lib.hid hf0
                                  clear hs7 hb7 hra hf0
                                  go_wp2_with fail
                                  go_roundw
                                  case rel => exact ⟨r + 1, by omega, by go_num, HSK.out (.inr HF0.out), HB7.out⟩
                                  case measure => simp [intOf]; omega
                                · have HS8 : Hid (SoS W7 w.heap.size gO capO b R Gb3 Gc3 (Gf.addAt (Gf.clr m2 a cc r) a r (m2 r cc) 0) u9 lead) := Lib.hid (hs7.congr fun i j _ _ => (Gf.addAt_zero _ a r _ i j).symm)
                                  have HRW : Hid (∀ i j, j < b → Gf.addAt (Gf.clr m2 a cc r) a r (m2 r cc) b i j = Gf.clr m2 a cc (r + 1) i j) := Lib.hid fun i j hj => Gf.clr_row m2 a cc r b i j hra hj
                                  obtain ⟨f, hfe⟩ : ∃ f, m2 r cc = f := ⟨_, rfl⟩
                                  rw [hfe] at hc7 HS8 HRW
                                  generalize Gf.clr m2 a cc r = m3 at *
                                  have hf00 : ¬ f.toNat = 0 := fun e => hf0 (by rw [hfe]; exact Gf.u8_ext e)
                                  have hfb : ((f.toNat : Int) == 0) = false := beq_false_of_ne (by omega)
                                  have hfd : decide ((f.toNat : Int) = 0) = false := decide_eq_false (by omega)
                                  have hfl := UInt8.toNat_lt f
                                  clear hs7 hb7 hra hf0 hfe HSK
                                  go_wp2_with fail
                                  go_loopw [17, 139] (fun _ i wr => LcAt (fun x => Gf.addAt m3 a r f x) b (fun f wr => SoS wr w.heap.size gO capO b R Gb3 Gc3 f u9 lead ∧ Below w.heap.size w wr) i wr) (fun _ i _ => b - (intOf i).toNat)
                                  case atStart => exact ⟨0, Nat.zero_le _, rfl, HS8.out, HB7.out⟩
                                  case round =>
                                    rename World => W8
                                    clear HS8 HB7
                                    obtain ⟨x8, hxb, rfl, hs8, hb8⟩ := hrel
                                    replace hs8 : SoS W8 w.heap.size gO capO b R Gb3 Gc3 (Gf.addAt m3 a r f x8) u9 lead := hs8
                                    have HS9 := Lib.hid hs8
                                    have HB9 := Lib.hid hb8
                                    by_cases hxl8 : x8 < b
                                    · have hh8 := hs8.mat.hdr r hrl
                                      have hh9 := hs8.mat.hdr a har
                                      have hc8 := hs8.mat.cell r x8 hrl hxl8
                                      have hc9 := hs8.mat.cell a x8 har hxl8
                                      have hf8 := hs8.mat.frozen r x8 hrl
                                      have hcap8 := (hs8.mat.caps r hrl).2
                                      have hcap9 := (hs8.mat.caps a har).2
                                      unfold maxLen at hcap8 hcap9
                                      rw [Gf.addAt_here] at hc8
                                      rw [Gf.addAt_other m3 a r f x8 x8 (fun e => HRA.out e.symm)] at hc9
                                      have hst := (hs8.later (dn_drew (Kit.Dn.refl _)).below).store r x8 hrl hxl8 (m3 r x8 ^^^ Gf.gm f (m3 a x8))
                                      have HST := Lib.hid (show SoS (W8.drew.setCell ⟨Gb3 r, x8, none⟩ (.int .u8 ((m3 r x8 ^^^ Gf.gm f (m3 a x8)).toNat : Int))) w.heap.size gO capO b R Gb3 Gc3 (Gf.addAt m3 a r f (x8 + 1)) u9 lead from hst.1.congr fun i j _ _ => Gf.addAt_step m3 a r f x8 i j)
                                      have HSB := Lib.hid ((show Below w.heap.size w W8.drew from Kit.dn hb8 1).trans hst.2)
                                      have MC : Hid (∀ v : World, Calls Tryz.prog 45 #[.int .u8 (f.toNat : Int), .int .u8 ((m3 a x8).toNat : Int)] v fun e w' => e = .returned (.int .u8 ((Gf.gm f (m3 a x8)).toNat : Int)) ∧ w' = v) := Lib.hid fun v => rmul_u8 f (m3 a x8) v
                                      have hxo := u8c (m3 r x8) (Gf.gm f (m3 a x8))
                                      generalize m3 r x8 ^^^ Gf.gm f (m3 a x8) = s at *
                                      generalize Gf.gm f (m3 a x8) = g8 at *
                                      generalize m3 r x8 = p8 at *
                                      generalize m3 a x8 = q8 at *
                                      have hp8 := UInt8.toNat_lt p8
                                      have hq8 := UInt8.toNat_lt q8
                                      have hg8 := UInt8.toNat_lt g8
                                      have hs9 := UInt8.toNat_lt s
                                      have hx0 : (0 : Int) ≤ (x8 : Int) := by omega
                                      have hx1 : (x8 : Int) < (b : Int) := by omega
                                      have ha0' : (0 : Int) ≤ (a : Int) := by omega
                                      have ha1' : (a : Int) < (R : Int) := by omega
                                      clear hs8 hb8 hst
                                      have hh8' : World.cell? { W8 with drawn := W8.drawn + 1 } ⟨gO, r, none⟩ = _ := hh8
                                      have hh9' : World.cell? { W8 with drawn := W8.drawn + 1 } ⟨gO, a, none⟩ = _ := hh9
                                      have hc8' : World.cell? { W8 with drawn := W8.drawn + 1 } ⟨Gb3 r, x8, none⟩ = _ := hc8
                                      have hc9' : World.cell? { W8 with drawn := W8.drawn + 1 } ⟨Gb3 a, x8, none⟩ = _ := hc9
                                      have hf8' : World.frozen? W8.drew ⟨Gb3 r, x8, none⟩ = _ := hf8
                                      have hc8'' : World.cell? W8.drew ⟨Gb3 r, x8, none⟩ = _ := hc8
                                      go_wp2_with fail
                                      go_still_tail 23, (by kernel_rfl)
                                      still_call (MC.out _)
                                      repeat still_step
                                      refine wpStill_nil ?_
                                      change wpList _ _ _ _ _ (World.drew _)
                                      go_wp2_with fail
                                      go_roundw
                                      case rel => exact ⟨x8 + 1, by omega, by go_num, HST.out, HSB.out⟩
                                      case measure => simp [intOf]; omega
                                    · obtain rfl : x8 = b := by omega
                                      have HSX : Hid (SoS W8 w.heap.size gO capO x8 R Gb3 Gc3 (Gf.clr m2 a cc (r + 1)) u9 lead) := Lib.hid (hs8.congr fun i j _ hj => HRW.out i j hj)
                                      clear hs8 hb8 HS9
                                      go_wp2_with fail
                                      go_roundw
                                      case rel => exact ⟨r + 1, by omega, by go_num, HSX.out, HB9.out⟩
                                      case measure => simp [intOf]; omega
                            · obtain rfl : r = R := by omega
                              clear hs7 hb7
                              have HV8 : Hid ((W7.alloc (.cells #[.int .i64 (cc : Int)] 3)).ownsRow w.heap.size 3 1 u9 lead.length (intsV (lead.map fun c : Nat => (c : Int)))) := Lib.hid (World.ownsRow.alloc HS7.out.hl _)
                              have HB8 : Hid (Below w.heap.size w (W7.alloc (.cells #[.int .i64 (cc : Int)] 3))) := Lib.hid (HB7.out.alloc HB7.out.size _)
                              have HS8 : Hid (SoS (W7.alloc (.cells #[.int .i64 (cc : Int)] 3)) w.heap.size gO capO b r Gb3 Gc3 (Gf.clr m2 a cc r) u9 lead) := Lib.hid (HS7.out.later ((Below.refl _ _).alloc (Nat.le_refl _) _))
                              have HC8 : Hid ((W7.alloc (.cells #[.int .i64 (cc : Int)] 3)).cell? ⟨W7.heap.size, 0, none⟩ = some (.int .i64 (cc : Int))) := Lib.hid (cell_of_row _ _ 0 _ _ _ (World.alloc_heap_new W7 _))
                              go_wp2_with (at_builtin; refine append_int rfl (.tmp 167) (.tmp 169) rfl w.heap.size _ lead.length (lead.map fun c : Nat => (c : Int)) rfl HV8.out W7.heap.size (cc : Int) rfl HC8.out (by have := HA.out; omega) HB8.out.size ?_)
                              intro v9 w9 hv hg
                              have HS9 := Lib.hid (HS8.out.push cc hv hg)
                              have HB9 := Lib.hid (own_belowI HB8.out HV8.out hg)
                              clear hv hg
                              go_wp2_with fail
                              go_roundw
                              case rel => exact ⟨lead ++ [cc], _, Gb3, Gc3, cc + 1, by omega, by go_num, by rw [List.length_append, HA.out]; rfl, HEL2.out, HS9.out, HB9.out⟩
                              case measure => simp [intOf]; omega
              · obtain rfl : q = R := by omega
                have hqd : decide ((q : Int) < (q : Int)) = false := decide_eq_false (by omega)
                go_wp2_with fail
                go_roundw
                case rel =>
                  exact ⟨lead, m, Gb2, Gc2, cc + 1, by omega, by go_num, by rw [HA.out], HEL.out.skip fun i h1 h2 => HZ.out i (by rw [← HA.out]; exact h1) h2, HS4.out, HB4.out⟩
                case measure => simp [intOf]; omega
          · have hd2 : decide ((a : Int) < (R : Int)) = false := decide_eq_false (by omega)
            have HBW := HB2
            clear HB HM HB2
            have HSO3 := HSO
            have HZR : Hid (cc = n ∨ a = R) := Lib.hid (by omega)
            go_wp2_with fail
            go_loopw [18] (fun iv wr => L7At m R a n W3 iv wr) (fun iv _ => R - (intOf iv).toNat)
            case atStart => exact ⟨a, Nat.le_refl _, haR, rfl, fun i h1 h2 => absurd h2 (by omega), Kit.Dn.refl _⟩
            case round =>
              rename World => W4
              obtain ⟨q, hq1, hq2, rfl, hz, hd⟩ := hrel
              have HZ := Lib.hid hz
              have HD := Lib.hid hd
              have HS4 := Lib.hid (HSO.out.later hd.below)
              have HB4 := Lib.hid (Kit.step HBW.out hd.below)
              clear hz hd
              by_cases hq : q < R
              · have hh := HS4.out.mat.hdr q hq
                have hcl := HS4.out.mat.cell q n hq hnN
                have hcap := (HS4.out.mat.caps q hq).2
                unfold maxLen at hcap
                have hq0 : (0 : Int) ≤ (q : Int) := by omega
                have hqR : (q : Int) < (R : Int) := by omega
                have hqd : decide ((q : Int) < (R : Int)) = true := decide_eq_true hqR
                have hn0 : (0 : Int) ≤ (n : Int) := by omega
                have hnNi : (n : Int) < (N : Int) := by omega
                by_cases hx : m q n = 0
                · rw [hx] at hcl
                  go_wp2_with fail
                  go_roundw
                  case rel =>
                    refine ⟨q + 1, by omega, by omega, by go_num, fun i h1 h2 => ?_, HD.out⟩
                    by_cases e : i = q
                    · rw [e]; exact hx
                    · exact HZ.out i h1 (by omega)
                  case measure => simp [intOf]; omega
                · have HNV : Hid (∀ x, ¬ Gf.Sol mm R n x) := Lib.hid fun x => by
                    have hcc2 : cc = n := by rcases HZR.out with h | h <;> omega
                    have h := HEL.out
                    rw [hcc2] at h
                    exact h.never (i := q) (by rw [HA.out]; exact hq1) hq hx x
                  obtain ⟨x, hxe⟩ : ∃ x, m q n = x := ⟨_, rfl⟩
                  rw [hxe] at hcl
                  have hx0 : ¬ x.toNat = 0 := fun e => hx (by rw [hxe]; exact Gf.u8_ext e)
                  have hxb : ((x.toNat : Int) == 0) = false := beq_false_of_ne (by omega)
                  have hxd : decide ((x.toNat : Int) = 0) = false := decide_eq_false (by omega)
                  have hxn : ((x.toNat : Int) != 0) = true := by rw [bne_iff_ne]; omega
                  have hxl := UInt8.toNat_lt x
                  clear hx hxe
                  go_wp2_with fail
                  go_ret2
                  exact ⟨HB4.out, .inr ⟨HNV.out, rfl⟩⟩
              · obtain rfl : q = R := by omega
                have hqd : decide ((q : Int) < (q : Int)) = false := decide_eq_false (by omega)
                have hn0 : (0 : Int) ≤ (n : Int) := by omega
                have hnNi : (n : Int) < (N : Int) := by omega
                obtain ⟨i0, hi, hz0, hz1, hz2⟩ := info_parts info_u8
                go_wp2_with (at_make; refine wpList_make_full _ rfl _ _ 24 rfl 0 5 i0 (.int .u8 0) 1 Tryz.underlying24 hi hz0 hz1 _ _ _ _ n rfl rfl (by omega) (by omega) (by rw [hz2]; omega) (by unfold maxLen; omega) (Nat.zero_le _) ?_)
                intro w5 hown hgrow
                have hb5 : Below W4.heap.size W4 w5 := (Below.refl _ _).grown hgrow (Nat.le_refl _) (fun k h => by cases h)
                have HX5 : Hid (XoAt m n lead W4 0 (List.replicate n 0) w5) := Lib.hid ⟨by simp, fun t h => absurd h (by omega), fun j _ => zeros_co n j, buf_made hown, hb5⟩
                have hld := owns_ints HS4.out.hl (by simp)
                obtain ⟨ol, cl, e9, hlr⟩ := hld
                rw [List.length_map, HA.out] at e9
                subst e9
                have hlc := hlr.cap
                have hll := hlr.le
                simp only [intsV_length, List.length_map] at hll
                rw [HA.out] at hll
                unfold maxLen at hlc
                have HLR := Lib.hid hlr
                clear hown hgrow hb5 hlr
                go_wp2_with fail
                go_loopw [20, 21, 192] (fun _ _ iv wr => XtAt m n lead W4 iv wr) (fun _ _ iv _ => a - (intOf iv).toNat)
                case atStart => exact ⟨0, _, Nat.zero_le _, rfl, HX5.out⟩
                case round =>
                  rename World => W6
                  clear HX5
                  obtain ⟨t, xs, ht, rfl, hxo⟩ := hrel
                  rw [HA.out] at ht
                  have HXO := Lib.hid hxo
                  by_cases htl : t < a
                  · have HS6 := Lib.hid (HS4.out.later hxo.below)
                    have hcol := HEL.out.low t (by rw [HA.out]; exact htl)
                    obtain ⟨b3, off3, rfl, hb3, hcell3⟩ := (HLR.out.later hxo.below).cells (by simp; rw [HA.out]; omega)
                    obtain ⟨col, hcole⟩ : ∃ col, lead.getD t 0 = col := ⟨_, rfl⟩
                    rw [hcole] at hcol
                    have hc3 : W6.cell? ⟨b3, off3 + t, none⟩ = some (.int .i64 (col : Int)) := hcell3 t _ (by
                      have h1 : t < lead.length := by rw [HA.out]; exact htl
                      rw [← hcole]
                      simp [intsV, List.getD_eq_getElem?_getD, h1])
                    have hh := HS6.out.mat.hdr t (by omega)
                    have hcl := HS6.out.mat.cell t n (by omega) hnN
                    have hcap := (HS6.out.mat.caps t (by omega)).2
                    unfold maxLen at hcap
                    have hcb := hxo.buf.cell col (by rw [hxo.len]; omega)
                    have hfb := hxo.buf.frozen col
                    have HST := Lib.hid (hxo.step HEL.out (by rw [HA.out]; exact htl) (by rw [hcole]; omega))
                    rw [hcole] at HST
                    have ht0 : (0 : Int) ≤ (t : Int) := by omega
                    have ht1 : (t : Int) < (a : Int) := by omega
                    have ht2 : (t : Int) < (q : Int) := by omega
                    have hcol0 : (0 : Int) ≤ (col : Int) := by omega
                    have hcol1 : (col : Int) < (n : Int) := by omega
                    have hml := UInt8.toNat_lt (m t n)
                    clear hxo hcell3 hcole
                    go_wp2_with fail
                    go_roundw
                    case rel => exact ⟨t + 1, _, by rw [HA.out]; omega, by go_num, HST.out⟩
                    case measure => simp [intOf]; omega
                  · have hta : t = lead.length := by rw [HA.out]; omega
                    have HSL : Hid (Gf.Sol mm q n (co xs)) := Lib.hid (HEL.out.done hcc (by rw [HA.out]; exact HZR.out) (fun i h1 h2 => HZ.out i (by rw [← HA.out]; exact h1) h2) (fun t' ht' => hxo.at_ t' (by omega)) (fun j hj => hxo.none_ j fun t' ht' => hj t' (by omega)))
                    have HBX := Lib.hid (Kit.step HB4.out hxo.below)
                    have HRX : Hid (RowV xs (.slice (some ⟨W4.heap.size, 0, none⟩) n n) W6) := Lib.hid (by
                      have := hxo.buf.row
                      exact ⟨_, _, by rw [hxo.len], this⟩)
                    have HXL := Lib.hid hxo.len
                    obtain rfl : t = a := by rw [hta, HA.out]
                    clear hxo hta
                    go_wp2_with fail
                    go_ret2
                    exact ⟨HBX.out, .inl ⟨xs, _, HXL.out, HSL.out, rfl, HRX.out⟩⟩
        · have hd1 : decide ((cc : Int) < (n : Int)) = false := decide_eq_false (by omega)
          have HBW := HB2
          clear HB HM HB2
          have HSO3 := HSO
          have HZR : Hid (cc = n ∨ a = R) := Lib.hid (by omega)
          go_wp2_with fail
          go_loopw [18] (fun iv wr => L7At m R a n W3 iv wr) (fun iv _ => R - (intOf iv).toNat)
          case atStart => exact ⟨a, Nat.le_refl _, haR, rfl, fun i h1 h2 => absurd h2 (by omega), Kit.Dn.refl _⟩
          case round =>
            rename World => W4
            obtain ⟨q, hq1, hq2, rfl, hz, hd⟩ := hrel
            have HZ := Lib.hid hz
            have HD := Lib.hid hd
            have HS4 := Lib.hid (HSO.out.later hd.below)
            have HB4 := Lib.hid (Kit.step HBW.out hd.below)
            clear hz hd
            by_cases hq : q < R
            · have hh := HS4.out.mat.hdr q hq
              have hcl := HS4.out.mat.cell q n hq hnN
              have hcap := (HS4.out.mat.caps q hq).2
              unfold maxLen at hcap
              have hq0 : (0 : Int) ≤ (q : Int) := by omega
              have hqR : (q : Int) < (R : Int) := by omega
              have hqd : decide ((q : Int) < (R : Int)) = true := decide_eq_true hqR
              have hn0 : (0 : Int) ≤ (n : Int) := by omega
              have hnNi : (n : Int) < (N : Int) := by omega
              by_cases hx : m q n = 0
              · rw [hx] at hcl
                go_wp2_with fail
                go_roundw
                case rel =>
                  refine ⟨q + 1, by omega, by omega, by go_num, fun i h1 h2 => ?_, HD.out⟩
                  by_cases e : i = q
                  · rw [e]; exact hx
                  · exact HZ.out i h1 (by omega)
                case measure => simp [intOf]; omega
              · have HNV : Hid (∀ x, ¬ Gf.Sol mm R n x) := Lib.hid fun x => by
                  have hcc2 : cc = n := by rcases HZR.out with h | h <;> omega
                  have h := HEL.out
                  rw [hcc2] at h
                  exact h.never (i := q) (by rw [HA.out]; exact hq1) hq hx x
                obtain ⟨x, hxe⟩ : ∃ x, m q n = x := ⟨_, rfl⟩
                rw [hxe] at hcl
                have hx0 : ¬ x.toNat = 0 := fun e => hx (by rw [hxe]; exact Gf.u8_ext e)
                have hxb : ((x.toNat : Int) == 0) = false := beq_false_of_ne (by omega)
                have hxd : decide ((x.toNat : Int) = 0) = false := decide_eq_false (by omega)
                have hxn : ((x.toNat : Int) != 0) = true := by rw [bne_iff_ne]; omega
                have hxl := UInt8.toNat_lt x
                clear hx hxe
                go_wp2_with fail
                go_ret2
                exact ⟨HB4.out, .inr ⟨HNV.out, rfl⟩⟩
            · obtain rfl : q = R := by omega
              have hqd : decide ((q : Int) < (q : Int)) = false := decide_eq_false (by omega)
              have hn0 : (0 : Int) ≤ (n : Int) := by omega
              have hnNi : (n : Int) < (N : Int) := by omega
              obtain ⟨i0, hi, hz0, hz1, hz2⟩ := info_parts info_u8
              go_wp2_with (at_make; refine wpList_make_full _ rfl _ _ 24 rfl 0 5 i0 (.int .u8 0) 1 Tryz.underlying24 hi hz0 hz1 _ _ _ _ n rfl rfl (by omega) (by omega) (by rw [hz2]; omega) (by unfold maxLen; omega) (Nat.zero_le _) ?_)
              intro w5 hown hgrow
              have hb5 : Below W4.heap.size W4 w5 := (Below.refl _ _).grown hgrow (Nat.le_refl _) (fun k h => by cases h)
              have HX5 : Hid (XoAt m n lead W4 0 (List.replicate n 0) w5) := Lib.hid ⟨by simp, fun t h => absurd h (by omega), fun j _ => zeros_co n j, buf_made hown, hb5⟩
              have hld := owns_ints HS4.out.hl (by simp)
              obtain ⟨ol, cl, e9, hlr⟩ := hld
              rw [List.length_map, HA.out] at e9
              subst e9
              have hlc := hlr.cap
              have hll := hlr.le
              simp only [intsV_length, List.length_map] at hll
              rw [HA.out] at hll
              unfold maxLen at hlc
              have HLR := Lib.hid hlr
              clear hown hgrow hb5 hlr
              go_wp2_with fail
              go_loopw [20, 21, 192] (fun _ _ iv wr => XtAt m n lead W4 iv wr) (fun _ _ iv _ => a - (intOf iv).toNat)
              case atStart => exact ⟨0, _, Nat.zero_le _, rfl, HX5.out⟩
              case round =>
                rename World => W6
                clear HX5
                obtain ⟨t, xs, ht, rfl, hxo⟩ := hrel
                rw [HA.out] at ht
                have HXO := Lib.hid hxo
                by_cases htl : t < a
                · have HS6 := Lib.hid (HS4.out.later hxo.below)
                  have hcol := HEL.out.low t (by rw [HA.out]; exact htl)
                  obtain ⟨b3, off3, rfl, hb3, hcell3⟩ := (HLR.out.later hxo.below).cells (by simp; rw [HA.out]; omega)
                  obtain ⟨col, hcole⟩ : ∃ col, lead.getD t 0 = col := ⟨_, rfl⟩
                  rw [hcole] at hcol
                  have hc3 : W6.cell? ⟨b3, off3 + t, none⟩ = some (.int .i64 (col : Int)) := hcell3 t _ (by
                    have h1 : t < lead.length := by rw [HA.out]; exact htl
                    rw [← hcole]
                    simp [intsV, List.getD_eq_getElem?_getD, h1])
                  have hh := HS6.out.mat.hdr t (by omega)
                  have hcl := HS6.out.mat.cell t n (by omega) hnN
                  have hcap := (HS6.out.mat.caps t (by omega)).2
                  unfold maxLen at hcap
                  have hcb := hxo.buf.cell col (by rw [hxo.len]; omega)
                  have hfb := hxo.buf.frozen col
                  have HST := Lib.hid (hxo.step HEL.out (by rw [HA.out]; exact htl) (by rw [hcole]; omega))
                  rw [hcole] at HST
                  have ht0 : (0 : Int) ≤ (t : Int) := by omega
                  have ht1 : (t : Int) < (a : Int) := by omega
                  have ht2 : (t : Int) < (q : Int) := by omega
                  have hcol0 : (0 : Int) ≤ (col : Int) := by omega
                  have hcol1 : (col : Int) < (n : Int) := by omega
                  have hml := UInt8.toNat_lt (m t n)
                  clear hxo hcell3 hcole
                  go_wp2_with fail
                  go_roundw
                  case rel => exact ⟨t + 1, _, by rw [HA.out]; omega, by go_num, HST.out⟩
                  case measure => simp [intOf]; omega
                · have hta : t = lead.length := by rw [HA.out]; omega
                  have HSL : Hid (Gf.Sol mm q n (co xs)) := Lib.hid (HEL.out.done hcc (by rw [HA.out]; exact HZR.out) (fun i h1 h2 => HZ.out i (by rw [← HA.out]; exact h1) h2) (fun t' ht' => hxo.at_ t' (by omega)) (fun j hj => hxo.none_ j fun t' ht' => hj t' (by omega)))
                  have HBX := Lib.hid (Kit.step HB4.out hxo.below)
                  have HRX : Hid (RowV xs (.slice (some ⟨W4.heap.size, 0, none⟩) n n) W6) := Lib.hid (by
                    have := hxo.buf.row
                    exact ⟨_, _, by rw [hxo.len], this⟩)
                  have HXL := Lib.hid hxo.len
                  obtain rfl : t = a := by rw [hta, HA.out]
                  clear hxo hta
                  go_wp2_with fail
                  go_ret2
                  exact ⟨HBX.out, .inl ⟨xs, _, HXL.out, HSL.out, rfl, HRX.out⟩⟩
end Go.Proofs.YtgifbpjmblemhaaGreatDoor
namespace Go.Proofs.YtgifbpjmblemhaaGreatDoor
open Go.RowKit
set_option linter.unusedVariables false
set_option linter.unusedSimpArgs false
theorem Mat.rin {W : World} {B gO capO N R : Nat} {Gb Gc : Nat → Nat} {m : Nat → Nat → UInt8} (h : Mat W B gO capO N R Gb Gc m) : RIn W gO N R m :=
  ⟨h.lt.2, fun i hi => ⟨_, _, h.hdr i hi, by
    have := (h.row i hi).1.row
    exact this⟩⟩
def RgAt (s : List UInt8) (L : Nat) (w : World) (v iv : Value) (wr : World) : Prop :=
  ∃ k i : Nat, i = L + k ∧ i ≤ s.length ∧ iv = .int .i64 i ∧ Cpy wr w.heap.size (L + 1) k v (Gf.regM (co s) L) ∧ Below w.heap.size w wr
/-- a row of the equations, so far -/
def eqL (s : List UInt8) (L i t : Nat) : List UInt8 := tab (fun b => if b < t then co s (i - (b + 1)) else 0) (L + 1)
theorem eqL_step (s : List UInt8) (L i t : Nat) (h : t < L) : (eqL s L i t).set t (co s (i - (t + 1))) = eqL s L i (t + 1) := list_ext (by simp [eqL]) fun b hb => by
  simp [eqL] at hb
  unfold eqL
  rw [co_set, co_tab _ _ _ hb, co_tab _ _ _ hb]
  by_cases e : t = b
  · subst e
    rw [if_pos ⟨rfl, by rw [tab_length]; exact hb⟩, if_pos (by omega)]
  · rw [if_neg (fun h => e h.1)]
    by_cases e2 : b < t
    · rw [if_pos e2, if_pos (by omega)]
    · rw [if_neg e2, if_neg (by omega)]
theorem eqL_full (s : List UInt8) (L k : Nat) : (eqL s L (L + k) L).set L (co s (L + k)) = tab (Gf.regM (co s) L k) (L + 1) := list_ext (by simp [eqL]) fun b hb => by
  simp [eqL] at hb
  unfold eqL
  rw [co_set, co_tab _ _ _ hb, co_tab _ _ _ hb]
  unfold Gf.regM
  by_cases e : L = b
  · subst e
    rw [if_pos ⟨rfl, by rw [tab_length]; exact hb⟩, if_neg (by omega)]
  · rw [if_neg (fun h => e h.1), if_pos (by omega), if_pos (by omega)]
def RhAt (s : List UInt8) (L i : Nat) (w : World) (jv : Value) (wr : World) : Prop :=
  ∃ t j : Nat, j = t + 1 ∧ t ≤ L ∧ jv = .int .i64 j ∧ Buf wr w.heap.size (L + 1) (eqL s L i t) ∧ Below w.heap.size w wr
set_option maxRecDepth 100000 in
set_option maxHeartbeats 8000000 in
theorem register_any (s : List UInt8) (L : Nat) (o : Option Addr) (c : Nat) (w : World) (hS : RowIs w o (bytesV s) c) (hL : L ≤ s.length) (hl : s.length ≤ 1000) :
    Calls Tryz.prog 33 #[.slice o s.length c, .int .i64 L] w (SolTo (Gf.regM (co s) L) (s.length - L) L w) := by
  have h1 := hS.le
  have h2 := hS.cap
  simp only [bytesV_length] at h1
  unfold maxLen at h2
  have HS := Lib.hid hS
  have HC0 := Lib.hid (Cpy.start w w.heap.size (L + 1) (Gf.regM (co s) L) (Nat.le_refl _))
  have HB0 : Hid (Below w.heap.size w (w.alloc (.cells #[] 24))) := Lib.hid ((Below.refl _ _).alloc (Nat.le_refl _) _)
  obtain ⟨i0, hi, hz0, hz1, hz2⟩ := info_parts info_u8
  obtain ⟨N, hN⟩ : ∃ N, L + 1 = N := ⟨_, rfl⟩
  have hNi : (L : Int) + 1 = (N : Int) := by omega
  have HN := Lib.hid hN
  have hN0 : N ≤ 1001 := by omega
  clear hS hN
  go_enter Tryz.func33, Tryz.ntmps33
  go_wp2_with fail
  go_loopw [6, 7] (fun v iv wr => RgAt s L w v iv wr) (fun _ iv _ => s.length - (intOf iv).toNat)
  case atStart => exact ⟨0, L, rfl, hL, rfl, HC0.out, HB0.out⟩
  case round =>
    clear HC0 HB0
    obtain ⟨k, i, hik, hi2, rfl, ⟨gO, capO, Gb, Gc, rfl, hmat⟩, hb⟩ := hrel
    have HM := Lib.hid hmat
    have HB := Lib.hid hb
    have HIK := Lib.hid hik
    have hcO := hmat.cap
    unfold maxLen at hcO
    have hcO1 := hcO.1
    have hcO2 := hcO.2
    clear hmat hb hcO
    by_cases hlt : i < s.length
    · have hd1 : decide ((i : Int) < (s.length : Int)) = true := decide_eq_true (by omega)
      have hkL : k ≤ 1000 := by omega
      have hiL : L ≤ i := by omega
      clear hik
      go_wp2_with (at_make; refine wpList_make_full _ rfl _ _ 24 rfl 0 5 i0 (.int .u8 0) 1 Tryz.underlying24 hi hz0 hz1 _ _ _ _ N rfl rfl (by omega) (by omega) (by rw [hz2]; omega) (by unfold maxLen; omega) (Nat.zero_le _) ?_)
      intro w2 hown hgrow
      have hb2 : Below wr.heap.size wr w2 := (Below.refl _ _).grown hgrow (Nat.le_refl _) (fun k h => by cases h)
      have hbuf : Buf w2 wr.heap.size (L + 1) (eqL s L i 0) := by
        have e : eqL s L i 0 = List.replicate (L + 1) 0 := list_ext (by simp [eqL]) fun b hb => by
          simp [eqL] at hb
          unfold eqL
          rw [co_tab _ _ _ hb, if_neg (by omega), zeros_co]
        rw [e, HN.out]
        exact buf_made hown
      have HB2 := Lib.hid hb2
      have HBF := Lib.hid hbuf
      clear hown hgrow hb2 hbuf
      go_wp2_with fail
      go_loopw [9] (fun jv wr2 => RhAt s L i wr jv wr2) (fun jv _ => L + 1 - (intOf jv).toNat)
      case atStart => exact ⟨0, 1, rfl, Nat.zero_le _, rfl, HBF.out, HB2.out⟩
      case round =>
        rename World => W3
        clear HBF HB2
        obtain ⟨t, j, hj, htL, rfl, hbf, hb3⟩ := hrel
        have HBF := Lib.hid hbf
        have HB3 := Lib.hid hb3
        have HS3 := Lib.hid (HS.out.later (Kit.step HB.out hb3))
        have HJ := Lib.hid hj
        by_cases htl : t < L
        · have hjd : decide ((j : Int) ≤ (L : Int)) = true := decide_eq_true (by omega)
          obtain ⟨bs, fs, rfl, hbs, hcs⟩ := HS3.out.cells (by simp; omega)
          obtain ⟨r, hr⟩ : ∃ r, i - j = r := ⟨_, rfl⟩
          have hcj : W3.cell? ⟨bs, fs + r, none⟩ = some (.int .u8 ((co s r).toNat : Int)) := hcs r _ (bytesV_get s r (by omega))
          have hce := hbf.cell t (by simp [eqL]; omega)
          have hfr := hbf.frozen t
          have hst := hbf.store t (co s r)
          have HST := Lib.hid (show Buf (W3.setCell ⟨wr.heap.size, t, none⟩ (.int .u8 ((co s r).toNat : Int))) wr.heap.size (L + 1) (eqL s L i (t + 1)) by
            have e := eqL_step s L i t htl
            rw [show i - (t + 1) = r by omega] at e
            rw [← e]
            exact hst.1)
          have HSB := Lib.hid (hb3.trans (Only.below hst.2 (Nat.le_refl _) hb3.size))
          have hij : (i : Int) - (j : Int) = (r : Int) := by omega
          have hjt : (j : Int) - 1 = (t : Int) := by omega
          have hr0 : (0 : Int) ≤ (r : Int) := by omega
          have hr1 : (r : Int) < (s.length : Int) := by omega
          have ht0 : (0 : Int) ≤ (t : Int) := by omega
          have ht1 : (t : Int) < (N : Int) := by have := HN.out; omega
          have hyl := UInt8.toNat_lt (co s r)
          generalize co s r = y at *
          clear hcs hbf hb3 hst hj hr
          go_wp2_with fail
          go_roundw
          case rel => exact ⟨t + 1, j + 1, by have := HJ.out; omega, by omega, by go_num, HST.out, HSB.out⟩
          case measure => have := HJ.out; simp [intOf]; omega
        · obtain rfl : t = L := by omega
          have hjd : decide ((j : Int) ≤ (t : Int)) = false := decide_eq_false (by omega)
          have hjd2 : decide (j ≤ t) = false := decide_eq_false (by omega)
          have hjn : ¬ j ≤ t := by omega
          obtain ⟨bs, fs, rfl, hbs, hcs⟩ := HS3.out.cells (by simp; omega)
          have hcj : W3.cell? ⟨bs, fs + i, none⟩ = some (.int .u8 ((co s i).toNat : Int)) := hcs i _ (bytesV_get s i hlt)
          have hce := hbf.cell t (by simp [eqL])
          have hfr := hbf.frozen t
          have hst := hbf.store t (co s i)
          obtain ⟨w4, hw4⟩ : ∃ w4, W3.setCell ⟨wr.heap.size, t, none⟩ (.int .u8 ((co s i).toNat : Int)) = w4 := ⟨_, rfl⟩
          have hbf4 : Buf w4 wr.heap.size N (tab (Gf.regM (co s) t k) N) := by
            rw [← hw4, ← HN.out, ← eqL_full s t k, ← HIK.out]
            exact hst.1
          have hb4 : Below wr.heap.size wr w4 := by rw [← hw4]; exact hb3.trans (Only.below hst.2 (Nat.le_refl _) hb3.size)
          obtain ⟨w5, hw5⟩ : ∃ w5, w4.alloc (.cells #[.slice (some ⟨wr.heap.size, 0, none⟩) N N] 24) = w5 := ⟨_, rfl⟩
          have hb5 : Below w4.heap.size w4 w5 := by rw [← hw5]; exact (Below.refl _ _).alloc (Nat.le_refl _) _
          have hsz : w4.heap.size = W3.heap.size := by rw [← hw4]; simp [World.setCell]
          have hc5 : w5.cell? ⟨W3.heap.size, 0, none⟩ = some (.slice (some ⟨wr.heap.size, 0, none⟩) N N) := by
            rw [← hw5, ← hsz]
            exact cell_of_row _ _ 0 _ _ _ (World.alloc_heap_new w4 _)
          have HM5 : Hid (Mat w5 w.heap.size gO capO N k Gb Gc (Gf.regM (co s) t)) := Lib.hid (by rw [← HN.out]; exact (HM.out.later hb4).later hb5)
          have HBF5 := Lib.hid (hbf4.later hb5)
          have HB5 := Lib.hid (Kit.step (Kit.step HB.out hb4) hb5)
          have HC5 := Lib.hid hc5
          have HW4 := Lib.hid hw4
          have HW5 := Lib.hid hw5
          have HGN : Hid (∀ i, i < k → Gb i ≠ wr.heap.size) := Lib.hid fun i hi e => by
            have := (HM.out.row i hi).1.lt
            omega
          have ht0 : (0 : Int) ≤ (t : Int) := by omega
          have ht1 : (t : Int) < (N : Int) := by have := HN.out; omega
          have hi0 : (0 : Int) ≤ (i : Int) := by omega
          have hi1 : (i : Int) < (s.length : Int) := by omega
          have hyl := UInt8.toNat_lt (co s i)
          generalize co s i = y at *
          clear hcs hbf hb3 hst hj hw4 hbf4 hb4 hw5 hb5 hc5 hsz HBF HB3
          go_wp2_with (at_builtin; rw [HW4.out, HW5.out]; refine append_hdr rfl (.tmp 43) (.tmp 45) rfl w.heap.size _ k _ rfl HM5.out.outer W3.heap.size (some ⟨wr.heap.size, 0, none⟩) N N rfl HC5.out (by omega) HB5.out.size ?_)
          intro v6 w6 hv hgr
          have HC6 : Hid (Cpy w6 w.heap.size (t + 1) (k + 1) v6 (Gf.regM (co s) t)) := Lib.hid (by rw [HN.out]; exact Cpy.add HM5.out wr.heap.size N HB.out.size HBF5.out HGN.out hv hgr)
          have HB6 : Hid (Below w.heap.size w w6) := Lib.hid (HB5.out.grown hgr HB5.out.size fun k e => (World.ownsRow.lt HM5.out.outer k e).1)
          clear hv hgr HM5 HBF5 HB5 HC5 HW4 HW5
          go_wp2_with fail
          go_roundw
          case rel => exact ⟨k + 1, i + 1, by have := HIK.out; omega, by omega, by go_num, HC6.out, HB6.out⟩
          case measure => simp [intOf]; omega
    · obtain rfl : i = s.length := by omega
      have hkk : k = s.length - L := by omega
      have hsv := solve_of (Gf.regM (co s) L) k L (L + 1) gO capO wr rfl HM.out.rin (by omega) (by omega) hcO1 (by omega)
      rw [hkk] at hsv
      have HSV := Lib.hid hsv
      rw [hkk]
      clear hsv hik
      go_wp2_with fail
      refine HSV.out.mono ?_
      rintro e w2 ⟨hb2, ⟨x, v, hx1, hx2, rfl, hx3⟩ | ⟨hno, rfl⟩⟩
      · have HB2 := Lib.hid (Kit.step HB.out hb2)
        have HX1 := Lib.hid hx1
        have HX2 := Lib.hid hx2
        have HX3 := Lib.hid hx3
        clear hb2 hx1 hx2 hx3 HSV
        go_wp2_with fail
        go_ret2
        exact ⟨HB2.out, .inl ⟨x, v, HX1.out, HX2.out, rfl, HX3.out⟩⟩
      · have HB2 := Lib.hid (Kit.step HB.out hb2)
        have HNO := Lib.hid hno
        clear hb2 hno HSV
        go_wp2_with fail
        go_ret2
        exact ⟨HB2.out, .inr ⟨HNO.out, rfl⟩⟩
def ShAt (L : Nat) (w : World) (iv : Value) (wr : World) : Prop := ∃ k : Nat, k ≤ L ∧ iv = .int .i64 k ∧ Below w.heap.size w wr
end Go.Proofs.YtgifbpjmblemhaaGreatDoor
