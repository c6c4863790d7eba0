/- Matrices in memory: a row of rows, each in a block of its own; read, written, turned. Registers as solutions of linear equations, plain; Gauss' loops, part by part. What Gauss' loops hold in memory. -/
import Derived.Test.YtgchfijeiggimaaDoorAp
import Derived.Test.YtgchfijeiggimaaDoorMs
import Derived.Test.YtgchfijeiggimaaDoorDf
import Derived.Deep.Onto
namespace Go.Proofs.YtgchfijeiggimaaDoor
open Go.RowKit
set_option linter.unusedVariables false
set_option linter.unusedSimpArgs false
/-- R rows of N numbers: the outer row in block gO, row i in block Gb i -/
structure Mat (W : World) (B gO capO N R : Nat) (Gb Gc : Nat → Nat) (m : Nat → Nat → UInt8) : Prop where
  outer : W.ownsRow B 22 1 (.slice (some ⟨gO, 0, none⟩) R capO) R ((List.range R).map fun i => .slice (some ⟨Gb i, 0, none⟩) N (Gc i))
  row : ∀ i, i < R → Buf W (Gb i) (Gc i) (tab (m i) N) ∧ B ≤ Gb i
  apart : ∀ i j, i < R → j < R → Gb i = Gb j → i = j
theorem Mat.lt {W : World} {B gO capO N R : Nat} {Gb Gc : Nat → Nat} {m : Nat → Nat → UInt8} (h : Mat W B gO capO N R Gb Gc m) : B ≤ gO ∧ gO < W.heap.size := World.ownsRow.lt h.outer gO rfl
theorem Mat.outCells {W : World} {B gO capO N R : Nat} {Gb Gc : Nat → Nat} {m : Nat → Nat → UInt8} (h : Mat W B gO capO N R Gb Gc m) : ∃ cur, W.heap[gO]? = some (.cells cur 22 (0, 0)) := by
  rcases h.outer.2 with ⟨h1, _⟩ | ⟨g, cap, cur, h1, _, h2, _⟩
  · cases h1
  · cases h1
    exact ⟨cur, h2⟩
theorem Mat.ne {W : World} {B gO capO N R : Nat} {Gb Gc : Nat → Nat} {m : Nat → Nat → UInt8} (h : Mat W B gO capO N R Gb Gc m) (i : Nat) (hi : i < R) : gO ≠ Gb i := fun e => by
  obtain ⟨cur, h1⟩ := h.outCells
  obtain ⟨cur2, h2⟩ := (h.row i hi).1.cells
  rw [← e, h1] at h2
  cases h2
theorem Mat.congr {W : World} {B gO capO N R : Nat} {Gb Gc : Nat → Nat} {m m' : Nat → Nat → UInt8} (h : Mat W B gO capO N R Gb Gc m) (he : ∀ i j, i < R → j < N → m i j = m' i j) : Mat W B gO capO N R Gb Gc m' :=
  ⟨h.outer, fun i hi => by
    have e : tab (m' i) N = tab (m i) N := list_ext (by simp) fun j hj => by
      simp at hj
      rw [co_tab _ _ _ hj, co_tab _ _ _ hj, he i j hi hj]
    rw [e]
    exact h.row i hi, h.apart⟩
theorem Mat.later {W W' : World} {B gO capO N R : Nat} {Gb Gc : Nat → Nat} {m : Nat → Nat → UInt8} (h : Mat W B gO capO N R Gb Gc m) (hb : Below W.heap.size W W') : Mat W' B gO capO N R Gb Gc m :=
  ⟨World.ownsRow.kept (row := none) h.outer ⟨hb.os, hb.tape, hb.output, hb.size, fun i hi _ => hb.block i hi⟩ (.inr (by simp [Value.ownBlock])), fun i hi => ⟨(h.row i hi).1.later hb, (h.row i hi).2⟩, h.apart⟩
theorem Mat.cell {W : World} {B gO capO N R : Nat} {Gb Gc : Nat → Nat} {m : Nat → Nat → UInt8} (h : Mat W B gO capO N R Gb Gc m) (i j : Nat) (hi : i < R) (hj : j < N) : W.cell? ⟨Gb i, j, none⟩ = some (.int .u8 ((m i j).toNat : Int)) := by
  have := (h.row i hi).1.cell j (by simpa using hj)
  rwa [co_tab _ _ _ hj] at this
theorem Mat.frozen {W : World} {B gO capO N R : Nat} {Gb Gc : Nat → Nat} {m : Nat → Nat → UInt8} (h : Mat W B gO capO N R Gb Gc m) (i j : Nat) (hi : i < R) : W.frozen? ⟨Gb i, j, none⟩ = false := (h.row i hi).1.frozen j
theorem Mat.hdr {W : World} {B gO capO N R : Nat} {Gb Gc : Nat → Nat} {m : Nat → Nat → UInt8} (h : Mat W B gO capO N R Gb Gc m) (i : Nat) (hi : i < R) : W.cell? ⟨gO, i, none⟩ = some (.slice (some ⟨Gb i, 0, none⟩) N (Gc i)) := by
  rw [World.ownsRow.cellAt h.outer i (by omega)]
  simp [hi]
theorem Mat.hdrFrozen {W : World} {B gO capO N R : Nat} {Gb Gc : Nat → Nat} {m : Nat → Nat → UInt8} (h : Mat W B gO capO N R Gb Gc m) (i : Nat) : W.frozen? ⟨gO, i, none⟩ = false := World.ownsRow.frozenAt h.outer i
theorem Mat.caps {W : World} {B gO capO N R : Nat} {Gb Gc : Nat → Nat} {m : Nat → Nat → UInt8} (h : Mat W B gO capO N R Gb Gc m) (i : Nat) (hi : i < R) : N ≤ Gc i ∧ Gc i ≤ maxLen := by
  have := (h.row i hi).1.le
  simpa using this
theorem Mat.cap {W : World} {B gO capO N R : Nat} {Gb Gc : Nat → Nat} {m : Nat → Nat → UInt8} (h : Mat W B gO capO N R Gb Gc m) : R ≤ capO ∧ capO ≤ maxLen := by
  rcases h.outer.2 with ⟨h1, _⟩ | ⟨g, cap, cur, h1, _, _, h2, h3, _⟩
  · cases h1
  · cases h1
    exact ⟨h2, h3⟩
/-- one number is written -/
def put2 (m : Nat → Nat → UInt8) (i j : Nat) (x : UInt8) (a b : Nat) : UInt8 := if a = i ∧ b = j then x else m a b
theorem Mat.store {W : World} {B gO capO N R : Nat} {Gb Gc : Nat → Nat} {m : Nat → Nat → UInt8} (h : Mat W B gO capO N R Gb Gc m) (i j : Nat) (hi : i < R) (hj : j < N) (x : UInt8) :
    Mat (W.setCell ⟨Gb i, j, none⟩ (.int .u8 (x.toNat : Int))) B gO capO N R Gb Gc (put2 m i j x) ∧ Only (Gb i) W (W.setCell ⟨Gb i, j, none⟩ (.int .u8 (x.toNat : Int))) := by
  have hs := (h.row i hi).1.store j x
  refine ⟨⟨World.ownsRow.kept h.outer hs.2 (.inr fun e => h.ne i hi (by cases e; rfl)), fun a ha => ?_, h.apart⟩, hs.2⟩
  by_cases e : a = i
  · subst e
    have e2 : tab (put2 m a j x a) N = (tab (m a) N).set j x := list_ext (by simp) fun b hb => by
      simp at hb
      rw [co_tab _ _ _ hb, co_set, co_tab _ _ _ hb]
      unfold put2
      by_cases e3 : j = b
      · subst e3
        rw [if_pos ⟨rfl, rfl⟩, if_pos ⟨rfl, by simpa using hb⟩]
      · rw [if_neg (fun h => e3 h.2.symm), if_neg (fun h => e3 h.1)]
    rw [e2]
    exact ⟨hs.1, (h.row a ha).2⟩
  · have e2 : tab (put2 m i j x a) N = tab (m a) N := list_ext (by simp) fun b hb => by
      simp at hb
      rw [co_tab _ _ _ hb, co_tab _ _ _ hb]
      unfold put2
      rw [if_neg (fun h => e h.1)]
    rw [e2]
    refine ⟨?_, (h.row a ha).2⟩
    exact World.ownsRow.kept (h.row a ha).1 hs.2 (.inr fun e3 => e (h.apart a i ha hi (Option.some.inj (show some (Gb a) = some (Gb i) from e3))))
/-- where a row lies when two have been turned -/
def trn (a k i : Nat) : Nat := if i = a then k else if i = k then a else i
theorem swp_trn (m : Nat → Nat → UInt8) (a k i j : Nat) : Gf.swp m a k i j = m (trn a k i) j := by
  unfold Gf.swp trn
  split
  · rfl
  · split <;> rfl
theorem trn_lt {a k i R : Nat} (ha : a < R) (hk : k < R) (hi : i < R) : trn a k i < R := by
  unfold trn
  split
  · exact hk
  · split
    · exact ha
    · exact hi
theorem trn_trn (a k i : Nat) : trn a k (trn a k i) = i := by
  unfold trn
  by_cases h1 : i = a
  · subst h1
    rw [if_pos rfl]
    by_cases h2 : k = i
    · rw [if_pos h2, h2]
    · rw [if_neg h2, if_pos rfl]
  · rw [if_neg h1]
    by_cases h2 : i = k
    · subst h2
      rw [if_pos rfl, if_pos rfl]
    · rw [if_neg h2, if_neg h1, if_neg h2]
theorem Mat.swap {W : World} {B gO capO N R : Nat} {Gb Gc : Nat → Nat} {m : Nat → Nat → UInt8} (h : Mat W B gO capO N R Gb Gc m) (a k : Nat) (ha : a < R) (hk : k < R) :
    Mat ((W.setCell ⟨gO, a, none⟩ (.slice (some ⟨Gb k, 0, none⟩) N (Gc k))).setCell ⟨gO, k, none⟩ (.slice (some ⟨Gb a, 0, none⟩) N (Gc a))) B gO capO N R (fun i => Gb (trn a k i)) (fun i => Gc (trn a k i)) (Gf.swp m a k) ∧
      Only gO W ((W.setCell ⟨gO, a, none⟩ (.slice (some ⟨Gb k, 0, none⟩) N (Gc k))).setCell ⟨gO, k, none⟩ (.slice (some ⟨Gb a, 0, none⟩) N (Gc a))) := by
  have h1 := World.ownsRow.stored h.outer a (.slice (some ⟨Gb k, 0, none⟩) N (Gc k))
  have h2 := World.ownsRow.stored h1.1 k (.slice (some ⟨Gb a, 0, none⟩) N (Gc a))
  have ho : Only gO W ((W.setCell ⟨gO, a, none⟩ (.slice (some ⟨Gb k, 0, none⟩) N (Gc k))).setCell ⟨gO, k, none⟩ (.slice (some ⟨Gb a, 0, none⟩) N (Gc a))) := Only.trans h1.2 h2.2
  refine ⟨⟨?_, fun i hi => ?_, fun i j hi hj e => ?_⟩, ho⟩
  · have e : (((List.range R).map fun i => (.slice (some ⟨Gb i, 0, none⟩) N (Gc i) : Value)).set a (.slice (some ⟨Gb k, 0, none⟩) N (Gc k))).set k (.slice (some ⟨Gb a, 0, none⟩) N (Gc a)) = (List.range R).map fun i => (.slice (some ⟨Gb (trn a k i), 0, none⟩) N (Gc (trn a k i)) : Value) := by
      refine List.ext_getElem (by simp) fun i hi1 hi2 => ?_
      simp only [List.getElem_set, List.getElem_map, List.getElem_range]
      unfold trn
      by_cases e1 : k = i
      · subst e1
        rw [if_pos rfl]
        by_cases e2 : k = a
        · subst e2
          rw [if_pos rfl]
        · rw [if_neg e2, if_pos rfl]
      · rw [if_neg e1]
        by_cases e2 : a = i
        · subst e2
          rw [if_pos rfl, if_pos rfl]
        · rw [if_neg e2, if_neg (fun h => e2 h.symm), if_neg (fun h => e1 h.symm)]
    rw [← e]
    exact h2.1
  · have e : tab (Gf.swp m a k i) N = tab (m (trn a k i)) N := by
      congr 1
      funext j
      exact swp_trn m a k i j
    rw [e]
    have hr := h.row (trn a k i) (trn_lt ha hk hi)
    exact ⟨World.ownsRow.kept hr.1 ho (.inr fun e3 => h.ne _ (trn_lt ha hk hi) (Option.some.inj (show some (Gb (trn a k i)) = some gO from e3)).symm), hr.2⟩
  · have := h.apart _ _ (trn_lt ha hk hi) (trn_lt ha hk hj) e
    have h3 := congrArg (trn a k) this
    rwa [trn_trn, trn_trn] at h3
end Go.Proofs.YtgchfijeiggimaaDoor
namespace Go.Proofs.YtgchfijeiggimaaDoor
set_option linter.unusedVariables false
namespace Gf
/-- the equations of a register of length L for the numbers s -/
def regM (s : Nat → UInt8) (L : Nat) (i j : Nat) : UInt8 := if j < L then s (L + i - (j + 1)) else s (L + i)
/-- a register of a solution -/
def regC (x : Nat → UInt8) (j : Nat) : UInt8 := if j = 0 then 1 else x (j - 1)
theorem dis_regC (s x : Nat → UInt8) (L i : Nat) : dis s (regC x) L i = s i ^^^ sm (fun j => gm (x j) (s (i - (j + 1)))) L := by
  unfold dis
  rw [sm_left]
  congr 1
  exact one_gm _
theorem sol_run (s : Nat → UInt8) (n L : Nat) (x : Nat → UInt8) : Sol (regM s L) (n - L) L x ↔ Run s n (regC x) L := by
  have e : ∀ i, sm (fun j => gm (regM s L i j) (x j)) L = sm (fun j => gm (x j) (s (L + i - (j + 1)))) L := fun i => sm_congr fun j hj => by
    unfold regM
    rw [if_pos hj, gm_comm]
  have e2 : ∀ i, regM s L i L = s (L + i) := fun i => by
    unfold regM
    rw [if_neg (by omega)]
  constructor
  · intro h
    refine ⟨rfl, fun i h1 h2 => ?_⟩
    have h3 := h (i - L) (by omega)
    rw [e, e2, show L + (i - L) = i by omega] at h3
    rw [dis_regC, h3, UInt8.xor_self]
  · intro h i hi
    have h3 := h.run (L + i) (by omega) (by omega)
    rw [dis_regC] at h3
    rw [e, e2]
    exact (xor_eq_zero _ _ h3).symm
theorem run_sol {s c : Nat → UInt8} {n L : Nat} (h : Run s n c L) : Sol (regM s L) (n - L) L (fun j => c (j + 1)) := by
  refine (sol_run s n L _).2 ⟨rfl, fun i h1 h2 => ?_⟩
  have h3 := h.run i h1 h2
  rw [← h3]
  unfold dis
  refine sm_congr fun j hj => ?_
  unfold regC
  by_cases e : j = 0
  · subst e
    rw [if_pos rfl, h.one]
  · rw [if_neg e]
    show gm (c (j - 1 + 1)) _ = _
    rw [show j - 1 + 1 = j by omega]
/-- row a times a number, up to a column -/
def sclAt (m : Nat → Nat → UInt8) (a : Nat) (y : UInt8) (b : Nat) (i j : Nat) : UInt8 := if i = a ∧ j < b then gm (m a j) y else m i j
theorem sclAt_zero (m : Nat → Nat → UInt8) (a : Nat) (y : UInt8) (i j : Nat) : sclAt m a y 0 i j = m i j := if_neg (by omega)
theorem sclAt_full (m : Nat → Nat → UInt8) (a : Nat) (y : UInt8) (N i j : Nat) (h : j < N) : sclAt m a y N i j = scl m a y i j := by
  unfold sclAt scl
  by_cases e : i = a
  · rw [if_pos ⟨e, h⟩, if_pos e]
  · rw [if_neg (fun h => e h.1), if_neg e]
theorem sclAt_here (m : Nat → Nat → UInt8) (a : Nat) (y : UInt8) (b : Nat) : sclAt m a y b a b = m a b := if_neg (by omega)
theorem sclAt_step (m : Nat → Nat → UInt8) (a : Nat) (y : UInt8) (b i j : Nat) : put2 (sclAt m a y b) a b (gm (m a b) y) i j = sclAt m a y (b + 1) i j := by
  unfold put2 sclAt
  by_cases e : i = a ∧ j = b
  · rw [if_pos e, if_pos ⟨e.1, by omega⟩, e.2]
  · rw [if_neg e]
    by_cases e2 : i = a ∧ j < b
    · rw [if_pos e2, if_pos ⟨e2.1, by omega⟩]
    · rw [if_neg e2, if_neg (fun h => by
        rcases Nat.lt_or_ge j b with h1 | h1
        · exact e2 ⟨h.1, h1⟩
        · exact e ⟨h.1, by omega⟩)]
/-- row i and row a times a number, up to a column -/
def addAt (m : Nat → Nat → UInt8) (a r : Nat) (f : UInt8) (b : Nat) (i j : Nat) : UInt8 := if i = r ∧ j < b then m r j ^^^ gm f (m a j) else m i j
theorem addAt_zero (m : Nat → Nat → UInt8) (a r : Nat) (f : UInt8) (i j : Nat) : addAt m a r f 0 i j = m i j := if_neg (by omega)
theorem addAt_here (m : Nat → Nat → UInt8) (a r : Nat) (f : UInt8) (b : Nat) : addAt m a r f b r b = m r b := if_neg (by omega)
theorem addAt_other (m : Nat → Nat → UInt8) (a r : Nat) (f : UInt8) (b j : Nat) (h : a ≠ r) : addAt m a r f b a j = m a j := if_neg fun e => h e.1
theorem addAt_step (m : Nat → Nat → UInt8) (a r : Nat) (f : UInt8) (b i j : Nat) : put2 (addAt m a r f b) r b (m r b ^^^ gm f (m a b)) i j = addAt m a r f (b + 1) i j := by
  unfold put2 addAt
  by_cases e : i = r ∧ j = b
  · rw [if_pos e, if_pos ⟨e.1, by omega⟩, e.2]
  · rw [if_neg e]
    by_cases e2 : i = r ∧ j < b
    · rw [if_pos e2, if_pos ⟨e2.1, by omega⟩]
    · rw [if_neg e2, if_neg (fun h => by
        rcases Nat.lt_or_ge j b with h1 | h1
        · exact e2 ⟨h.1, h1⟩
        · exact e ⟨h.1, by omega⟩)]
theorem clr_zero (m : Nat → Nat → UInt8) (a c i j : Nat) : clr m a c 0 i j = m i j := if_pos (.inr (Nat.zero_le _))
theorem clr_here (m : Nat → Nat → UInt8) (a c i j : Nat) : clr m a c i i j = m i j := if_pos (.inr (Nat.le_refl _))
theorem clr_lead (m : Nat → Nat → UInt8) (a c r j : Nat) : clr m a c r a j = m a j := if_pos (.inl rfl)
/-- nothing is to be done in this row -/
theorem clr_skip (m : Nat → Nat → UInt8) (a c r i j : Nat) (h : r = a ∨ m r c = 0) : clr m a c (r + 1) i j = clr m a c r i j := by
  unfold clr
  by_cases e : i = a
  · rw [if_pos (.inl e), if_pos (.inl e)]
  · by_cases e2 : r + 1 ≤ i
    · rw [if_pos (.inr e2), if_pos (.inr (by omega))]
    · rw [if_neg (by omega)]
      by_cases e3 : r ≤ i
      · rw [if_pos (.inr e3)]
        obtain rfl : i = r := by omega
        rcases h with h | h
        · exact absurd h e
        · rw [h, zero_gm, UInt8.xor_zero]
      · rw [if_neg (by omega)]
/-- a row is done -/
theorem clr_row (m : Nat → Nat → UInt8) (a c r N i j : Nat) (h : r ≠ a) (hj : j < N) : addAt (clr m a c r) a r (m r c) N i j = clr m a c (r + 1) i j := by
  unfold addAt
  by_cases e : i = r
  · subst e
    rw [if_pos ⟨rfl, hj⟩, clr_here, clr_lead]
    unfold clr
    rw [if_neg (by omega)]
  · rw [if_neg (fun h => e h.1)]
    unfold clr
    by_cases e2 : i = a ∨ r ≤ i
    · rw [if_pos e2, if_pos (by omega)]
    · rw [if_neg e2, if_neg (by omega)]
end Gf
end Go.Proofs.YtgchfijeiggimaaDoor
namespace Go.Proofs.YtgchfijeiggimaaDoor
open Go.RowKit
set_option linter.unusedVariables false
set_option linter.unusedSimpArgs false
theorem info_row : (Tryd.prog.info? 22).map (fun i => (i.zero, i.size, i.bytes)) = some (some (.slice none 0 0), 1, 24) := by kernel_rfl
theorem own_bufM {w : World} {base n : Nat} {v : Value} {z : List UInt8} (h : w.ownsRow base 5 1 v n (bytesV z)) (h0 : 0 < n) (hn : n = z.length) : ∃ g cap, v = .slice (some ⟨g, 0, none⟩) z.length cap ∧ base ≤ g ∧ Buf w g cap z := by
  subst hn
  rcases h.2 with ⟨_, h1⟩ | ⟨g, cap, cur, rfl, hg, _⟩
  · omega
  · exact ⟨g, cap, rfl, hg, World.ownsRow.mono h (Nat.zero_le _)⟩
/-- rows that are only read -/
structure RIn (W : World) (gI N R : Nat) (m : Nat → Nat → UInt8) : Prop where
  lt : gI < W.heap.size
  row : ∀ i, i < R → ∃ o c, W.cell? ⟨gI, i, none⟩ = some (.slice o N c) ∧ RowIs W o (bytesV (tab (m i) N)) c
theorem RIn.later {W W' : World} {gI N R : Nat} {m : Nat → Nat → UInt8} (h : RIn W gI N R m) (hb : Below W.heap.size W W') : RIn W' gI N R m :=
  ⟨Nat.lt_of_lt_of_le h.lt hb.size, fun i hi => by
    obtain ⟨o, c, h1, h2⟩ := h.row i hi
    exact ⟨o, c, (hb.cell (p := ⟨gI, i, none⟩) h.lt).trans h1, h2.later hb⟩⟩
theorem append_hdr {ops : Array Oper} {rest : List Oper} {o : Oper} {a : Act} {Q : Exit → Act → World → Prop} {w : World} (hgd : o.guard = none) (s x : Operand)
    (ho : o.op = .call { callee := .builtin .append, args := #[s, x], argTypes := #[79, 79] })
    (base : Nat) (v : Value) (n : Nat) (z : List Value) (hs : a.eval s = v) (hown : w.ownsRow base 22 1 v n z)
    (g : Nat) (p : Option Addr) (l c : Nat) (hx : a.eval x = .slice (some ⟨g, 0, none⟩) 1 1) (hg : w.cell? ⟨g, 0, none⟩ = some (.slice p l c)) (hl : n ≤ 1000000) (hbase : base ≤ w.heap.size)
    (h : ∀ v' w', w'.ownsRow base 22 1 v' (n + 1) (z ++ [.slice p l c]) → w.grownBy w' v.ownBlock → wpList Tryd.prog ops Q rest (a.put o.dst v') w') : wpList Tryd.prog ops Q (o :: rest) a w := by
  obtain ⟨i0, hi, hz0, hz1, hz2⟩ := info_parts info_row
  refine wpList_append_own_wide w hgd s x 79 ho base 22 i0 (.slice none 0 0) 1 24 Tryd.underlying79 hi hz0 hz1 hz2 rfl (by decide) v n z hs hown ⟨g, 0, none⟩ 1 1 [.slice p l c] hx (by simp) (fun j u hj => ?_) (fun u hu => ?_) (by unfold maxLen; omega) (by omega) hbase ?_
  · have h1 := (List.getElem?_eq_some_iff.1 hj).1
    simp at h1
    subst h1
    simp at hj
    subst hj
    exact hg
  · simp at hu
    subst hu
    rfl
  · intro v' w' h1 h2 _
    exact h v' w' h1 h2
/-- the rows that have been copied so far -/
def Cpy (W : World) (B N k : Nat) (v : Value) (m : Nat → Nat → UInt8) : Prop := ∃ gO capO Gb Gc, v = .slice (some ⟨gO, 0, none⟩) k capO ∧ Mat W B gO capO N k Gb Gc m
theorem Cpy.later {W W' : World} {B N k : Nat} {v : Value} {m : Nat → Nat → UInt8} (h : Cpy W B N k v m) (hb : Below W.heap.size W W') : Cpy W' B N k v m := by
  obtain ⟨gO, capO, Gb, Gc, e, h⟩ := h
  exact ⟨gO, capO, Gb, Gc, e, h.later hb⟩
theorem Cpy.start (W : World) (B N : Nat) (m : Nat → Nat → UInt8) (hB : B ≤ W.heap.size) : Cpy (W.alloc (.cells #[] 22)) B N 0 (.slice (some ⟨W.heap.size, 0, none⟩) 0 0) m :=
  ⟨W.heap.size, 0, fun _ => 0, fun _ => 0, rfl, World.ownsRow_lit W #[] 0 hB (Nat.zero_le _) rfl, fun i hi => absurd hi (by omega), fun i j hi => absurd hi (by omega)⟩
/-- a row more: row k in a new block g, behind the append of its header -/
theorem Cpy.add {W W' : World} {B N k gO capO : Nat} {Gb Gc : Nat → Nat} {v' : Value} {m : Nat → Nat → UInt8} (h : Mat W B gO capO N k Gb Gc m) (g cap : Nat) (hg : B ≤ g) (hrow : Buf W g cap (tab (m k) N)) (hn : ∀ i, i < k → Gb i ≠ g)
    (h1 : W'.ownsRow B 22 1 v' (k + 1) (((List.range k).map fun i => (.slice (some ⟨Gb i, 0, none⟩) N (Gc i) : Value)) ++ [.slice (some ⟨g, 0, none⟩) N cap])) (hgr : W.grownBy W' (some gO)) : Cpy W' B N (k + 1) v' m := by
  have e : ((List.range k).map fun i => (.slice (some ⟨Gb i, 0, none⟩) N (Gc i) : Value)) ++ [.slice (some ⟨g, 0, none⟩) N cap] = (List.range (k + 1)).map fun i => (.slice (some ⟨if i = k then g else Gb i, 0, none⟩) N (if i = k then cap else Gc i) : Value) := by
    rw [List.range_succ, List.map_append, List.map_cons, List.map_nil, if_pos rfl, if_pos rfl]
    congr 1
    refine List.map_congr_left fun i hi => ?_
    have hi := List.mem_range.1 hi
    rw [if_neg (by omega), if_neg (by omega)]
  rw [e] at h1
  obtain ⟨cur, hcur⟩ := h.outCells
  have hne : ∀ g' cap' ys, Buf W g' cap' ys → gO ≠ g' := fun g' cap' ys hb e => by
    obtain ⟨cur2, h2⟩ := hb.cells
    rw [← e, hcur] at h2
    cases h2
  have hkeep : ∀ g' cap' ys, Buf W g' cap' ys → Buf W' g' cap' ys := fun g' cap' ys hb => World.ownsRow.kept hb hgr (.inr fun e => hne g' cap' ys hb (Option.some.inj (show some g' = some gO from e)).symm)
  rcases h1.2 with ⟨h2, h3⟩ | ⟨gO', cap', cur', rfl, _⟩
  · omega
  refine ⟨gO', cap', fun i => if i = k then g else Gb i, fun i => if i = k then cap else Gc i, rfl, h1, fun i hi => ?_, fun i j hi hj e => ?_⟩
  · by_cases e : i = k
    · subst e
      simp only [if_pos]
      exact ⟨hkeep _ _ _ hrow, hg⟩
    · simp only [if_neg e]
      have := h.row i (by omega)
      exact ⟨hkeep _ _ _ this.1, this.2⟩
  · by_cases e1 : i = k
    · by_cases e2 : j = k
      · omega
      · simp only [if_pos e1, if_neg e2] at e
        exact absurd e.symm (hn j (by omega))
    · by_cases e2 : j = k
      · simp only [if_neg e1, if_pos e2] at e
        exact absurd e (hn i (by omega))
      · simp only [if_neg e1, if_neg e2] at e
        exact h.apart i j (by omega) (by omega) e
/-- the rows, and the leading columns -/
structure SoS (W : World) (B gO capO N R : Nat) (Gb Gc : Nat → Nat) (m : Nat → Nat → UInt8) (v : Value) (lead : List Nat) : Prop where
  mat : Mat W B gO capO N R Gb Gc m
  hl : W.ownsRow B 3 1 v lead.length (intsV (lead.map fun c : Nat => (c : Int)))
theorem own_kindI {W : World} {B : Nat} {v : Value} {n : Nat} {xs : List Value} (h : W.ownsRow B 3 1 v n xs) (g : Nat) (e : TypeId) (he : e ≠ 3) (hg : ∃ cur, W.heap[g]? = some (.cells cur e (0, 0))) : v.ownBlock ≠ some g := fun h0 => by
  obtain ⟨cur, hg⟩ := hg
  rcases h.2 with ⟨rfl, _⟩ | ⟨g', cap, cur', rfl, _, h2, _⟩
  · cases h0
  · have : g' = g := Option.some.inj (show some g' = some g from h0)
    rw [this, hg] at h2
    cases h2
    exact he rfl
theorem SoS.later {W W' : World} {B gO capO N R : Nat} {Gb Gc : Nat → Nat} {m : Nat → Nat → UInt8} {v : Value} {lead : List Nat} (h : SoS W B gO capO N R Gb Gc m v lead) (hb : Below W.heap.size W W') : SoS W' B gO capO N R Gb Gc m v lead :=
  ⟨h.mat.later hb, World.ownsRow.kept (row := none) h.hl ⟨hb.os, hb.tape, hb.output, hb.size, fun i hi _ => hb.block i hi⟩ (by
    rcases h.hl.2 with ⟨e, _⟩ | ⟨g, cap, cur, e, _⟩
    · exact .inl (by rw [e]; rfl)
    · exact .inr (by rw [e]; simp [Value.ownBlock]))⟩
theorem SoS.congr {W : World} {B gO capO N R : Nat} {Gb Gc : Nat → Nat} {m m' : Nat → Nat → UInt8} {v : Value} {lead : List Nat} (h : SoS W B gO capO N R Gb Gc m v lead) (he : ∀ i j, i < R → j < N → m i j = m' i j) : SoS W B gO capO N R Gb Gc m' v lead := ⟨h.mat.congr he, h.hl⟩
theorem SoS.store {W : World} {B gO capO N R : Nat} {Gb Gc : Nat → Nat} {m : Nat → Nat → UInt8} {v : Value} {lead : List Nat} (h : SoS W B gO capO N R Gb Gc m v lead) (i j : Nat) (hi : i < R) (hj : j < N) (x : UInt8) :
    SoS (W.setCell ⟨Gb i, j, none⟩ (.int .u8 (x.toNat : Int))) B gO capO N R Gb Gc (put2 m i j x) v lead ∧ Below B W (W.setCell ⟨Gb i, j, none⟩ (.int .u8 (x.toNat : Int))) := by
  have hs := h.mat.store i j hi hj x
  have hr := h.mat.row i hi
  exact ⟨⟨hs.1, World.ownsRow.kept h.hl hs.2 (.inr (own_kindI h.hl _ 5 (by decide) hr.1.cells))⟩, hs.2.below hr.2 (Nat.le_trans h.mat.lt.1 (Nat.le_of_lt h.mat.lt.2))⟩
theorem SoS.swap {W : World} {B gO capO N R : Nat} {Gb Gc : Nat → Nat} {m : Nat → Nat → UInt8} {v : Value} {lead : List Nat} (h : SoS W B gO capO N R Gb Gc m v lead) (a k : Nat) (ha : a < R) (hk : k < R) :
    SoS ((W.setCell ⟨gO, a, none⟩ (.slice (some ⟨Gb k, 0, none⟩) N (Gc k))).setCell ⟨gO, k, none⟩ (.slice (some ⟨Gb a, 0, none⟩) N (Gc a))) B gO capO N R (fun i => Gb (trn a k i)) (fun i => Gc (trn a k i)) (Gf.swp m a k) v lead ∧
      Below B W ((W.setCell ⟨gO, a, none⟩ (.slice (some ⟨Gb k, 0, none⟩) N (Gc k))).setCell ⟨gO, k, none⟩ (.slice (some ⟨Gb a, 0, none⟩) N (Gc a))) := by
  have hs := h.mat.swap a k ha hk
  exact ⟨⟨hs.1, World.ownsRow.kept h.hl hs.2 (.inr (own_kindI h.hl _ 22 (by decide) h.mat.outCells))⟩, hs.2.below h.mat.lt.1 (Nat.le_trans h.mat.lt.1 (Nat.le_of_lt h.mat.lt.2))⟩
theorem SoS.push {W W' : World} {B gO capO N R : Nat} {Gb Gc : Nat → Nat} {m : Nat → Nat → UInt8} {v v' : Value} {lead : List Nat} (h : SoS W B gO capO N R Gb Gc m v lead) (c : Nat) (hown : W'.ownsRow B 3 1 v' (lead.length + 1) (intsV ((lead.map fun c : Nat => (c : Int)) ++ [(c : Int)]))) (hgr : W.grownBy W' v.ownBlock) :
    SoS W' B gO capO N R Gb Gc m v' (lead ++ [c]) := by
  have hk : ∀ g e, e ≠ 3 → (∃ cur, W.heap[g]? = some (.cells cur e (0, 0))) → v.ownBlock ≠ some g := fun g e he hg => own_kindI h.hl g e he hg
  refine ⟨⟨World.ownsRow.kept h.mat.outer hgr (.inr fun e => hk gO 22 (by decide) h.mat.outCells e.symm), fun i hi => ⟨World.ownsRow.kept (h.mat.row i hi).1 hgr (.inr fun e => hk (Gb i) 5 (by decide) (h.mat.row i hi).1.cells e.symm), (h.mat.row i hi).2⟩, h.mat.apart⟩, ?_⟩
  rw [List.length_append, List.map_append]
  exact hown
theorem rinv_u8 (a : UInt8) (h : a ≠ 0) : ∃ y : UInt8, Gf.gm a y = 1 ∧ ∀ w, Calls Tryd.prog 17 #[.int .u8 (a.toNat : Int)] w fun e w' => e = .returned (.int .u8 (y.toNat : Int)) ∧ w' = w := by
  have hy : (UInt8.ofNat (Gf.inv a.toNat)).toNat = Gf.inv a.toNat := by
    have := Gf.inv_lt a.toNat
    rw [UInt8.toNat_ofNat']
    omega
  have h0 : a.toNat ≠ 0 := fun e => h (Gf.u8_ext e)
  refine ⟨UInt8.ofNat (Gf.inv a.toNat), Gf.u8_ext (by rw [Gf.gm_nat, hy, Gf.mul_inv _ h0 (UInt8.toNat_lt a)]; rfl), fun w => ?_⟩
  rw [hy]
  have c : ∀ w, Calls Tryd.prog 20 #[.int .u8 (a.toNat : Int), .int .i64 254] w fun e w' => e = .returned (.int .u8 (Gf.inv a.toNat : Nat)) ∧ w = w' := fun w => power_any a.toNat 254 (UInt8.toNat_lt a) (by omega) w
  have C := Lib.hid c
  clear c h0 hy
  have hal := UInt8.toNat_lt a
  go_enter Tryd.func17, Tryd.ntmps17
  go_wp2_with fail
  refine (C.out _).mono ?_; rintro e w' ⟨rfl, rfl⟩
  go_wp2_with fail
  go_ret
  exact ⟨rfl, rfl⟩
end Go.Proofs.YtgchfijeiggimaaDoor
