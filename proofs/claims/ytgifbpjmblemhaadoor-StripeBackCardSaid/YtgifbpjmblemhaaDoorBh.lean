/- Blocks that are hit, in memory. -/
import Derived.Test.YtgifbpjmblemhaaDoorBe
import Derived.Test.YtgifbpjmblemhaaDoorBc
import Derived.Test.YtgifbpjmblemhaaDoorRbd
import Derived.Test.YtgifbpjmblemhaaDoorLph
import Derived.Test.YtgifbpjmblemhaaDoorOh
namespace Go.Proofs.YtgifbpjmblemhaaDoor
open Go.RowKit
set_option linter.unusedVariables false
set_option linter.unusedSimpArgs false
/-- a block of n cells -/
def HRow (W : World) (g n : Nat) (T : TypeId) (f : Nat → Value) : Prop := W.heap[g]? = some (.cells ((List.range n).map f).toArray T (0, 0))
theorem HRow.cell {W : World} {g n : Nat} {T : TypeId} {f : Nat → Value} (h : HRow W g n T f) (i : Nat) (hi : i < n) : W.cell? ⟨g, i, none⟩ = some (f i) := by
  rw [cell_of_row _ _ i _ _ _ h]
  simp [hi]
theorem HRow.frozen {W : World} {g n : Nat} {T : TypeId} {f : Nat → Value} (h : HRow W g n T f) (i : Nat) : W.frozen? ⟨g, i, none⟩ = false := by
  unfold World.frozen?; rw [show W.heap[g]? = _ from h]; rfl
theorem HRow.lt {W : World} {g n : Nat} {T : TypeId} {f : Nat → Value} (h : HRow W g n T f) : g < W.heap.size := (Array.getElem?_eq_some_iff.1 h).1
theorem HRow.later {W W' : World} {g n : Nat} {T : TypeId} {f : Nat → Value} (h : HRow W g n T f) (hb : Below W.heap.size W W') : HRow W' g n T f := by
  unfold HRow at *
  rw [hb.block g (Array.getElem?_eq_some_iff.1 h).1]; exact h
theorem HRow.cong {W : World} {g n : Nat} {T : TypeId} {f f' : Nat → Value} (h : HRow W g n T f) (e : ∀ i, i < n → f i = f' i) : HRow W g n T f' := by
  unfold HRow at *
  rw [h]
  congr 3
  exact List.map_congr_left fun i hi => e i (List.mem_range.1 hi)
theorem HRow.store {W : World} {g n : Nat} {T : TypeId} {f : Nat → Value} (h : HRow W g n T f) (i : Nat) (b : Value) : HRow (W.setCell ⟨g, i, none⟩ b) g n T (fun j => if j = i then b else f j) ∧ Only g W (W.setCell ⟨g, i, none⟩ b) := by
  have e1 := setCell_eq_setRow W g i _ _ _ b h
  have h1 := setRow_heap W g _ (((List.range n).map f).toArray.setIfInBounds i b) _ _ h
  rw [← e1] at h1
  refine ⟨?_, ?_⟩
  · unfold HRow
    rw [h1]
    congr 2
    apply Array.ext_getElem?
    intro k
    rw [Array.getElem?_setIfInBounds]
    by_cases hk : i = k
    · subst hk
      by_cases hn : i < n
      · simp [hn]
      · simp [hn]
    · rw [if_neg hk]
      by_cases hn : k < n
      · simp [hn]
        exact fun h => absurd h.symm hk
      · simp [hn]
  · rw [e1]
    exact ⟨rfl, rfl, rfl, by simp [World.setRow], fun k hk hn => setRow_other W g k _ (fun e => hn (by rw [e]))⟩
/-- another block's change leaves it -/
theorem HRow.only {W W' : World} {g n k : Nat} {T : TypeId} {f : Nat → Value} (h : HRow W g n T f) (hb : Only k W W') (hne : g ≠ k) : HRow W' g n T f := by
  unfold HRow at *
  rw [World.grownBy.block hb g (Array.getElem?_eq_some_iff.1 h).1 (fun e => hne (by cases e; rfl))]; exact h
theorem hrow_rep (w : World) (n : Nat) (T : TypeId) (v : Value) : HRow (w.alloc (.cells (Array.replicate n v) T)) w.heap.size n T (fun _ => v) := by
  have h := World.alloc_heap_new w (.cells (Array.replicate n v) T)
  unfold HRow
  rw [h]
  congr 2
  apply Array.ext
  · simp
  · intro i h1 h2
    simp
/-- the blocks: a head that is nil or a row of eight bytes of its own -/
structure BtM (W : World) (base gO capO N : Nat) (Gb Gc : Nat → Nat) (m : Nat → List UInt8) (e : Nat → Bool) : Prop where
  outer : W.ownsRow base 22 1 (.slice (some ⟨gO, 0, none⟩) N capO) N ((List.range N).map fun i => if e i then .slice none 0 0 else .slice (some ⟨Gb i, 0, none⟩) 8 (Gc i))
  row : ∀ i, i < N → Buf W (Gb i) (Gc i) (m i) ∧ base ≤ Gb i ∧ (m i).length = 8
  apart : ∀ i j, i < N → j < N → Gb i = Gb j → i = j
/-- the blocks that it holds -/
def btL (m : Nat → List UInt8) (e : Nat → Bool) (N : Nat) : List (List UInt8) := (List.range N).map fun i => if e i then [] else m i
theorem btL_length (m : Nat → List UInt8) (e : Nat → Bool) (N : Nat) : (btL m e N).length = N := by simp [btL]
theorem bi_btL (m : Nat → List UInt8) (e : Nat → Bool) (N i : Nat) (h : i < N) : bi (btL m e N) i = if e i then [] else m i := bi_map _ _ _ h
variable {W W' : World} {base gO capO N : Nat} {Gb Gc : Nat → Nat} {m : Nat → List UInt8} {e : Nat → Bool}
theorem BtM.outLt (h : BtM W base gO capO N Gb Gc m e) : base ≤ gO ∧ gO < W.heap.size := World.ownsRow.lt h.outer gO rfl
theorem BtM.outCells (h : BtM W base gO capO N Gb Gc m e) : ∃ cur, W.heap[gO]? = some (.cells cur 22 (0, 0)) := by
  rcases h.outer.2 with ⟨h1, _⟩ | ⟨g, cap, cur, h1, _, h2, _⟩
  · cases h1
  · cases h1
    exact ⟨cur, h2⟩
theorem BtM.ne (h : BtM W base gO capO N Gb Gc m e) (i : Nat) (hi : i < N) : gO ≠ Gb i := fun q => by
  obtain ⟨cur, h1⟩ := h.outCells
  obtain ⟨cur2, h2⟩ := (h.row i hi).1.cells
  rw [← q, h1] at h2
  cases h2
theorem BtM.later (h : BtM W base gO capO N Gb Gc m e) (hb : Below W.heap.size W W') : BtM W' base gO capO N Gb Gc m e :=
  ⟨World.ownsRow.kept (row := none) h.outer ⟨hb.os, hb.tape, hb.output, hb.size, fun i hi _ => hb.block i hi⟩ (.inr (by simp [Value.ownBlock])), fun i hi => ⟨(h.row i hi).1.later hb, (h.row i hi).2⟩, h.apart⟩
/-- a change of a block of another type leaves it -/
theorem BtM.only (h : BtM W base gO capO N Gb Gc m e) {k : Nat} (ho : Only k W W') {C : Array Value} {T : TypeId} {f : Nat × Nat} (hk : W.heap[k]? = some (.cells C T f)) (h1 : T ≠ 22) (h2 : T ≠ 5) : BtM W' base gO capO N Gb Gc m e :=
  ⟨World.ownsRow.kept h.outer ho (.inr fun q => by
    obtain ⟨cur, hc⟩ := h.outCells
    cases q
    rw [hk] at hc
    cases hc
    exact h1 rfl), fun i hi => ⟨World.ownsRow.kept (h.row i hi).1 ho (.inr fun q => by
    obtain ⟨cur, hc⟩ := (h.row i hi).1.cells
    cases q
    rw [hk] at hc
    cases hc
    exact h2 rfl), (h.row i hi).2⟩, h.apart⟩
theorem BtM.hdr (h : BtM W base gO capO N Gb Gc m e) (i : Nat) (hi : i < N) : W.cell? ⟨gO, i, none⟩ = some (if e i then .slice none 0 0 else .slice (some ⟨Gb i, 0, none⟩) 8 (Gc i)) := by
  obtain ⟨o, c, q, hr⟩ := owns_is h.outer (by simp)
  cases q
  obtain ⟨b, off, q2, _, hc⟩ := hr.cells (by simp; omega)
  cases q2
  have := hc i (if e i then .slice none 0 0 else .slice (some ⟨Gb i, 0, none⟩) 8 (Gc i)) (by simp [hi])
  simpa using this
theorem BtM.hdrFrozen (h : BtM W base gO capO N Gb Gc m e) (i : Nat) : W.frozen? ⟨gO, i, none⟩ = false := World.ownsRow.frozenAt h.outer i
theorem BtM.kill (h : BtM W base gO capO N Gb Gc m e) (p : Nat) (hp : p < N) : BtM (W.setCell ⟨gO, p, none⟩ (.slice none 0 0)) base gO capO N Gb Gc m (fun i => if i = p then true else e i) ∧ Only gO W (W.setCell ⟨gO, p, none⟩ (.slice none 0 0)) := by
  have hs := World.ownsRow.stored h.outer p (.slice none 0 0)
  refine ⟨⟨?_, fun i hi => ⟨World.ownsRow.kept (h.row i hi).1 hs.2 (.inr fun q => h.ne i hi (by cases q; rfl)), (h.row i hi).2⟩, h.apart⟩, hs.2⟩
  have e2 : ((List.range N).map fun i => (if e i then .slice none 0 0 else .slice (some ⟨Gb i, 0, none⟩) 8 (Gc i) : Value)).set p (.slice none 0 0) = (List.range N).map fun i => (if (if i = p then true else e i) then .slice none 0 0 else .slice (some ⟨Gb i, 0, none⟩) 8 (Gc i) : Value) := by
    refine List.ext_getElem (by simp) fun i h1 h2 => ?_
    simp only [List.getElem_set, List.getElem_map, List.getElem_range]
    by_cases q : p = i
    · subst q
      simp
    · rw [if_neg q, if_neg (show ¬ i = p from fun x => q x.symm)]
  rw [← e2]
  exact hs.1
theorem BtM.put (h : BtM W base gO capO N Gb Gc m e) (p j : Nat) (hp : p < N) (x : UInt8) : BtM (W.setCell ⟨Gb p, j, none⟩ (.int .u8 (x.toNat : Int))) base gO capO N Gb Gc (fun i => if i = p then (m p).set j x else m i) e ∧ Only (Gb p) W (W.setCell ⟨Gb p, j, none⟩ (.int .u8 (x.toNat : Int))) := by
  have hs := (h.row p hp).1.store j x
  refine ⟨⟨World.ownsRow.kept h.outer hs.2 (.inr fun q => h.ne p hp (by cases q; rfl)), fun i hi => ?_, h.apart⟩, hs.2⟩
  by_cases q : i = p
  · subst q
    rw [if_pos rfl]
    exact ⟨hs.1, (h.row i hi).2.1, by rw [List.length_set]; exact (h.row i hi).2.2⟩
  · rw [if_neg q]
    exact ⟨World.ownsRow.kept (h.row i hi).1 hs.2 (.inr fun x => q (h.apart i p hi hp (Option.some.inj x))), (h.row i hi).2⟩
theorem BtM.rbv (h : BtM W base gO capO N Gb Gc m e) : RbV (btL m e N) (.slice (some ⟨gO, 0, none⟩) N capO) W := by
  obtain ⟨o, c, q, hr⟩ := owns_is h.outer (by simp)
  cases q
  refine ⟨_, _, by rw [btL_length], _, hr, ⟨by simp [btL], fun i x hx => ?_⟩⟩
  have hi : i < N := by
    have := (List.getElem?_eq_some_iff.1 hx).1
    simpa using this
  rw [bi_btL _ _ _ _ hi]
  simp [hi] at hx
  subst hx
  by_cases q : e i = true
  · rw [if_pos q, if_pos q]
    exact ⟨none, 0, rfl, ⟨by simp, by simp, fun _ => rfl, fun h => by simp at h⟩⟩
  · rw [if_neg q, if_neg q]
    exact ⟨_, _, by rw [(h.row i hi).2.2], (h.row i hi).1.row⟩
/-- the blocks while they are laid -/
structure BtB (W : World) (base k : Nat) (v : Value) (Gb Gc : Nat → Nat) (B : List (List UInt8)) : Prop where
  outer : W.ownsRow base 22 1 v k ((List.range k).map fun i => .slice (some ⟨Gb i, 0, none⟩) 8 (Gc i))
  row : ∀ i, i < k → Buf W (Gb i) (Gc i) (bi B i) ∧ base ≤ Gb i
  apart : ∀ i j, i < k → j < k → Gb i = Gb j → i = j
theorem BtB.later {k : Nat} {v : Value} {B : List (List UInt8)} (h : BtB W base k v Gb Gc B) (hb : Below W.heap.size W W') : BtB W' base k v Gb Gc B :=
  ⟨owns_laterB h.outer hb, fun i hi => ⟨(h.row i hi).1.later hb, (h.row i hi).2⟩, h.apart⟩
theorem BtB.grow {k g cap : Nat} {v v' : Value} {B : List (List UInt8)} {W5 W6 : World} (h : BtB W base k v Gb Gc B) (h5 : BtB W5 base k v Gb Gc B) (hbu : Buf W5 g cap (bi B k)) (hg : W.heap.size ≤ g) (hW : base ≤ W.heap.size)
    (hv : W6.ownsRow base 22 1 v' (k + 1) (((List.range k).map fun i => .slice (some ⟨Gb i, 0, none⟩) 8 (Gc i)) ++ [.slice (some ⟨g, 0, none⟩) 8 cap])) (hgr : W5.grownBy W6 v.ownBlock) :
    BtB W6 base (k + 1) v' (fun i => if i = k then g else Gb i) (fun i => if i = k then cap else Gc i) B := by
  refine ⟨?_, fun i hi => ?_, fun i j hi hj e => ?_⟩
  · have e : (List.range (k + 1)).map (fun i => (.slice (some ⟨if i = k then g else Gb i, 0, none⟩) 8 (if i = k then cap else Gc i) : Value)) = ((List.range k).map fun i => .slice (some ⟨Gb i, 0, none⟩) 8 (Gc i)) ++ [.slice (some ⟨g, 0, none⟩) 8 cap] := by
      rw [List.range_succ, List.map_append, List.map_singleton, if_pos rfl, if_pos rfl]
      congr 1
      refine List.map_congr_left fun i hi => ?_
      have := List.mem_range.1 hi
      rw [if_neg (by omega), if_neg (by omega)]
    rw [e]
    exact hv
  · by_cases q : i = k
    · subst q
      rw [if_pos rfl, if_pos rfl]
      exact ⟨World.ownsRow.kept hbu hgr (own_ne_of hbu h5.outer (by decide)), by omega⟩
    · rw [if_neg q, if_neg q]
      exact ⟨World.ownsRow.kept (h5.row i (by omega)).1 hgr (own_ne_of (h5.row i (by omega)).1 h5.outer (by decide)), (h5.row i (by omega)).2⟩
  · have hlt : ∀ i, i < k → Gb i < g := fun i hi => Nat.lt_of_lt_of_le (h.row i hi).1.lt hg
    by_cases q : i = k
    · by_cases q2 : j = k
      · omega
      · rw [if_pos q, if_neg q2] at e
        have := hlt j (by omega)
        omega
    · by_cases q2 : j = k
      · rw [if_neg q, if_pos q2] at e
        have := hlt i (by omega)
        omega
      · rw [if_neg q, if_neg q2] at e
        exact h.apart i j (by omega) (by omega) e
theorem BtB.mat {k : Nat} {v : Value} {B : List (List UInt8)} (h : BtB W base k v Gb Gc B) (h0 : 0 < k) (h8 : ∀ i, i < k → (bi B i).length = 8) : ∃ gO capO, v = .slice (some ⟨gO, 0, none⟩) k capO ∧ BtM W base gO capO k Gb Gc (bi B) (fun _ => false) := by
  have ho := h.outer
  rcases ho.2 with ⟨_, h1⟩ | ⟨g, cap, cur, rfl, _⟩
  · omega
  · exact ⟨g, cap, rfl, ⟨by simpa using ho, fun i hi => ⟨(h.row i hi).1, (h.row i hi).2, h8 i hi⟩, h.apart⟩⟩
set_option maxRecDepth 100000 in
theorem make_ints4 (N : Nat) (h : N ≤ 1000) (W : World) : (Instr.makeSlice 38 (.int .i64 (N : Int)) (.int .i64 (N : Int))).run Tryd.prog W = .ok (.slice (some ⟨W.heap.size, 0, none⟩) N N) (W.alloc (.cells (Array.replicate N (.int .i64 0)) 3)) := by
  have hi := info_int
  cases hh : Tryd.prog.info? 3 with
  | none => rw [hh] at hi; cases hi
  | some i =>
    rw [hh] at hi
    simp only [Option.map_some, Option.some.injEq, Prod.mk.injEq] at hi
    have := run_make (P := Tryd.prog) W 38 3 i (.int .i64 0) Tryd.underlying38 hh hi.1 .i64 .i64 (N : Int) (N : Int) (by omega) (by omega) (by rw [hi.2.2]; omega) (by omega)
    rw [this, hi.2.1]
    simp only [Int.toNat_natCast, Nat.mul_one]
    congr 3
    apply Array.ext
    · simp [madeCells]
    · intro k h1 h2
      simp [madeCells, Value.cells]
      rw [Nat.mod_one]; rfl
end Go.Proofs.YtgifbpjmblemhaaDoor
