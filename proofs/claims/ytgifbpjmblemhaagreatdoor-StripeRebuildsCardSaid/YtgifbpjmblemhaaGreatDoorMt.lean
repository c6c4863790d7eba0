/- Matrices in memory: a row of rows, each in a block of its own; one number written. -/
import Derived.Test.YtgifbpjmblemhaaGreatDoorApw
import Derived.Deep.Onto
namespace Go.Proofs.YtgifbpjmblemhaaGreatDoor
open Go.RowKit
set_option linter.unusedVariables false
set_option linter.unusedSimpArgs false
/-- R rows of N numbers: the outer row in block gO, row i in block Gb i -/
structure Mat (W : World) (B gO capO N R : Nat) (Gb Gc : Nat → Nat) (m : Nat → Nat → UInt8) : Prop where
  outer : W.ownsRow B 24 1 (.slice (some ⟨gO, 0, none⟩) R capO) R ((List.range R).map fun i => .slice (some ⟨Gb i, 0, none⟩) N (Gc i))
  row : ∀ i, i < R → Buf W (Gb i) (Gc i) (tab (m i) N) ∧ B ≤ Gb i
  apart : ∀ i j, i < R → j < R → Gb i = Gb j → i = j
theorem Mat.lt {W : World} {B gO capO N R : Nat} {Gb Gc : Nat → Nat} {m : Nat → Nat → UInt8} (h : Mat W B gO capO N R Gb Gc m) : B ≤ gO ∧ gO < W.heap.size := World.ownsRow.lt h.outer gO rfl
theorem Mat.outCells {W : World} {B gO capO N R : Nat} {Gb Gc : Nat → Nat} {m : Nat → Nat → UInt8} (h : Mat W B gO capO N R Gb Gc m) : ∃ cur, W.heap[gO]? = some (.cells cur 24 (0, 0)) := by
  rcases h.outer.2 with ⟨h1, _⟩ | ⟨g, cap, cur, h1, _, h2, _⟩
  · cases h1
  · cases h1
    exact ⟨cur, h2⟩
theorem Mat.ne {W : World} {B gO capO N R : Nat} {Gb Gc : Nat → Nat} {m : Nat → Nat → UInt8} (h : Mat W B gO capO N R Gb Gc m) (i : Nat) (hi : i < R) : gO ≠ Gb i := fun e => by
  obtain ⟨cur, h1⟩ := h.outCells
  obtain ⟨cur2, h2⟩ := (h.row i hi).1.cells
  rw [← e, h1] at h2
  cases h2
theorem Mat.congr {W : World} {B gO capO N R : Nat} {Gb Gc : Nat → Nat} {m m' : Nat → Nat → UInt8} (h : Mat W B gO capO N R Gb Gc m) (he : ∀ i j, i < R → j < N → m i j = m' i j) : Mat W B gO capO N R Gb Gc m' :=
  ⟨h.outer, fun i hi => by
    have e : tab (m' i) N = tab (m i) N := list_ext (by simp) fun j hj => by
      simp at hj
      rw [co_tab _ _ _ hj, co_tab _ _ _ hj, he i j hi hj]
    rw [e]
    exact h.row i hi, h.apart⟩
theorem Mat.later {W W' : World} {B gO capO N R : Nat} {Gb Gc : Nat → Nat} {m : Nat → Nat → UInt8} (h : Mat W B gO capO N R Gb Gc m) (hb : Below W.heap.size W W') : Mat W' B gO capO N R Gb Gc m :=
  ⟨World.ownsRow.kept (row := none) h.outer ⟨hb.os, hb.tape, hb.output, hb.size, fun i hi _ => hb.block i hi⟩ (.inr (by simp [Value.ownBlock])), fun i hi => ⟨(h.row i hi).1.later hb, (h.row i hi).2⟩, h.apart⟩
theorem Mat.cell {W : World} {B gO capO N R : Nat} {Gb Gc : Nat → Nat} {m : Nat → Nat → UInt8} (h : Mat W B gO capO N R Gb Gc m) (i j : Nat) (hi : i < R) (hj : j < N) : W.cell? ⟨Gb i, j, none⟩ = some (.int .u8 ((m i j).toNat : Int)) := by
  have := (h.row i hi).1.cell j (by simpa using hj)
  rwa [co_tab _ _ _ hj] at this
theorem Mat.frozen {W : World} {B gO capO N R : Nat} {Gb Gc : Nat → Nat} {m : Nat → Nat → UInt8} (h : Mat W B gO capO N R Gb Gc m) (i j : Nat) (hi : i < R) : W.frozen? ⟨Gb i, j, none⟩ = false := (h.row i hi).1.frozen j
theorem Mat.hdr {W : World} {B gO capO N R : Nat} {Gb Gc : Nat → Nat} {m : Nat → Nat → UInt8} (h : Mat W B gO capO N R Gb Gc m) (i : Nat) (hi : i < R) : W.cell? ⟨gO, i, none⟩ = some (.slice (some ⟨Gb i, 0, none⟩) N (Gc i)) := by
  rw [World.ownsRow.cellAt h.outer i (by omega)]
  simp [hi]
theorem Mat.hdrFrozen {W : World} {B gO capO N R : Nat} {Gb Gc : Nat → Nat} {m : Nat → Nat → UInt8} (h : Mat W B gO capO N R Gb Gc m) (i : Nat) : W.frozen? ⟨gO, i, none⟩ = false := World.ownsRow.frozenAt h.outer i
theorem Mat.caps {W : World} {B gO capO N R : Nat} {Gb Gc : Nat → Nat} {m : Nat → Nat → UInt8} (h : Mat W B gO capO N R Gb Gc m) (i : Nat) (hi : i < R) : N ≤ Gc i ∧ Gc i ≤ maxLen := by
  have := (h.row i hi).1.le
  simpa using this
theorem Mat.cap {W : World} {B gO capO N R : Nat} {Gb Gc : Nat → Nat} {m : Nat → Nat → UInt8} (h : Mat W B gO capO N R Gb Gc m) : R ≤ capO ∧ capO ≤ maxLen := by
  rcases h.outer.2 with ⟨h1, _⟩ | ⟨g, cap, cur, h1, _, _, h2, h3, _⟩
  · cases h1
  · cases h1
    exact ⟨h2, h3⟩
/-- one number is written -/
def put2 (m : Nat → Nat → UInt8) (i j : Nat) (x : UInt8) (a b : Nat) : UInt8 := if a = i ∧ b = j then x else m a b
theorem Mat.store {W : World} {B gO capO N R : Nat} {Gb Gc : Nat → Nat} {m : Nat → Nat → UInt8} (h : Mat W B gO capO N R Gb Gc m) (i j : Nat) (hi : i < R) (hj : j < N) (x : UInt8) :
    Mat (W.setCell ⟨Gb i, j, none⟩ (.int .u8 (x.toNat : Int))) B gO capO N R Gb Gc (put2 m i j x) ∧ Only (Gb i) W (W.setCell ⟨Gb i, j, none⟩ (.int .u8 (x.toNat : Int))) := by
  have hs := (h.row i hi).1.store j x
  refine ⟨⟨World.ownsRow.kept h.outer hs.2 (.inr fun e => h.ne i hi (by cases e; rfl)), fun a ha => ?_, h.apart⟩, hs.2⟩
  by_cases e : a = i
  · subst e
    have e2 : tab (put2 m a j x a) N = (tab (m a) N).set j x := list_ext (by simp) fun b hb => by
      simp at hb
      rw [co_tab _ _ _ hb, co_set, co_tab _ _ _ hb]
      unfold put2
      by_cases e3 : j = b
      · subst e3
        rw [if_pos ⟨rfl, rfl⟩, if_pos ⟨rfl, by simpa using hb⟩]
      · rw [if_neg (fun h => e3 h.2.symm), if_neg (fun h => e3 h.1)]
    rw [e2]
    exact ⟨hs.1, (h.row a ha).2⟩
  · have e2 : tab (put2 m i j x a) N = tab (m a) N := list_ext (by simp) fun b hb => by
      simp at hb
      rw [co_tab _ _ _ hb, co_tab _ _ _ hb]
      unfold put2
      rw [if_neg (fun h => e h.1)]
    rw [e2]
    refine ⟨?_, (h.row a ha).2⟩
    exact World.ownsRow.kept (h.row a ha).1 hs.2 (.inr fun e3 => e (h.apart a i ha hi (Option.some.inj (show some (Gb a) = some (Gb i) from e3))))
end Go.Proofs.YtgifbpjmblemhaaGreatDoor
