/- A cell of a row, read in a drawn region that grows. -/
import Derived.Test.YtkkmgjjafbjnjaaRv
namespace Go.Proofs.Ytkkmgjjafbjnjaa
open Go.RowKit
set_option linter.unusedVariables false
set_option linter.unusedSimpArgs false
/-- the address of a cell that holds this byte -/
def CellV (y : UInt8) (x : Value) (v : World) : Prop := ∃ a, x = .pointer (some a) ∧ v.cell? a = some (.int .u8 (y.toNat : Int)) ∧ a.block < v.heap.size
theorem CellV.later {y : UInt8} {x : Value} {v v' : World} (h : CellV y x v) (hb : Below v.heap.size v v') : CellV y x v' := by
  obtain ⟨a, e, h, hl⟩ := h
  refine ⟨a, e, ?_, Nat.lt_of_lt_of_le hl hb.size⟩
  unfold World.cell? at *
  rw [hb.block _ hl]
  exact h
theorem RowV.cellAt {z : List UInt8} {x : Value} {v : World} (h : RowV z x v) (i : Nat) (hi : i < z.length) : ∃ a c, x = .slice (some a) z.length c ∧ CellV (co z i) (.pointer (some (a.add i))) v := by
  obtain ⟨o, c, rfl, h⟩ := h
  have h2 := h.adds
  obtain ⟨b, off, rfl, hb, hc⟩ := h.cells (by simp; omega)
  exact ⟨_, _, rfl, _, rfl, h2 _ rfl i _ (bytesV_get z i hi), by unfold Addr.add; split <;> exact hb⟩
theorem does_index {G : Nat → Value → World → Prop} {Q : Exit → Act → World → Prop} {i : Nat} {o : Oper} {b : Act} {v : World} {x y : Operand} {z : List UInt8} {n : Nat} (ho : o.op = .indexAddr 25 x y) (hx : RowV z (b.eval x) v) (hy : b.eval y = .int .i64 (n : Int)) (hn : n < z.length)
    (hG : ∀ p, CellV (co z n) p v → G i p v) : Rg.Does Try.prog G Q i o b v := by
  obtain ⟨a, c, e, hc⟩ := hx.cellAt n hn
  obtain ⟨i0, hi, hz0, hz1, hz2⟩ := info_parts info_u8
  refine Rg.does_pure (.pointer (some (a.add n))) ?_ (hG _ hc)
  have hu := Try.underlying25
  have hl : (0 : Int) ≤ (n : Int) ∧ (n : Int) < (z.length : Int) := by omega
  simp only [execOp, ho]
  rw [e, hy]
  have h1 : (Instr.indexAt 25 (.slice (some a) z.length c) (.int .i64 (n : Int))).run Try.prog v = .ok (.pointer (some (a.add n))) v := by
    simp [Instr.indexAt, asIntOf, underlying, hu, go_sem, sizeOf, hi, hl, hz1]
    rw [if_pos hn]
    show Result.ok (Value.pointer (some (a.add (n * 1)))) v = _
    rw [Nat.mul_one]
  simp [h1, Result.andThen]
theorem does_load {G : Nat → Value → World → Prop} {Q : Exit → Act → World → Prop} {i : Nat} {o : Oper} {b : Act} {v : World} {x : Operand} {y : UInt8} (ho : o.op = .load 5 x) (hx : CellV y (b.eval x) v)
    (hG : G i (.int .u8 (y.toNat : Int)) v) : Rg.Does Try.prog G Q i o b v := by
  obtain ⟨a, e, hc, hl⟩ := hx
  refine Rg.does_pure _ ?_ hG
  simp only [execOp, ho]
  rw [e]
  have hu := Try.underlying5
  go_simp
end Go.Proofs.Ytkkmgjjafbjnjaa
