/- The document's syndromes. -/
import Derived.Test.YtoefhhkemljjdaaDoorGf
import Derived.Test.YtoefhhkemljjdaaDoorRr
import Derived.Test.YtoefhhkemljjdaaDoorTm
import Derived.Test.YtoefhhkemljjdaaDoorFm
namespace Go.Proofs.YtoefhhkemljjdaaDoor
open Go.RowKit
set_option linter.unusedVariables false
set_option linter.unusedSimpArgs false
/-- a word's syndromes -/
def synL (z : List UInt8) : List UInt8 := tab (fun j => Gf.hv (Gf.al j) z) 32
@[simp] theorem synL_length (z : List UInt8) : (synL z).length = 32 := by simp [synL]
def zsyn : List UInt8 := List.replicate 32 0
theorem zero_syn (w : World) : Sem.run Tryd.prog (zeroValue 23) w = .ok (.agg (bytesV zsyn).toArray) w := by kernel_rfl
def SoAt (z : List UInt8) (w : World) (g g0 : Nat) (x i : Value) (wr : World) : Prop :=
  ∃ k : Nat, k ≤ 32 ∧ i = .int .i64 k ∧ x = .int .u8 ((Gf.al k).toNat : Int) ∧ (∃ ys : List UInt8, ys.length = 32 ∧ (∀ j, j < k → co ys j = Gf.hv (Gf.al j) z) ∧ wr.heap[g]? = some (.cells (bytesV ys).toArray 23 (0, 0))) ∧
    wr.heap[g0]? = some (.cells (bytesV zsyn).toArray 23 (0, 0)) ∧ Below w.heap.size w wr
def SiAt (z : List UInt8) (x : UInt8) (w : World) (v i : Value) (wr : World) : Prop :=
  ∃ k : Nat, k ≤ z.length ∧ i = .int .i64 k ∧ v = .int .u8 ((Gf.hv x (z.take k)).toNat : Int) ∧ wr = w
theorem one_cell (ys : List UInt8) : (bytesV ys).toArray.all (·.oneCell') = true := by
  rw [Array.all_eq_true_iff_forall_mem]
  intro x hx
  simp only [bytesV, List.mem_toArray, List.mem_map] at hx
  obtain ⟨b, _, rfl⟩ := hx
  rfl
theorem syn_info : (Tryd.prog.info? 23).map (·.size) = some 32 := by kernel_rfl
theorem syn_under : Tryd.prog.underlying 23 = some (.array 32 5) := by kernel_rfl
theorem syn_size {ys : List UInt8} (h : ys.length = 32) : (Tryd.prog.info? 23).map (·.size) = some (bytesV ys).toArray.size := by
  rw [syn_info]; simp [h]
theorem take_step (z : List UInt8) (k : Nat) (h : k < z.length) : z.take (k + 1) = z.take k ++ [co z k] := by
  rw [List.take_add_one, List.getElem?_eq_getElem h]
  simp [co, h]
theorem below_setRow {n g : Nat} {w : World} {cs : Array Value} (h : n ≤ g) : Below n w (w.setRow g cs) :=
  ⟨rfl, rfl, rfl, by simp [World.setRow], fun k hk => setRow_other w g k cs (by omega)⟩
theorem cells_set (ys : List UInt8) (i : Nat) (b : UInt8) : (bytesV ys).toArray.setIfInBounds i (.int .u8 (b.toNat : Int)) = (bytesV (ys.set i b)).toArray := by
  rw [← bytesV_set]
  simp
theorem dn_block {a b : World} (h : Kit.Dn a b) (k : Nat) : b.heap[k]? = a.heap[k]? := by
  obtain ⟨n, rfl⟩ := h
  rfl
end Go.Proofs.YtoefhhkemljjdaaDoor
