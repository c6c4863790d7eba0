/- A block of cells that is one array or one struct: what it holds, cell for cell; stores of one cell, of many; by value. Words as the machine has them. -/
import Derived.Test.YtalilmnpobgffaaDoorSl
import Derived.Test.YtalilmnpobgffaaDoorHs
import Derived.Deep.MidRow
import Derived.Laws.Rows
import Derived.Laws.ResultCell
import Derived.BigRegion
import Derived.RangeFuncRecord
import Derived.Tactics
import Derived.Tactics2
namespace Go.Proofs.YtalilmnpobgffaaDoor
open Go.RowKit
set_option linter.unusedVariables false
/-- words as the machine has them -/
def u32V (z : List UInt32) : List Value := z.map fun x => .int .u32 (x.toNat : Int)
@[simp] theorem u32V_length (z : List UInt32) : (u32V z).length = z.length := by simp [u32V]
theorem u32V_get (z : List UInt32) (i : Nat) (h : i < z.length) : (u32V z)[i]? = some (.int .u32 ((Da.wi z i).toNat : Int)) := by
  simp [u32V, Da.wi, h]
theorem u32V_one (z : List UInt32) : ∀ u ∈ u32V z, u.oneCell' = true := by
  intro u hu
  obtain ⟨x, _, rfl⟩ := List.mem_map.1 hu
  rfl
theorem u32V_set (z : List UInt32) (i : Nat) (x : UInt32) : (u32V z).set i (.int .u32 (x.toNat : Int)) = u32V (z.set i x) := by simp [u32V, List.map_set]
theorem bytesV_set' (z : List UInt8) (i : Nat) (x : UInt8) : (bytesV z).set i (.int .u8 (x.toNat : Int)) = bytesV (z.set i x) := by simp [bytesV, List.map_set]
theorem bytesV_app (a b : List UInt8) : bytesV (a ++ b) = bytesV a ++ bytesV b := by simp [bytesV]

/-- block b is the cells xs -/
def Arr (W : World) (b : Nat) (T : TypeId) (xs : List Value) : Prop := W.heap[b]? = some (.cells xs.toArray T (0, 0))
theorem Arr.lt {W : World} {b : Nat} {T : TypeId} {xs : List Value} (h : Arr W b T xs) : b < W.heap.size := (Array.getElem?_eq_some_iff.1 h).1
theorem Arr.cell {W : World} {b : Nat} {T : TypeId} {xs : List Value} (h : Arr W b T xs) (i : Nat) : W.cell? ⟨b, i, none⟩ = xs[i]? := by
  rw [cell_of_row W b i xs.toArray T (0, 0) h, List.getElem?_toArray]
theorem Arr.frozen {W : World} {b : Nat} {T : TypeId} {xs : List Value} (h : Arr W b T xs) (i : Nat) : W.frozen? ⟨b, i, none⟩ = false := by
  unfold World.frozen?
  rw [show W.heap[b]? = _ from h]
  rfl
theorem Arr.later {W W' : World} {B b : Nat} {T : TypeId} {xs : List Value} (h : Arr W b T xs) (hb : Below B W W') (hlt : b < B) : Arr W' b T xs := by
  unfold Arr
  rw [hb.block b hlt]
  exact h
theorem Arr.drew {W : World} {b : Nat} {T : TypeId} {xs : List Value} (h : Arr W b T xs) : Arr W.drew b T xs := h
theorem Arr.drewN {W : World} {b : Nat} {T : TypeId} {xs : List Value} (h : Arr W b T xs) (n : Nat) : Arr (W.drewN n) b T xs := h
theorem Arr.made (W : World) (T : TypeId) (xs : List Value) : Arr (W.alloc (.cells xs.toArray T)) W.heap.size T xs := World.alloc_heap_new _ _
theorem Arr.alloc {W : World} {b : Nat} {T : TypeId} {xs : List Value} (h : Arr W b T xs) (o : Obj) : Arr (W.alloc o) b T xs :=
  h.later ((Below.refl _ _).alloc (Nat.le_refl _) o) h.lt
theorem Arr.set {W : World} {b : Nat} {T : TypeId} {xs : List Value} (h : Arr W b T xs) (i : Nat) (v : Value) : Arr (W.setCell ⟨b, i, none⟩ v) b T (xs.set i v) := by
  unfold Arr
  rw [setCell_eq_setRow W b i _ _ _ v h, setRow_heap _ _ _ _ _ _ h]
  simp
theorem Arr.ne {W : World} {b c : Nat} {T U : TypeId} {xs ys : List Value} (h : Arr W b T xs) (k : Arr W c U ys) (hn : b ≠ c) (i : Nat) (v : Value) : Arr (W.setCell ⟨c, i, none⟩ v) b T xs := by
  unfold Arr
  rw [setCell_eq_setRow W c i _ _ _ v k, setRow_other _ _ _ _ hn]
  exact h
theorem below_row {n g : Nat} {w : World} {cs : Array Value} (h : n ≤ g) : Below n w (w.setRow g cs) :=
  ⟨rfl, rfl, rfl, by simp [World.setRow], fun k hk => setRow_other w g k cs (by omega)⟩
theorem Arr.below {w W : World} {B c : Nat} {U : TypeId} {ys : List Value} (k : Arr W c U ys) (hb : Below B w W) (hc : B ≤ c) (i : Nat) (v : Value) : Below B w (W.setCell ⟨c, i, none⟩ v) := by
  rw [setCell_eq_setRow W c i _ _ _ v k]
  exact hb.trans (below_row hc)
theorem Arr.size {W : World} {c : Nat} {U : TypeId} {ys : List Value} (k : Arr W c U ys) (i : Nat) (v : Value) : (W.setCell ⟨c, i, none⟩ v).heap.size = W.heap.size := by
  rw [setCell_eq_setRow W c i _ _ _ v k]
  simp [World.setRow]
/-- cells laid over others -/
def laid (xs : List Value) (o : Nat) (vs : List Value) : List Value := xs.take o ++ vs ++ xs.drop (o + vs.length)
theorem laid_length (xs : List Value) (o : Nat) (vs : List Value) (h : o + vs.length ≤ xs.length) : (laid xs o vs).length = xs.length := by simp [laid]; omega
theorem laid_cons (xs : List Value) (o : Nat) (v : Value) (vs : List Value) (h : o < xs.length) : laid (xs.set o v) (o + 1) vs = laid xs o (v :: vs) := by
  unfold laid
  rw [List.take_add_one, List.getElem?_set_self h, List.take_set_of_le (Nat.le_refl _), List.drop_set_of_lt (by omega)]
  simp only [Option.toList_some, List.append_assoc, List.cons_append, List.nil_append, List.length_cons]
  rw [show o + 1 + vs.length = o + (vs.length + 1) by omega]
theorem Arr.sets {b : Nat} {T : TypeId} : ∀ (vs : List Value) (o : Nat) {W : World} {xs : List Value}, Arr W b T xs → o + vs.length ≤ xs.length → Arr (W.setCells b o vs) b T (laid xs o vs)
  | [], o, W, xs, h, hl => by simpa [laid, World.setCells] using h
  | v :: vs, o, W, xs, h, hl => by
    rw [World.setCells, ← laid_cons _ _ _ _ (by simp at hl; omega)]
    exact Arr.sets vs (o + 1) (h.set o v) (by simp at hl ⊢; omega)
theorem Arr.nes {b c : Nat} {T U : TypeId} (hn : b ≠ c) {xs : List Value} : ∀ (vs : List Value) (o : Nat) {W : World} {ys : List Value}, Arr W b T xs → Arr W c U ys → Arr (W.setCells c o vs) b T xs
  | [], o, W, ys, h, k => h
  | v :: vs, o, W, ys, h, k => by
    rw [World.setCells]
    exact Arr.nes hn vs (o + 1) (h.ne k hn o v) (k.set o v)
theorem Arr.belows {w : World} {B c : Nat} {U : TypeId} (hc : B ≤ c) : ∀ (vs : List Value) (o : Nat) {W : World} {ys : List Value}, Arr W c U ys → Below B w W → Below B w (W.setCells c o vs)
  | [], o, W, ys, k, hb => hb
  | v :: vs, o, W, ys, k, hb => by
    rw [World.setCells]
    exact Arr.belows hc vs (o + 1) (k.set o v) (k.below hb hc o v)
theorem Arr.sizes {c : Nat} {U : TypeId} : ∀ (vs : List Value) (o : Nat) {W : World} {ys : List Value}, Arr W c U ys → (W.setCells c o vs).heap.size = W.heap.size
  | [], o, W, ys, k => rfl
  | v :: vs, o, W, ys, k => by
    rw [World.setCells, Arr.sizes vs (o + 1) (k.set o v), k.size o v]
theorem Arr.range {W : World} {b : Nat} {T : TypeId} {xs : List Value} (h : Arr W b T xs) (o : Nat) (cs : List Value) (hc : ∀ j v, cs[j]? = some v → xs[o + j]? = some v) : W.rangeAt b o cs := fun j v hv => by
  rw [h.cell]; exact hc j v hv
theorem Arr.there {W : World} {b : Nat} {T : TypeId} {xs : List Value} (h : Arr W b T xs) (o n : Nat) (hl : o + n ≤ xs.length) : W.there b o n := fun j hj => by
  refine ⟨?_, h.frozen _⟩
  rw [h.cell, List.getElem?_eq_getElem (by omega)]; rfl
/-- the whole, laid anew -/
theorem laid_all (xs vs : List Value) (h : vs.length = xs.length) : laid xs 0 vs = vs := by simp [laid, h]
theorem wpList_store_midTo {P : Program} {ops : Array Oper} {rest : List Oper} {op : Oper} {a : Act} {w : World} {Q : Exit → Act → World → Prop} (hgd : op.guard = none) (ty : TypeId) (x y : Operand) (ho : op.op = .store ty x y) (hdst : op.dst = none)
    (b o : Nat) (cells : Array Value) (hx : a.eval x = .pointer (some ⟨b, o, none⟩)) (hy : a.eval y = .agg cells)
    (ht : w.there b o cells.size) (hi : (P.info? ty).map (·.size) = some cells.size) (h1 : cells.all (·.oneCell') = true)
    (h : wpList P ops Q rest a (w.setCells b o cells.toList)) : wpList P ops Q (op :: rest) a w :=
  wpList_store_mid hgd ty x y ho b o cells hx hy ht hi h1 (by rw [hdst]; exact h)
/-- an element of an array by value -/
theorem run_index_one {P : Program} (T e : TypeId) (n : Nat) (C : Array Value) (k : Nat) (v : Value) (hT : P.underlying T = some (.array n e)) (hz : (P.info? e).map (·.size) = some 1) (hag : ∀ W, (isAgg e).run P W = .ok false W) (hk : k < n) (hv : C[k]? = some v) (W : World) :
    (Instr.index T (.agg C) (.int .i64 (k : Int))).run P W = .ok v W := by
  have h1 : (0 : Int) ≤ (k : Int) ∧ (k : Int) < (n : Int) := by omega
  cases hq : P.info? e with
  | none => simp [hq] at hz
  | some i =>
    have hs : i.size = 1 := by simpa [hq] using hz
    simp [Instr.index, run_underlying hT, asIntOf, h1, go_sem, sizeOf, typeInfo, hq, hs, part, hag, Sem.run_bind, hv]
    exact fun h => absurd h (by omega)
/-- a package's list of words, in its variable's block -/
structure Var (W : World) (n : Nat) (xs : List UInt32) : Prop where
  lt : n < W.heap.size
  at_ : W.rangeAt n 0 (u32V xs)
theorem Var.later {W W' : World} {n : Nat} {xs : List UInt32} (h : Var W n xs) (hb : Below W.heap.size W W') : Var W' n xs :=
  ⟨Nat.lt_of_lt_of_le h.lt hb.size, fun j v hv => by rw [hb.cell (p := ⟨n, 0 + j, none⟩) h.lt]; exact h.at_ j v hv⟩
theorem Var.cell {W : World} {n : Nat} {xs : List UInt32} (h : Var W n xs) (i : Nat) (hi : i < xs.length) : W.cell? ⟨n, i, none⟩ = some (.int .u32 ((Da.wi xs i).toNat : Int)) := by
  have := h.at_ i _ (u32V_get xs i hi)
  simpa using this
/-- the first arrays hold nought -/
def zw : List Value := u32V (List.replicate 64 0)
end Go.Proofs.YtalilmnpobgffaaDoor
