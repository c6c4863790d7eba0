/- Rows that a conversion of a text made, and what is appended to them. -/
import Derived.Test.YtemngcifeglpmaaDoorApa
import Derived.Lib.SmallJoins
import Derived.Lib.ConvBytes
import Derived.Laws.IdiomCopy
import Derived.Lib.AppendZeros
namespace Go.Proofs.YtemngcifeglpmaaDoor
open Go.RowKit
set_option linter.unusedVariables false
set_option linter.unusedSimpArgs false
theorem grown_tr {a b c : World} {row : Option Nat} (h : a.grownBy b row) (k : b.grownBy c row) : a.grownBy c row :=
  ⟨k.os.trans h.os, k.tape.trans h.tape, k.output.trans h.output, Nat.le_trans h.size k.size, fun i hi hn => (k.block i (Nat.lt_of_lt_of_le hi h.size) hn).trans (h.block i hi hn)⟩
/-- many cells of one block set: the block, and what else there is -/
theorem cells_put (g : Nat) (T : TypeId) (fz : Nat × Nat) : ∀ (vs : List Value) (o : Nat) (W : World) (cur : Array Value), W.heap[g]? = some (.cells cur T fz) → o + vs.length ≤ cur.size →
    ∃ cur', (W.setCells g o vs).heap[g]? = some (.cells cur' T fz) ∧ cur'.size = cur.size ∧ cur'.toList.take (o + vs.length) = cur.toList.take o ++ vs ∧ W.grownBy (W.setCells g o vs) (some g)
  | [], o, W, cur, h, hl => ⟨cur, h, rfl, by simp, ⟨rfl, rfl, rfl, Nat.le_refl _, fun _ _ _ => rfl⟩⟩
  | v :: r, o, W, cur, h, hl => by
    have ho : o < cur.size := by simp at hl; omega
    have e : W.setCell ⟨g, o, none⟩ v = W.setRow g (cur.setIfInBounds o v) := setCell_eq_setRow W g o cur T fz v h
    have h1 : (W.setCell ⟨g, o, none⟩ v).heap[g]? = some (.cells (cur.setIfInBounds o v) T fz) := by rw [e]; exact setRow_heap _ _ _ _ _ _ h
    obtain ⟨cur', k1, k2, k3, k4⟩ := cells_put g T fz r (o + 1) _ _ h1 (by simp at hl ⊢; omega)
    refine ⟨cur', k1, by rw [k2]; simp, ?_, grown_tr (by rw [e]; exact grown_row _) k4⟩
    rw [List.length_cons, show o + (r.length + 1) = o + 1 + r.length by omega, k3, Array.toList_setIfInBounds, List.take_add_one, List.getElem?_set_self (by simpa using ho), List.take_set_of_le (Nat.le_refl _)]
    simp
/-- a row of bytes of the call's own, frozen nowhere but past its end -/
def CRow (W : World) (base : Nat) (v : Value) (z : List UInt8) : Prop :=
  ∃ g cap cur fz, v = .slice (some ⟨g, 0, none⟩) z.length cap ∧ base ≤ g ∧ W.heap[g]? = some (.cells cur 5 fz) ∧ (fz.2 ≤ fz.1 ∨ cap ≤ fz.1) ∧ z.length ≤ cap ∧ cap ≤ maxLen ∧ cur.size = cap ∧ cur.toList.take z.length = bytesV z
theorem CRow.row {W : World} {base : Nat} {v : Value} {z : List UInt8} (h : CRow W base v z) : ∃ g c, v = .slice (some ⟨g, 0, none⟩) z.length c ∧ base ≤ g ∧ g < W.heap.size ∧ RowIs W (some ⟨g, 0, none⟩) (bytesV z) c := by
  obtain ⟨g, cap, cur, fz, rfl, hb, hg, _, hz, hm, hs, ht⟩ := h
  have hlt : g < W.heap.size := (Array.getElem?_eq_some_iff.1 hg).1
  refine ⟨g, cap, rfl, hb, hlt, ⟨by rw [bytesV_length]; exact hz, hm, fun h => (by cases h), fun h0 => ⟨g, 0, rfl, hlt, fun i u hu => ?_⟩⟩⟩
  rw [Nat.zero_add, cell_of_row W g i cur _ fz hg]
  rw [← ht, List.getElem?_take] at hu
  split at hu
  · simpa using hu
  · cases hu
theorem CRow.rowV {W : World} {base : Nat} {v : Value} {z : List UInt8} (h : CRow W base v z) : RowV z v W := by
  obtain ⟨g, c, rfl, _, _, hr⟩ := h.row
  exact ⟨_, c, rfl, hr⟩
theorem CRow.later {W W' : World} {base : Nat} {v : Value} {z : List UInt8} (h : CRow W base v z) (hb : Below W.heap.size W W') : CRow W' base v z := by
  obtain ⟨g, cap, cur, fz, rfl, hb', hg, rest⟩ := h
  exact ⟨g, cap, cur, fz, rfl, hb', by rw [hb.block g (Array.getElem?_eq_some_iff.1 hg).1]; exact hg, rest⟩
theorem CRow.below {w W W' : World} {v : Value} {z : List UInt8} (hb : Below w.heap.size w W) (h : CRow W w.heap.size v z) (hg : W.grownBy W' v.ownBlock) : Below w.heap.size w W' := by
  obtain ⟨g, cap, cur, fz, rfl, hb', _⟩ := h
  exact below_grown hb hg hb' hb.size
theorem crow_conv (w : World) (s : ByteArray) (hl : s.size ≤ 1000000) :
    ∃ v, (convert 9 22 (.string s)).run Tryd.prog w = .ok v (Lib.bytesWorld w 5 s) ∧ CRow (Lib.bytesWorld w 5 s) w.heap.size v s.data.toList ∧ Below w.heap.size w (Lib.bytesWorld w 5 s) := by
  have hsl : s.data.toList.length = s.size := rfl
  have h1 := grownCap_ge w s.size 0 5
  have h2 := grownCap_le_maxLen w s.size 0 5 (by unfold maxLen; omega)
  have hsz : (Lib.bytesCells w 5 s).size = grownCap w s.size 0 5 := by
    simp only [Lib.bytesCells, Array.size_append, Array.size_map, Array.size_replicate]
    have : s.data.size = s.size := rfl
    omega
  refine ⟨_, Lib.run_convert_string_bytes w _ _ 5 s Tryd.underlying9 Tryd.underlying22 Tryd.underlying5, ⟨_, _, _, _, rfl, Nat.le_refl _, Lib.bytesWorld_at_new w _ s, .inr (by rw [hsz]; exact Nat.le_refl _), by rw [hsl]; exact h1, h2, hsz, ?_⟩, Joins.below_bytesWorld _ _ _ _ (Nat.le_refl _)⟩
  unfold Lib.bytesCells
  rw [Array.toList_append, hsl]
  have e : (s.data.map fun b => Value.int .u8 b.toNat).toList = bytesV s.data.toList := by simp [bytesV]
  rw [e]
  exact List.take_left' (by rw [bytesV_length, hsl])
/-- append to such a row -/
theorem crow_append_run (w : World) (ty : TypeId) (base : Nat) (v : Value) (z : List UInt8) (h : CRow w base v z) (a : Addr) (m c : Nat) (y : List UInt8) (hm : m = y.length) (hy : RowIs w (some a) (bytesV y) c) (hl : z.length + y.length ≤ 10000000) (hbase : base ≤ w.heap.size) :
    ∃ v' w', (Builtin.append_ #[22, 22] ty #[v, .slice (some a) m c]).run Tryd.prog w = .ok v' w' ∧ CRow w' base v' (z ++ y) ∧ w.grownBy w' v.ownBlock := by
  subst hm
  obtain ⟨i0, hi, hz0, hz1, hz2⟩ := info_parts info_u8
  obtain ⟨g, cap, cur, fz, rfl, hb, hg, hf, hz, hmx, hs, ht⟩ := h
  have hnews := hy.adds a rfl
  by_cases hroom : z.length + y.length ≤ cap
  · obtain ⟨cur', k1, k2, k3, k4⟩ := cells_put g 5 fz (bytesV y) z.length w cur hg (by rw [bytesV_length, hs]; exact hroom)
    have hfc := run_firstCells_some (P := Tryd.prog) w i0.size y.length a y.length c (bytesV y) (by rw [hz1]; simp) hnews
    have hst := run_storeCells_cells (P := Tryd.prog) g z.length (bytesV y) 0 w
      (fun j hj => by rw [cell_of_row w g _ cur _ fz hg]; rw [bytesV_length] at hj; simp; omega)
      (fun j hj => by
        rw [bytesV_length] at hj
        obtain ⟨lo, hi'⟩ := fz
        simp only [World.frozen?, hg, Bool.and_eq_false_iff, decide_eq_false_iff_not]
        simp only at hf
        omega) (bytesV_one y)
    simp only [Nat.add_zero] at hst
    refine ⟨.slice (some ⟨g, 0, none⟩) (z.length + y.length) cap, w.setCells g z.length (bytesV y), ?_, ⟨g, cap, cur', fz, by rw [List.length_append], hb, k1, hf, by rw [List.length_append]; exact hroom, hmx, by rw [k2]; exact hs, ?_⟩, k4⟩
    · simp [Builtin.append_, run_underlying Tryd.underlying22, sizeOf, typeInfo, hi, hz1, Builtin.lenOf, hroom, Addr.add_lit, hst]
      rw [hz1] at hfc
      simp [hfc, hst]
    · rw [List.length_append]
      rw [bytesV_length] at k3
      rw [k3, ht]; simp [bytesV]
  · have holds : ∀ j u, (bytesV z)[j]? = some u → w.cell? ((⟨g, 0, none⟩ : Addr).add j) = some u := fun j u hu => by
      rw [Addr.add_lit, Nat.zero_add, cell_of_row w g j cur _ fz hg]
      rw [← ht, List.getElem?_take] at hu
      split at hu
      · simpa using hu
      · cases hu
    have hr := run_append_grow (P := Tryd.prog) w 22 ty 5 i0 (.int .u8 0) Tryd.underlying22 hi hz0 ⟨g, 0, none⟩ z.length cap (bytesV z) (by rw [hz1]; simp) holds a y.length c (bytesV y) (by rw [hz1]; simp) hnews (by omega) (by omega) (growslice_fits (by omega) (by rw [hz2]; omega))
    have hge := grownCap_ge w (z.length + y.length) cap 5
    have hcm := grownCap_le_maxLen w (z.length + y.length) cap 5 (by unfold maxLen; omega)
    refine ⟨_, _, hr, ⟨w.heap.size, _, _, (0, 0), by rw [List.length_append], hbase, heap_alloc_new w.drew _, .inl (Nat.le_refl _), by rw [List.length_append]; exact hge, hcm, ?_, ?_⟩, ⟨rfl, rfl, rfl, by simp, fun k hk _ => (by
      show (w.heap.push _)[k]? = w.heap[k]?
      rw [Array.getElem?_push_lt hk, Array.getElem?_eq_getElem hk])⟩⟩
    · simp only [Array.size_append, List.size_toArray, bytesV_length, Builtin.zeroCells, Array.size_flatten, Value.cells]
      simp
      omega
    · rw [Array.toList_append, Array.toList_append]
      rw [show (bytesV z).toArray.toList ++ (bytesV y).toArray.toList = bytesV (z ++ y) by simp [bytesV]]
      exact List.take_left' (by rw [bytesV_length])
theorem crow_append {ops : Array Oper} {rest : List Oper} {o : Oper} {a : Act} {Q : Exit → Act → World → Prop} {w : World} (hgd : o.guard = none) (s x : Operand)
    (ho : o.op = .call { callee := .builtin .append, args := #[s, x], argTypes := #[22, 22] })
    (base : Nat) (v : Value) (z : List UInt8) (hs : a.eval s = v) (hown : CRow w base v z)
    (ad : Addr) (m c : Nat) (y : List UInt8) (hx : a.eval x = .slice (some ad) m c) (hm : m = y.length) (hrow : RowIs w (some ad) (bytesV y) c) (hl : z.length + y.length ≤ 10000000) (hbase : base ≤ w.heap.size)
    (h : ∀ v' w', CRow w' base v' (z ++ y) → w.grownBy w' v.ownBlock → wpList Tryd.prog ops Q rest (a.put o.dst v') w') : wpList Tryd.prog ops Q (o :: rest) a w := by
  obtain ⟨v', w', hr, h1, h2⟩ := crow_append_run w o.type base v z hown ad m c y hm hrow hl hbase
  exact Lib.wpList_append_run w hgd s x _ _ ho _ _ hs hx v' w' hr (h v' w' h1 h2)
end Go.Proofs.YtemngcifeglpmaaDoor
