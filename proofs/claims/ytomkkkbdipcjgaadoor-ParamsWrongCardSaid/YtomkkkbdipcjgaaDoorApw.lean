/- Contracts in terms of rows: what is handed over is a slice that reads as a list. A cell of a row, read in a drawn region that grows. append of a row that is read to a row that the call owns. Contract of Trim. append of so many noughts to a row that is owned. Contract of Slope. Append of a row to a row that is owned, at one operation. -/
import Derived.Test.YtomkkkbdipcjgaaDoorMu
import Derived.Test.YtomkkkbdipcjgaaDoorRg
import Derived.Deep.DeepAppendWide
import Derived.Laws.AppendOwnNone
import Derived.Deep.Onto
import Derived.Lib.AppendZeros
import Derived.Lib.AppendStr
namespace Go.Proofs.YtomkkkbdipcjgaaDoor
open Go.RowKit
set_option linter.unusedVariables false
set_option linter.unusedSimpArgs false
/-- a slice that reads as a list of bytes -/
def RowV (z : List UInt8) (x : Value) (v : World) : Prop := ∃ o c, x = .slice o z.length c ∧ RowIs v o (bytesV z) c
theorem RowV.later {z : List UInt8} {x : Value} {v v' : World} (h : RowV z x v) (hb : Below v.heap.size v v') : RowV z x v' := by
  obtain ⟨o, c, e, h⟩ := h
  exact ⟨o, c, e, h.later hb⟩
/-- it answers with a row -/
def Rows (z : List UInt8) (v : World) (e : Ending) (v' : World) : Prop := ∃ x, e = .returned x ∧ RowV z x v' ∧ Below v.heap.size v v'
theorem conv_rv {p : List UInt8} {x : Value} {v : World} (hp : RowV p x v) : (convert 36 9 x).run Tryd.prog v = .ok (.string ⟨p.toArray⟩) v := by
  obtain ⟨o, c, rfl, hp⟩ := hp
  exact run_string hp Tryd.underlying36 Tryd.underlying5 Tryd.underlying9 _
theorem eql_string (s : ByteArray) (v : World) : (do eqGuard .eql 9 (.tmp 0) (.tmp 0) (.string s) (.string s); binOp .eql 9 (.string s) (.string s) : Sem Value).run Tryd.prog v = .ok (.bool true) v := by
  have := Tryd.underlying9
  go_simp
end Go.Proofs.YtomkkkbdipcjgaaDoor
namespace Go.Proofs.YtomkkkbdipcjgaaDoor
open Go.RowKit
set_option linter.unusedVariables false
set_option linter.unusedSimpArgs false
/-- the address of a cell that holds this byte -/
def CellV (y : UInt8) (x : Value) (v : World) : Prop := ∃ a, x = .pointer (some a) ∧ v.cell? a = some (.int .u8 (y.toNat : Int)) ∧ a.block < v.heap.size
theorem CellV.later {y : UInt8} {x : Value} {v v' : World} (h : CellV y x v) (hb : Below v.heap.size v v') : CellV y x v' := by
  obtain ⟨a, e, h, hl⟩ := h
  refine ⟨a, e, ?_, Nat.lt_of_lt_of_le hl hb.size⟩
  unfold World.cell? at *
  rw [hb.block _ hl]
  exact h
theorem RowV.cellAt {z : List UInt8} {x : Value} {v : World} (h : RowV z x v) (i : Nat) (hi : i < z.length) : ∃ a c, x = .slice (some a) z.length c ∧ CellV (co z i) (.pointer (some (a.add i))) v := by
  obtain ⟨o, c, rfl, h⟩ := h
  have h2 := h.adds
  obtain ⟨b, off, rfl, hb, hc⟩ := h.cells (by simp; omega)
  exact ⟨_, _, rfl, _, rfl, h2 _ rfl i _ (bytesV_get z i hi), by unfold Addr.add; split <;> exact hb⟩
theorem does_index {G : Nat → Value → World → Prop} {Q : Exit → Act → World → Prop} {i : Nat} {o : Oper} {b : Act} {v : World} {x y : Operand} {z : List UInt8} {n : Nat} (ho : o.op = .indexAddr 36 x y) (hx : RowV z (b.eval x) v) (hy : b.eval y = .int .i64 (n : Int)) (hn : n < z.length)
    (hG : ∀ p, CellV (co z n) p v → G i p v) : Rg.Does Tryd.prog G Q i o b v := by
  obtain ⟨a, c, e, hc⟩ := hx.cellAt n hn
  obtain ⟨i0, hi, hz0, hz1, hz2⟩ := info_parts info_u8
  refine Rg.does_pure (.pointer (some (a.add n))) ?_ (hG _ hc)
  have hu := Tryd.underlying36
  have hl : (0 : Int) ≤ (n : Int) ∧ (n : Int) < (z.length : Int) := by omega
  simp only [execOp, ho]
  rw [e, hy]
  have h1 : (Instr.indexAt 36 (.slice (some a) z.length c) (.int .i64 (n : Int))).run Tryd.prog v = .ok (.pointer (some (a.add n))) v := by
    simp [Instr.indexAt, asIntOf, underlying, hu, go_sem, sizeOf, hi, hl, hz1]
    rw [if_pos hn]
    show Result.ok (Value.pointer (some (a.add (n * 1)))) v = _
    rw [Nat.mul_one]
  simp [h1, Result.andThen]
theorem does_load {G : Nat → Value → World → Prop} {Q : Exit → Act → World → Prop} {i : Nat} {o : Oper} {b : Act} {v : World} {x : Operand} {y : UInt8} (ho : o.op = .load 5 x) (hx : CellV y (b.eval x) v)
    (hG : G i (.int .u8 (y.toNat : Int)) v) : Rg.Does Tryd.prog G Q i o b v := by
  obtain ⟨a, e, hc, hl⟩ := hx
  refine Rg.does_pure _ ?_ hG
  simp only [execOp, ho]
  rw [e]
  have hu := Tryd.underlying5
  go_simp
end Go.Proofs.YtomkkkbdipcjgaaDoor
namespace Go.Proofs.YtomkkkbdipcjgaaDoor
open Go.RowKit
set_option linter.unusedVariables false
theorem own_lt {W : World} {n : Nat} {v : Value} {xs : List Value} {m : Nat} (h : W.ownsRow n 5 1 v m xs) : ∀ k, v.ownBlock = some k → n ≤ k := fun k e => (World.ownsRow.lt h k e).1
theorem append_row {ops : Array Oper} {rest : List Oper} {o : Oper} {a : Act} {Q : Exit → Act → World → Prop} {w : World} (hgd : o.guard = none) (s x : Operand)
    (ho : o.op = .call { callee := .builtin .append, args := #[s, x], argTypes := #[36, 36] })
    (base : Nat) (v : Value) (n : Nat) (z : List UInt8) (hs : a.eval s = v) (hown : w.ownsRow base 5 1 v n (bytesV z))
    (ad : Option Addr) (m c : Nat) (y : List UInt8) (hx : a.eval x = .slice ad m c) (hm : m = y.length) (hrow : RowIs w ad (bytesV y) c) (hl : n + m ≤ 10000000) (hbase : base ≤ w.heap.size)
    (h : ∀ v' w', w'.ownsRow base 5 1 v' (n + m) (bytesV (z ++ y)) → w.grownBy w' v.ownBlock → wpList Tryd.prog ops Q rest (a.put o.dst v') w') : wpList Tryd.prog ops Q (o :: rest) a w := by
  obtain ⟨i0, hi, hz0, hz1, hz2⟩ := info_parts info_u8
  have e : bytesV (z ++ y) = bytesV z ++ bytesV y := by simp [bytesV]
  rw [e] at h
  subst hm
  cases ad with
  | none =>
    have h0 := hrow.nil rfl
    have hle := hrow.le
    simp only [bytesV_length] at hle
    obtain rfl : y = [] := List.eq_nil_of_length_eq_zero (by omega)
    subst h0
    refine wpList_append_own_none hgd s x 36 ho base 5 i0 1 Tryd.underlying36 hi v n (bytesV z) hs hown hx ?_
    exact h v w (by simpa [bytesV] using hown) ⟨rfl, rfl, rfl, Nat.le_refl _, fun _ _ _ => rfl⟩
  | some ad =>
    refine wpList_append_own_wide w hgd s x 36 ho base 5 i0 (.int .u8 0) 1 1 Tryd.underlying36 hi hz0 hz1 hz2 rfl (by decide) v n (bytesV z) hs hown ad y.length c (bytesV y) hx (by simp) (hrow.adds ad rfl) (bytesV_one y) (by unfold maxLen; omega) (by omega) hbase ?_
    intro v' w' h1 h2 _
    exact h v' w' h1 h2
/-- a row that is owned is a row -/
theorem owns_rv {W : World} {n : Nat} {v : Value} {z : List UInt8} {m : Nat} (h : W.ownsRow n 5 1 v m (bytesV z)) (hm : m = z.length) : RowV z v W := by
  subst hm
  obtain ⟨hl, hx⟩ := h
  rcases hx with ⟨rfl, h0⟩ | ⟨g, cap, cur, rfl, _, hh, h1, h2, hcur, htake⟩
  · refine ⟨none, 0, by rw [h0], ⟨by simp [h0], Nat.zero_le _, fun _ => rfl, fun h => ?_⟩⟩
    simp [h0] at h
  · exact ⟨_, cap, rfl, Buf.row (ys := z) ⟨hl, .inr ⟨g, cap, cur, rfl, Nat.zero_le _, hh, h1, h2, hcur, htake⟩⟩⟩
theorem own_below {w0 w w' : World} {n : Nat} {v : Value} {xs : List Value} {m : Nat} (hb : Below w0.heap.size w0 w) (h : w.ownsRow w0.heap.size 5 1 v m xs) (hg : w.grownBy w' v.ownBlock) : Below w0.heap.size w0 w' :=
  hb.grown hg hb.size (fun k e => own_lt h k e)
end Go.Proofs.YtomkkkbdipcjgaaDoor
namespace Go.Proofs.YtomkkkbdipcjgaaDoor
open Go.RowKit
set_option linter.unusedVariables false
set_option linter.unusedSimpArgs false
end Go.Proofs.YtomkkkbdipcjgaaDoor
namespace Go.Proofs.YtomkkkbdipcjgaaDoor
open Go.RowKit
set_option linter.unusedVariables false
set_option linter.unusedSimpArgs false
def zstr (n : Nat) : ByteArray := ⟨Array.replicate n 0⟩
theorem zstr_size (n : Nat) : (zstr n).size = n := by simp [zstr, ByteArray.size]
theorem zero_cells (n : Nat) : Builtin.zeroCells #[.int .u8 0] n = (Lib.strCells (zstr n)).toArray := by
  apply Array.ext
  · simp [Builtin.zeroCells, Lib.strCells, zstr]
  · intro i h1 h2
    simp [Builtin.zeroCells, Lib.strCells, zstr, Nat.mod_one]
theorem zeros_as_string {P : Program} (w : World) (t tn u ty e : TypeId) (i : TypeInfo) (ht : P.underlying t = some (.slice e)) (htn : P.underlying tn = some (.int .i64)) (hu : P.underlying u = some .string) (hi : P.info? e = some i) (hz : i.zero = some (.int .u8 0))
    (hsize : i.size = 1) (hby : i.bytes = 1) (b : Option Addr) (len cap n : Nat) (h0 : 0 < n) (hn : n ≤ 1000000) (hl : len ≤ 10000000) :
    (Builtin.append_ #[t, tn] ty #[.slice b len cap, .int .i64 n]).run P w = (Builtin.append_ #[t, u] ty #[.slice b len cap, .string (zstr n)]).run P w := by
  have hw : IntKind.i64.wrap (n : Int) = n := by rw [IntKind.wrap_i64]; omega
  have hneg : ¬ ((n : Int) < 0) := by omega
  have h48i : ¬ (281474976710656 < (n : Int)) := by omega
  have hne : n ≠ 0 := by omega
  have h63 : ¬ (9223372036854775807 < (len : Int) + (n : Int)) := by omega
  have hzs := zstr_size n
  have hf : ∀ v : World, Sem.run P (Builtin.firstCells 1 n (.string (zstr n))) v = .ok (Lib.strCells (zstr n)).toArray v := fun v => by
    have := Lib.run_firstCells_string (P := P) v 1 (zstr n)
    rwa [hzs] at this
  by_cases hr : len + n ≤ cap
  · simp [Builtin.append_, run_underlying ht, run_underlying htn, run_underlying hu, sizeOf, typeInfo, zeroValue, hi, hz, hsize, hby, asInt, asIntOf, hw, hneg, h48i, hne, Builtin.lenOf, hzs, hr, Value.cells, zero_cells, hf]
  · have hns : ¬ (281474976710656 < Builtin.nextslicecap (len + n) cap) := by
      have := growslice_fits (need := len + n) (old := cap) (bytes := 1) (by omega) (by omega)
      omega
    simp [Builtin.append_, run_underlying ht, run_underlying htn, run_underlying hu, sizeOf, typeInfo, zeroValue, hi, hz, hsize, hby, asInt, asIntOf, hw, hneg, h48i, hne, Builtin.lenOf, hzs, hr, hns, h63, Value.cells, zero_cells, hf]
/-- append of n noughts, n at least one -/
theorem append_zeros {ops : Array Oper} {rest : List Oper} {o : Oper} {a : Act} {Q : Exit → Act → World → Prop} {w : World} (hgd : o.guard = none) (s x : Operand)
    (ho : o.op = .call { callee := .builtin .append, args := #[s, x], argTypes := #[36, 3] })
    (base : Nat) (v : Value) (m : Nat) (z : List UInt8) (hs : a.eval s = v) (hown : w.ownsRow base 5 1 v m (bytesV z)) (n : Nat) (h0 : 0 < n) (hx : a.eval x = .int .i64 n) (hn : n ≤ 1000000) (hl : m ≤ 10000000) (hbase : base ≤ w.heap.size)
    (h : ∀ v' w', w'.ownsRow base 5 1 v' (m + n) (bytesV (z ++ List.replicate n 0)) → w.grownBy w' v.ownBlock → wpList Tryd.prog ops Q rest (a.put o.dst v') w') : wpList Tryd.prog ops Q (o :: rest) a w := by
  obtain ⟨i0, hi, hz0, hz1, hz2⟩ := info_parts info_u8
  have e : bytesV (z ++ List.replicate n 0) = bytesV z ++ Lib.strCells (zstr n) := by
    simp [bytesV, Lib.strCells, zstr]
  rw [e] at h
  obtain ⟨v', w', hr, h2, h3, h4⟩ := Lib.run_append_own_string (P := Tryd.prog) w base 36 9 o.type 5 i0 Tryd.underlying36 Tryd.underlying9 hi hz0 hz1 hz2 v m (bytesV z) hown (zstr n) (by rw [zstr_size]; unfold maxLen; omega) (by rw [zstr_size]; omega) hbase
  rw [zstr_size] at h2
  obtain ⟨b, l, cap, rfl⟩ : ∃ b l cap, v = .slice b l cap := by
    rcases hown.2 with ⟨rfl, _⟩ | ⟨g, cap, cur, rfl, _⟩
    · exact ⟨_, _, _, rfl⟩
    · exact ⟨_, _, _, rfl⟩
  have hlm : l = m := by
    rcases hown.2 with ⟨e1, e2⟩ | ⟨g, cap2, cur, e1, _⟩
    · cases e1; exact e2.symm
    · cases e1; rfl
  subst hlm
  refine Lib.wpList_append_run w hgd s x _ _ ho _ _ hs hx v' w' ?_ (h v' w' h2 h3)
  rw [zeros_as_string w 36 3 9 o.type 5 i0 Tryd.underlying36 Tryd.underlying3 Tryd.underlying9 hi hz0 hz1 hz2 b l cap n h0 hn hl]
  exact hr
end Go.Proofs.YtomkkkbdipcjgaaDoor
namespace Go.Proofs.YtomkkkbdipcjgaaDoor
open Go.RowKit
set_option linter.unusedVariables false
/-- the derivative's first 2k coefficients -/
def slk (p : List UInt8) (k : Nat) : List UInt8 := tab (fun j => if j % 2 = 0 ∧ j < 2 * k then co p (j + 1) else 0) p.length
theorem slk_zero (p : List UInt8) : slk p 0 = List.replicate p.length 0 := by
  refine list_ext (by simp [slk]) fun i hi => ?_
  rw [zeros_co, slk, co_tab _ _ _ (by simpa [slk] using hi), if_neg (by omega)]
theorem slk_step (p : List UInt8) (k : Nat) (hk : 2 * k < p.length) : (slk p k).set (2 * k) (co p (2 * k + 1)) = slk p (k + 1) := by
  refine list_ext (by simp [slk]) fun i hi => ?_
  have hi2 : i < p.length := by simpa [slk] using hi
  rw [co_set, slk, slk, co_tab _ _ _ hi2, co_tab _ _ _ hi2]
  by_cases e : 2 * k = i
  · rw [if_pos ⟨e, by simpa using hk⟩, if_pos ⟨by omega, by omega⟩, e]
  · rw [if_neg (fun h => e h.1)]
    by_cases h : i % 2 = 0 ∧ i < 2 * k
    · rw [if_pos h, if_pos ⟨h.1, by omega⟩]
    · rw [if_neg h, if_neg (fun g => h ⟨g.1, by omega⟩)]
theorem slk_end (p : List UInt8) (k : Nat) (hk : p.length ≤ 2 * k + 1) : slk p k = slopeL p := by
  refine list_ext (by simp [slk, slopeL]) fun i hi => ?_
  have hi2 : i < p.length := by simpa [slk] using hi
  rw [co_slopeL, slk, co_tab _ _ _ hi2]
  unfold Gf.pd
  by_cases h : i % 2 = 0
  · rw [if_pos h]
    by_cases h2 : i < 2 * k
    · rw [if_pos ⟨h, h2⟩]
    · rw [if_neg (fun g => h2 g.2), co_ge (by omega)]
  · rw [if_neg h, if_neg (fun g => h g.1)]
def SpAt (p : List UInt8) (w1 : World) (g : Nat) (i : Value) (wr : World) : Prop :=
  ∃ k : Nat, 2 * k ≤ p.length + 1 ∧ i = .int .i64 (2 * (k : Int) + 1) ∧ Buf wr g p.length (slk p k) ∧ Only g w1 wr
end Go.Proofs.YtomkkkbdipcjgaaDoor
namespace Go.Proofs.YtomkkkbdipcjgaaDoor
open Go.RowKit
set_option linter.unusedVariables false
theorem wp_append_row {o : Oper} {a : Act} {w : World} {K : Act → World → Prop} {Q : Exit → Act → World → Prop} (s x : Operand)
    (ho : o.op = .call { callee := .builtin .append, args := #[s, x], argTypes := #[36, 36] })
    (base : Nat) (v : Value) (n : Nat) (z : List UInt8) (hs : a.eval s = v) (hown : w.ownsRow base 5 1 v n (bytesV z))
    (ad : Option Addr) (m c : Nat) (y : List UInt8) (hx : a.eval x = .slice ad m c) (hm : m = y.length) (hrow : RowIs w ad (bytesV y) c) (hl : n + m ≤ 10000000) (hbase : base ≤ w.heap.size)
    (h : ∀ v' w', w'.ownsRow base 5 1 v' (n + m) (bytesV (z ++ y)) → w.grownBy w' v.ownBlock → K (a.put o.dst v') w') : o.wp Tryd.prog a w K Q := by
  obtain ⟨i0, hi, hz0, hz1, hz2⟩ := info_parts info_u8
  have e : bytesV (z ++ y) = bytesV z ++ bytesV y := by simp [bytesV]
  rw [e] at h
  subst hm
  cases ad with
  | none =>
    have h0 := hrow.nil rfl
    have hle := hrow.le
    simp only [bytesV_length] at hle
    obtain rfl : y = [] := List.eq_nil_of_length_eq_zero (by omega)
    subst h0
    have hrun := run_append_owned_none (P := Tryd.prog) (w := w) base 36 o.type 5 i0 1 Tryd.underlying36 hi v n (bytesV z) hown
    unfold Oper.wp
    simp [execOp, ho, resolve, invoke, builtin, hs, hx, hrun, Result.andThen]
    exact h v w (by simpa [bytesV] using hown) ⟨rfl, rfl, rfl, Nat.le_refl _, fun _ _ _ => rfl⟩
  | some ad =>
    refine wp_append_own_wide w s x 36 ho base 5 i0 (.int .u8 0) 1 1 Tryd.underlying36 hi hz0 hz1 hz2 rfl (by decide) v n (bytesV z) hs hown ad y.length c (bytesV y) hx (by simp) (hrow.adds ad rfl) (bytesV_one y) (by unfold maxLen; omega) (by omega) hbase ?_
    intro v' w' h1 h2 _
    exact h v' w' h1 h2
end Go.Proofs.YtomkkkbdipcjgaaDoor
