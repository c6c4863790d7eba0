/- The code's syndromes: value, Of, Quiet, Poly, Right. Of a word of a size that words haven't. The syndromes of a word; whether it is right. -/
import Derived.Test.YtomkkkbdipcjgaaDoorIns
import Derived.Test.YtomkkkbdipcjgaaDoorMu
import Derived.Test.YtomkkkbdipcjgaaDoorFwm
import Derived.Test.YtomkkkbdipcjgaaDoorApw
import Derived.Test.YtomkkkbdipcjgaaDoorErr
import Derived.Stop.BytesEq
import Derived.Laws.ResultCell
import Derived.BigRegion
namespace Go.Proofs.YtomkkkbdipcjgaaDoor
open Go.RowKit
set_option linter.unusedVariables false
set_option linter.unusedSimpArgs false
def CvAt (z : List UInt8) (x : UInt8) (w : World) (s i : Value) (wr : World) : Prop :=
  ∃ k : Nat, k ≤ z.length ∧ i = .int .i64 k ∧ s = .int .u8 ((Gf.hv x (z.take k)).toNat : Int) ∧ Kit.Dn w wr
theorem build_syn {P : Program} {ops : Array Oper} {rest : List Oper} {o : Oper} {a : Act} {w : World} {Q : Exit → Act → World → Prop} (hg : o.guard = none) (T : TypeId) (ho : o.op = .build T #[]) (Z : Array Value) (hb : P.built T [] = some Z)
    (h : wpList P ops Q rest (a.put o.dst (.agg Z)) w) : wpList P ops Q (o :: rest) a w := by
  have e : (((#[] : Array (Nat × Operand)).map fun (i, x) => (i, a.eval x)).toList) = [] := by simp
  refine wpList_build hg T #[] ho ?_ ?_
  · rw [e, hb]; rfl
  · rw [e, hb]; exact h
end Go.Proofs.YtomkkkbdipcjgaaDoor
namespace Go.Proofs.YtomkkkbdipcjgaaDoor
open Go.RowKit
set_option linter.unusedVariables false
set_option linter.unusedSimpArgs false
theorem results_cell_row2 {P : Program} {fn : Func} {p u : Tmp} {ty : TypeId} (h : fn.results = #[.cell p ty, .tmp u]) (tmps : Array Value) (w : World) (g : Nat) (t : TypeId) (cs : Array Value) (fr : Nat × Nat) (d : TypeDesc)
    (hp : tmps.getD p undef = .pointer (some ⟨g, 0, none⟩)) (hg : w.heap[g]? = some (.cells cs t fr))
    (hu : P.underlying ty = some d) (hd : (match d with | .struct _ | .array _ _ => true | _ => false) = true) (hi : (P.info? ty).map (·.size) = some cs.size) :
    (results fn tmps).run P w = .ok (.tuple #[.agg cs, tmps.getD u undef]) w := by
  rw [results_cell_tmp h, hp]
  simp [asAddr, run_loadVar_row w g t ty cs fr d hg hu hd hi]
theorem exec_build {P : Program} {o : Oper} {a : Act} {T : TypeId} {Z : Array Value} (ho : o.op = .build T #[]) (hb : P.built T [] = some Z) (v : World) : (execOp a.eval o).run P v = .ok (.value (.agg Z)) v := by
  have e : (((#[] : Array (Nat × Operand)).map fun (i, x) => (i, a.eval x))) = #[] := by simp
  have h := run_build (P := P) v T #[] Z hb
  simp [execOp, ho, h, Result.andThen]
end Go.Proofs.YtomkkkbdipcjgaaDoor
namespace Go.Proofs.YtomkkkbdipcjgaaDoor
open Go.RowKit
set_option linter.unusedVariables false
set_option linter.unusedSimpArgs false
end Go.Proofs.YtomkkkbdipcjgaaDoor
