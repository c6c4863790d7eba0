/- A region of guards and calls whose values the class of worlds tells (qk_val, qk_call). -/
import Derived.Test.YtomkkkbdipcjgaaDoorQt
import Derived.Test.YtomkkkbdipcjgaaDoorHk
namespace Go.Proofs.YtomkkkbdipcjgaaDoor
open Go.RowKit
set_option linter.unusedVariables false
set_option linter.unusedSimpArgs false
namespace St
theorem cell_lt {W : World} {g : Nat} {v : Value} (h : W.cell? ⟨g, 0, none⟩ = some v) : g < W.heap.size := by
  unfold World.cell? at h
  cases hh : W.heap[g]? with
  | none => simp [hh] at h
  | some o => exact (Array.getElem?_eq_some_iff.1 hh).1
theorem qk_val {P : Program} {ops : Array Oper} {C : World → Prop} {K : Act → Prop} {o : Oper} {a : Act} {x : Value} (hg : Region.wanted o (yielded ops a.tmps) = true) (hv : ∀ w, C w → (execOp a.eval o).run P w = .ok (.value x) w) (h : K (a.put o.dst x)) :
    if Region.wanted o (yielded ops a.tmps) then o.quiet P a C K else K (a.put o.dst undef) := by
  rw [if_pos hg]
  refine ⟨x, fun w hw => ?_, h⟩
  unfold Oper.quietAt
  rw [hv w hw]
  exact ⟨rfl, rfl⟩
theorem qk_call {P : Program} {ops : Array Oper} {C : World → Prop} {K : Act → Prop} {o : Oper} {a : Act} (hg : Region.wanted o (yielded ops a.tmps) = true) (f : FuncId) (xs : Array Operand) (ts : Array TypeId) (ho : o.op = .call { callee := .value (.func f), args := xs, argTypes := ts })
    (args : Array Value) (ha : xs.map a.eval = args) (ek : ∀ w, (callFunc f args).run P w = .ok (.enter f args) w) (v : Value) (hc : ∀ w, C w → Calls P f args w fun e w' => e = .returned v ∧ C w')
    (h : K (a.put o.dst v)) : if Region.wanted o (yielded ops a.tmps) then o.quiet P a C K else K (a.put o.dst undef) := by
  rw [if_pos hg]
  refine ⟨v, fun w hw => ?_, h⟩
  have hrun : (execOp a.eval o).run P w = .ok (.enter f args) w := by
    simp only [execOp, ho, resolve, invoke]
    have hx : a.eval (.func f) = .func (.func f) #[] #[] := rfl
    simp [hx, ha, ek w, go_sem]
  unfold Oper.quietAt
  rw [hrun]
  exact ⟨rfl, hc w hw⟩
theorem exec_load {P : Program} {o : Oper} {a : Act} {w : World} {ty : TypeId} {x : Operand} {b off : Nat} (ho : o.op = .load ty x) (hx : a.eval x = .pointer (some ⟨b, off, none⟩)) (cs : List Value) (d : TypeDesc) (hc : w.rangeAt b off cs) (hu : P.underlying ty = some d) (hd : d.isRow = true) (hi : (P.info? ty).map (·.size) = some cs.length) :
    (execOp a.eval o).run P w = .ok (.value (.agg cs.toArray)) w := by
  unfold execOp
  simp only [ho, hx, run_loadAt_mid w b off ty cs d hc hu hd hi, Result.andThen_ok, Sem.run_bind, Sem.run_pure]
theorem exec_conv {P : Program} {o : Oper} {a : Act} {w : World} {s d : TypeId} {x : Operand} {y : Value} (ho : o.op = .convert s d x) (h : (convert s d (a.eval x)).run P w = .ok y w) : (execOp a.eval o).run P w = .ok (.value y) w := by
  simp [execOp, ho, h, Result.andThen]
end St
theorem str_list (l : List UInt8) : (⟨l.toArray⟩ : ByteArray).toList = l := by
  have h : ∀ s : ByteArray, s.toList = s.data.toList := fun s => by exact ByteArray.toList_eq s
  rw [h]
end Go.Proofs.YtomkkkbdipcjgaaDoor
