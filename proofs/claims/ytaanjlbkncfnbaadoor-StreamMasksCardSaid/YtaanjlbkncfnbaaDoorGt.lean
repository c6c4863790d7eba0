/- A region that draws its order: what makes memory in any order (E), then what leans on all of that. -/
import Derived.Test.YtaanjlbkncfnbaaDoorRg
namespace Go.Proofs.YtaanjlbkncfnbaaDoor.Rg
open Go.RowKit
set_option linter.unusedVariables false
set_option linter.unusedSimpArgs false
theorem region_to {P : Program} {ops : Array Oper} {id : Nat} {Q : Exit → Act → World → Prop} {a : Act} {w : World} (hm : P.follows .mixedOrders = true) (E : Nat → Bool) (G : Nat → Value → World → Prop) (hok : okTo ops a.tmps.size E (fun _ => false) = true)
    (hkeep : ∀ i x v v', G i x v → Below v.heap.size v v' → G i x v')
    (hstep : ∀ (i : Nat) (o : Oper) (b : Act) (v : World), E i = true → ops[i]? = some o → Below w.heap.size w v → (∀ s, (∀ (i : Nat) (o : Oper), E i = true → ops[i]? = some o → o.dst ≠ some s) → b.tmps.getD s undef = a.tmps.getD s undef) →
      (∀ e ∈ o.after, Region.binds .any e = true → E e.on = true → ∀ (o' : Oper) (d : Tmp), ops[e.on]? = some o' → o'.dst = some d → G e.on (b.tmps.getD d undef) v) → Does P G Q i o b v)
    (hend : ∀ b v, Below w.heap.size w v → b.tmps.size = a.tmps.size → b.defers = a.defers → (∀ s, (∀ (i : Nat) (o : Oper), E i = true → ops[i]? = some o → o.dst ≠ some s) → b.tmps.getD s undef = a.tmps.getD s undef) →
      (∀ (i : Nat) (o : Oper) (d : Tmp), E i = true → ops[i]? = some o → o.dst = some d → G i (b.tmps.getD d undef) v) → wpAnyH P .any ops Q (fun _ => True) (left (tail ops.size E (fun _ => false))) (tail ops.size E (fun _ => false)) b v) :
    (Code.region id ops true).wp P Q a w := by
  have hb0 : Below w.heap.size w w.drew := (Below.refl _ _).drew
  refine wp_region_any hm (wpAny_of_held _ _ _ _ (any_to (S := fun _ => True) (a := a) (w := w.drew) (G := G) (N := a.tmps.size) hok (fun _ _ => trivial) hkeep
    (fun i o b v hE ho hb hr hd => hstep i o b v hE ho (hb0.trans hb) hr hd) (fun b v hb hs hd hr hg => hend b v (hb0.trans hb) hs hd hr hg) _ _ _ _ ?_ ⟨Below.refl _ _, rfl, rfl, fun _ _ => rfl, ?_, by simp, ?_, ?_⟩))
  · unfold left
    simp
  · intro i o d _ ho _ hl
    have hi := (Array.getElem?_eq_some_iff.1 ho).1
    simp [Array.getD_eq_getD_getElem?, hi] at hl
  · intro i _ hi
    simp [Array.getD_eq_getD_getElem?, hi]
  · intro i h
    cases h
/-- a row of values stored into a block -/
theorem op_store_row {P : Program} {ops : Array Oper} {Q : Exit → Act → World → Prop} {i g : Nat} {o : Oper} {ty t : TypeId} {x y : Operand} {cells old : Array Value} {b : Act} {v : World} {K : Act → World → Prop} (ho : ops[i]? = some o) (hg : o.guard = none)
    (hop : o.op = .store ty x y) (hx : b.eval x = .pointer (some ⟨g, 0, none⟩)) (hy : b.eval y = .agg cells) (hh : v.heap[g]? = some (.cells old t (0, 0))) (hi : (P.info? ty).map (·.size) = some cells.size) (hold : old.size = cells.size) (h1 : cells.all (·.oneCell') = true)
    (h : K (b.put o.dst undef) (v.setRow g cells)) : wpOp P ops Q i K b v := by
  unfold wpOp
  rw [ho]
  dsimp only
  rw [if_pos (by simp [Region.wanted, hg])]
  exact .inl (wp_store_row ty x y hop g cells hx hy t old hh hi hold h1 h)
theorem litG (a : Array Value) (n : Nat) (h : a.size = n) : a = ((List.range n).map fun i => a.getD i undef).toArray := by
  subst h
  apply Array.ext
  · simp
  · intro i h1 h2
    simp [Array.getD_eq_getD_getElem?, h1]
end Go.Proofs.YtaanjlbkncfnbaaDoor.Rg
