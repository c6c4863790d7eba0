/- A region that draws its order, whose operations only make new memory: in whatever order they come, each has its result. A region that draws its order: some operations have come already, some only make new memory, and the late ones lean on all of these. -/
import Derived.Test.YtomkkkbdipcjgaaDoorKit
import Derived.Orders
import Derived.Test.YtomkkkbdipcjgaaDoorRf
import Derived.OrdersHeld
import Derived.RangeFuncBox
namespace Go.Proofs.YtomkkkbdipcjgaaDoor.Rg
open Go.RowKit
set_option linter.unusedVariables false
set_option linter.unusedSimpArgs false
/-- no guards, each operation has a slot of its own, and leans on earlier ones -/
def ok (ops : Array Oper) (N : Nat) : Bool :=
  (List.range ops.size).all (fun i => match ops[i]? with
    | some o => (match o.guard with | none => true | some g => o.after.any fun e => decide (e.on = g.1) && Region.binds .any e) && (match o.dst with | some d => decide (d < N) | none => false) && o.after.all (fun e => decide (e.on < i))
    | none => false) &&
  (List.range ops.size).all (fun i => (List.range ops.size).all fun j => decide (i = j) || !((ops[i]?.map (·.dst)) == (ops[j]?.map (·.dst))))
theorem ok_at {ops : Array Oper} {N : Nat} (h : ok ops N = true) {i : Nat} {o : Oper} (ho : ops[i]? = some o) :
    (∀ g, o.guard = some g → ∃ e ∈ o.after, e.on = g.1 ∧ Region.binds .any e = true) ∧ (∃ d, o.dst = some d ∧ d < N) ∧ ∀ e ∈ o.after, e.on < i := by
  have hi := (Array.getElem?_eq_some_iff.1 ho).1
  unfold ok at h
  rw [Bool.and_eq_true] at h
  have h1 := List.all_eq_true.1 h.1 i (List.mem_range.2 hi)
  rw [ho] at h1
  dsimp only at h1
  rw [Bool.and_eq_true, Bool.and_eq_true] at h1
  obtain ⟨⟨h2, h3⟩, h4⟩ := h1
  refine ⟨?_, ?_, ?_⟩
  · intro g hg
    rw [hg] at h2
    obtain ⟨k, hk, hk2⟩ := Array.any_eq_true.1 h2
    rw [Bool.and_eq_true, decide_eq_true_eq] at hk2
    exact ⟨_, Array.getElem_mem hk, hk2⟩
  · cases hd : o.dst with
    | none => rw [hd] at h3; cases h3
    | some d => rw [hd] at h3; exact ⟨d, rfl, by simpa using h3⟩
  · intro e he
    have := Array.all_eq_true_iff_forall_mem.1 h4 e he
    simpa using this
theorem ok_apart {ops : Array Oper} {N : Nat} (h : ok ops N = true) {i j : Nat} {o o' : Oper} (ho : ops[i]? = some o) (ho' : ops[j]? = some o') (hne : i ≠ j) : o.dst ≠ o'.dst := by
  have hi := (Array.getElem?_eq_some_iff.1 ho).1
  have hj := (Array.getElem?_eq_some_iff.1 ho').1
  unfold ok at h
  rw [Bool.and_eq_true] at h
  have h1 := List.all_eq_true.1 (List.all_eq_true.1 h.2 i (List.mem_range.2 hi)) j (List.mem_range.2 hj)
  rw [ho, ho'] at h1
  simp only [Option.map_some, Bool.or_eq_true, decide_eq_true_eq, hne, false_or, Bool.not_eq_true'] at h1
  intro e
  rw [e] at h1
  simp at h1
/-- how many are to come -/
def left (listed : Array Bool) : Nat := listed.toList.count false
theorem left_set {listed : Array Bool} {i : Nat} (h : listed.getD i true = false) : left (listed.setIfInBounds i true) + 1 ≤ left listed := by
  unfold left
  obtain ⟨l⟩ := listed
  simp only [Array.toList_setIfInBounds]
  have hi : i < l.length := by
    by_cases e : i < l.length
    · exact e
    · rw [Array.getD_eq_getD_getElem?, Array.getElem?_eq_none (by simpa using e)] at h; cases h
  have hv : l[i] = false := by simpa [Array.getD_eq_getD_getElem?, hi] using h
  clear h
  induction l generalizing i with
  | nil => simp at hi
  | cons b l ih =>
    cases i with
    | zero =>
      simp at hv
      subst hv
      simp
    | succ i =>
      simp at hi hv
      have := ih hi hv
      simp only [List.set_cons_succ, List.count_cons]
      omega
theorem left_zero {listed : Array Bool} (h : left listed = 0) (i : Nat) : listed.getD i true = true := by
  unfold left at h
  by_cases e : i < listed.size
  · rw [Array.getD_eq_getD_getElem?, Array.getElem?_eq_getElem e]
    have := List.count_eq_zero.1 h
    cases hb : listed[i] with
    | true => rfl
    | false => exact absurd (by rw [← hb]; exact Array.getElem_mem_toList e) this
  · rw [Array.getD_eq_getD_getElem?, Array.getElem?_eq_none (by omega)]; rfl
/-- where the region stands -/
structure J (ops : Array Oper) (N : Nat) (G : Nat → Value → World → Prop) (a : Act) (w : World) (listed : Array Bool) (b : Act) (v : World) : Prop where
  below : Below w.heap.size w v
  size : b.tmps.size = N
  defers : b.defers = a.defers
  rest : ∀ s, (∀ (i : Nat) (o : Oper), ops[i]? = some o → o.dst ≠ some s) → b.tmps.getD s undef = a.tmps.getD s undef
  good : ∀ (i : Nat) (o : Oper) (d : Tmp), ops[i]? = some o → o.dst = some d → listed.getD i false = true → G i (b.tmps.getD d undef) v
  lsize : listed.size = ops.size
/-- what an operation's step must do -/
def Does (P : Program) (G : Nat → Value → World → Prop) (Q : Exit → Act → World → Prop) (i : Nat) (o : Oper) (b : Act) (v : World) : Prop :=
  o.wp P b v (fun b' v' => ∃ x, b' = b.put o.dst x ∧ G i x v' ∧ Below v.heap.size v v') Q
theorem put_same (b : Act) (d : Nat) (x : Value) (h : d < b.tmps.size) : (b.put (some d) x).tmps.getD d undef = x := by
  simp [Act.put, Array.getD_eq_getD_getElem?, h]
theorem put_other (b : Act) (d s : Nat) (x : Value) (h : d ≠ s) : (b.put (some d) x).tmps.getD s undef = b.tmps.getD s undef := by
  simp [Act.put, Array.getD_eq_getD_getElem?, Array.getElem?_setIfInBounds_ne h]
theorem put_size (b : Act) (d : Nat) (x : Value) : (b.put (some d) x).tmps.size = b.tmps.size := by simp [Act.put]
theorem put_defers (b : Act) (d : Nat) (x : Value) : (b.put (some d) x).defers = b.defers := rfl
theorem any_grow {P : Program} {ops : Array Oper} {Q : Exit → Act → World → Prop} {N : Nat} {G : Nat → Value → World → Prop} {a : Act} {w : World} (hok : ok ops N = true)
    (hkeep : ∀ i x v v', G i x v → Below v.heap.size v v' → G i x v')
    (hgd : ∀ (i : Nat) (o : Oper) (k : Nat) (t : Bool), ops[i]? = some o → o.guard = some (k, t) → ∀ x v, G k x v → x = .bool t)
    (hstep : ∀ (i : Nat) (o : Oper) (b : Act) (v : World), ops[i]? = some o → Below w.heap.size w v → (∀ s, (∀ (i : Nat) (o : Oper), ops[i]? = some o → o.dst ≠ some s) → b.tmps.getD s undef = a.tmps.getD s undef) →
      (∀ e ∈ o.after, Region.binds .any e = true → ∀ (o' : Oper) (d : Tmp), ops[e.on]? = some o' → o'.dst = some d → G e.on (b.tmps.getD d undef) v) → Does P G Q i o b v)
    (hend : ∀ b v, Below w.heap.size w v → b.tmps.size = N → b.defers = a.defers → (∀ s, (∀ (i : Nat) (o : Oper), ops[i]? = some o → o.dst ≠ some s) → b.tmps.getD s undef = a.tmps.getD s undef) →
      (∀ (i : Nat) (o : Oper) (d : Tmp), ops[i]? = some o → o.dst = some d → G i (b.tmps.getD d undef) v) → Q .normal b v) :
    ∀ (fuel : Nat) (listed : Array Bool) (b : Act) (v : World), left listed ≤ fuel → J ops N G a w listed b v → wpAny P .any ops Q fuel listed b v := by
  have hfin : ∀ (listed : Array Bool) (b : Act) (v : World), J ops N G a w listed b v → Region.ready .any ops listed = [] → Q .normal b v := by
    intro listed b v hJ hr
    refine hend b v hJ.below hJ.size hJ.defers hJ.rest ?_
    have hall : ∀ i : Nat, i < ops.size → listed.getD i false = true := by
      intro i
      induction i using Nat.strongRecOn with
      | ind i ih =>
        intro hi
        cases hb : listed.getD i false with
        | true => rfl
        | false =>
          have hmem : i ∈ Region.ready .any ops listed := by
            refine mem_ready.2 ⟨?_, ops[i], Array.getElem?_eq_getElem hi, fun e he _ => ?_⟩
            · rw [Array.getD_eq_getD_getElem?, Array.getElem?_eq_getElem (by rw [hJ.lsize]; exact hi)] at hb ⊢
              exact hb
            · have hlt := (ok_at hok (Array.getElem?_eq_getElem hi)).2.2 e he
              exact ih e.on hlt (by omega)
          rw [hr] at hmem
          cases hmem
    exact fun i o d ho hd => hJ.good i o d ho hd (hall i (Array.getElem?_eq_some_iff.1 ho).1)
  intro fuel
  induction fuel with
  | zero =>
    intro listed b v hl hJ
    have hr : Region.ready .any ops listed = [] := by
      refine List.eq_nil_iff_forall_not_mem.2 fun i hi => ?_
      have := (mem_ready.1 hi).1
      rw [left_zero (by omega) i] at this
      cases this
    exact ⟨hr, hfin _ _ _ hJ hr⟩
  | succ fuel ih =>
    intro listed b v hl hJ
    refine ⟨hfin _ _ _ hJ, fun i hi => ?_⟩
    obtain ⟨h0, o, ho, hdep⟩ := mem_ready.1 hi
    obtain ⟨hg, ⟨d, hd, hdN⟩, hback⟩ := ok_at hok ho
    have hilt := (Array.getElem?_eq_some_iff.1 ho).1
    unfold wpOp
    rw [ho]
    dsimp only
    have hwant : Region.wanted o (yielded ops b.tmps) = true := by
      unfold Region.wanted
      cases hgo : o.guard with
      | none => rfl
      | some g =>
        obtain ⟨k, t⟩ := g
        obtain ⟨e, he, hek, heb⟩ := hg _ hgo
        dsimp only at hek ⊢
        have hlk := hdep e he heb
        have hlt : e.on < ops.size := by have := hback e he; omega
        obtain ⟨_, ⟨d', hd', hdN'⟩, _⟩ := ok_at hok (Array.getElem?_eq_getElem hlt)
        have hx := hgd i o k t ho hgo _ _ (hek ▸ hJ.good e.on _ d' (Array.getElem?_eq_getElem hlt) hd' hlk)
        unfold yielded
        rw [← hek, Array.getElem?_eq_getElem hlt]
        simp only [Option.bind_some, hd']
        have hs2 : d' < b.tmps.size := by rw [hJ.size]; exact hdN'
        rw [Array.getD_eq_getD_getElem?, Array.getElem?_eq_getElem hs2] at hx
        rw [Array.getElem?_eq_getElem hs2]
        simp only [Option.getD_some] at hx
        rw [hx]
        simp
    rw [if_pos hwant]
    refine .inl ?_
    refine Oper.wp_mono ?_ (hstep i o b v ho hJ.below hJ.rest fun e he hb o' d' ho' hd' => hJ.good e.on o' d' ho' hd' (hdep e he hb))
    rintro b' v' ⟨x, rfl, hG, hb⟩
    refine ih _ _ _ (by have := left_set h0; omega) ?_
    rw [hd]
    refine ⟨hJ.below.trans (hb.mono hJ.below.size), by rw [put_size]; exact hJ.size, by rw [put_defers]; exact hJ.defers, ?_, ?_, by simpa using hJ.lsize⟩
    · intro s hs
      rw [put_other _ _ _ _ (fun e => hs i o ho (by rw [hd, e]))]
      exact hJ.rest s hs
    · intro j oj dj hoj hdj hlj
      by_cases e : i = j
      · subst e
        rw [ho] at hoj
        obtain rfl := Option.some.inj hoj
        rw [hd] at hdj
        obtain rfl := Option.some.inj hdj
        rw [put_same _ _ _ (by rw [hJ.size]; exact hdN)]
        exact hG
      · have hap := ok_apart hok ho hoj e
        rw [hd, hdj] at hap
        rw [put_other _ _ _ _ (fun h => hap (by rw [h]))]
        refine hkeep _ _ _ _ (hJ.good j oj dj hoj hdj ?_) hb
        rw [getD_set_ne false e] at hlj
        exact hlj
/-- the region -/
theorem region_grow {P : Program} {ops : Array Oper} {id : Nat} {Q : Exit → Act → World → Prop} {a : Act} {w : World} (hm : P.follows .mixedOrders = true) (G : Nat → Value → World → Prop) (hok : ok ops a.tmps.size = true)
    (hkeep : ∀ i x v v', G i x v → Below v.heap.size v v' → G i x v')
    (hgd : ∀ (i : Nat) (o : Oper) (k : Nat) (t : Bool), ops[i]? = some o → o.guard = some (k, t) → ∀ x v, G k x v → x = .bool t)
    (hstep : ∀ (i : Nat) (o : Oper) (b : Act) (v : World), ops[i]? = some o → Below w.heap.size w v → (∀ s, (∀ (i : Nat) (o : Oper), ops[i]? = some o → o.dst ≠ some s) → b.tmps.getD s undef = a.tmps.getD s undef) →
      (∀ e ∈ o.after, Region.binds .any e = true → ∀ (o' : Oper) (d : Tmp), ops[e.on]? = some o' → o'.dst = some d → G e.on (b.tmps.getD d undef) v) → Does P G Q i o b v)
    (hend : ∀ b v, Below w.heap.size w v → b.tmps.size = a.tmps.size → b.defers = a.defers → (∀ s, (∀ (i : Nat) (o : Oper), ops[i]? = some o → o.dst ≠ some s) → b.tmps.getD s undef = a.tmps.getD s undef) →
      (∀ (i : Nat) (o : Oper) (d : Tmp), ops[i]? = some o → o.dst = some d → G i (b.tmps.getD d undef) v) → Q .normal b v) :
    (Code.region id ops true).wp P Q a w := by
  refine wp_region_any hm (any_grow (a := a) (w := w) hok hkeep hgd hstep hend _ _ _ _ ?_ ⟨(Below.refl _ _).drew, rfl, rfl, fun _ _ => rfl, ?_, by simp⟩)
  · unfold left
    simp
  · intro i o d ho _ hl
    have hi := (Array.getElem?_eq_some_iff.1 ho).1
    simp [Array.getD_eq_getD_getElem?, hi] at hl
theorem does_pure {P : Program} {G : Nat → Value → World → Prop} {Q : Exit → Act → World → Prop} {i : Nat} {o : Oper} {b : Act} {v : World} (x : Value) (h : (execOp b.eval o).run P v = .ok (.value x) v) (hG : G i x v) : Does P G Q i o b v := by
  unfold Does Oper.wp
  rw [h]
  exact ⟨x, rfl, hG, Below.refl _ _⟩
theorem does_call {P : Program} {G : Nat → Value → World → Prop} {Q : Exit → Act → World → Prop} {i : Nat} {o : Oper} {b : Act} {v : World} {f : FuncId} {args : Array Value} (h : (execOp b.eval o).run P v = .ok (.enter f args) v)
    (hc : Calls P f args v fun e v' => ∃ x, e = .returned x ∧ G i x v' ∧ Below v.heap.size v v') : Does P G Q i o b v := by
  unfold Does Oper.wp
  rw [h]
  refine hc.mono ?_
  rintro e v' ⟨x, rfl, hG, hb⟩
  exact ⟨x, rfl, hG, hb⟩
theorem does_new {P : Program} {G : Nat → Value → World → Prop} {Q : Exit → Act → World → Prop} {i : Nat} {o : Oper} {b : Act} {v v' : World} (x : Value) (h : (execOp b.eval o).run P v = .ok (.value x) v') (hG : G i x v') (hb : Below v.heap.size v v') : Does P G Q i o b v := by
  unfold Does Oper.wp
  rw [h]
  exact ⟨x, rfl, hG, hb⟩
section
variable {P : Program} {G : Nat → Value → World → Prop} {Q : Exit → Act → World → Prop} {i : Nat} {o : Oper} {b : Act} {v : World}
theorem does_move {x : Operand} (ho : o.op = .move x) (hG : G i (b.eval x) v) : Does P G Q i o b v := does_pure _ (by simp [execOp, ho]) hG
theorem does_assign {x : Operand} (ho : o.op = .assign x) (hG : G i (b.eval x) v) : Does P G Q i o b v := does_pure _ (by simp [execOp, ho]) hG
theorem does_pick {x y z : Operand} {t : Bool} (ho : o.op = .pick x y z) (hx : b.eval x = .bool t) (hG : G i (if t then b.eval y else b.eval z) v) : Does P G Q i o b v := does_pure _ (by simp only [execOp, ho]; rw [hx]; cases t <;> simp [asBool]) hG
theorem does_conv {s d : TypeId} {x : Operand} {y : Value} (ho : o.op = .convert s d x) (h : (convert s d (b.eval x)).run P v = .ok y v) (hG : G i y v) : Does P G Q i o b v := does_pure y (by simp [execOp, ho, h, Result.andThen]) hG
theorem does_fn {f : FuncId} {xs : Array Operand} {ts : Array TypeId} {args : Array Value} (ho : o.op = .call { callee := .value (.func f), args := xs, argTypes := ts }) (ek : ∀ args w, (callFunc f args).run P w = .ok (.enter f args) w) (ha : xs.map b.eval = args)
    (hc : Calls P f args v fun e v' => ∃ x, e = .returned x ∧ G i x v' ∧ Below v.heap.size v v') : Does P G Q i o b v := does_call (args := args) (by
      have e : b.eval (.func f) = .func (.func f) #[] #[] := rfl
      simp [execOp, ho, resolve, invoke, e, ha, ek, go_sem]) hc
end
def noGuard (ops : Array Oper) : Bool := (List.range ops.size).all fun i => match ops[i]? with
  | some o => o.guard.isNone
  | none => true
theorem gd_none {ops : Array Oper} {G : Nat → Value → World → Prop} (h : noGuard ops = true) : ∀ (i : Nat) (o : Oper) (k : Nat) (t : Bool), ops[i]? = some o → o.guard = some (k, t) → ∀ x v, G k x v → x = .bool t := by
  intro i o k t ho hg
  unfold noGuard at h
  have h1 := List.all_eq_true.1 h i (List.mem_range.2 (Array.getElem?_eq_some_iff.1 ho).1)
  rw [ho] at h1
  simp [hg] at h1
/-- a slot that no operation of the region fills -/
def free (ops : Array Oper) (s : Tmp) : Bool := (List.range ops.size).all fun i => match ops[i]? with
  | some o => !(o.dst == some s)
  | none => true
theorem free_spec {ops : Array Oper} {s : Tmp} (h : free ops s = true) : ∀ (i : Nat) (o : Oper), ops[i]? = some o → o.dst ≠ some s := by
  intro i o ho e
  unfold free at h
  have h1 := List.all_eq_true.1 h i (List.mem_range.2 (Array.getElem?_eq_some_iff.1 ho).1)
  rw [ho] at h1
  simp [e] at h1
end Go.Proofs.YtomkkkbdipcjgaaDoor.Rg
namespace Go.Proofs.YtomkkkbdipcjgaaDoor.Rg
open Go.RowKit
set_option linter.unusedVariables false
set_option linter.unusedSimpArgs false
/-- E: the operations that only make memory: they have slots of their own and no guards; D: those that have come; the others lean on all of E -/
def okTo (ops : Array Oper) (N : Nat) (E D : Nat → Bool) : Bool :=
  (List.range ops.size).all (fun i => match ops[i]? with
    | some o => if E i then !D i && o.guard.isNone && (match o.dst with | some d => decide (d < N) | none => false) && o.after.all (fun e => decide (e.on < i) && (E e.on || D e.on))
      else D i || (o.after.any fun e => decide (e.on < ops.size) && !E e.on && !D e.on && Region.binds .any e) || (List.range ops.size).all fun j => !E j || o.after.any fun e => decide (e.on = j) && Region.binds .any e
    | none => false) &&
  (List.range ops.size).all (fun i => (List.range ops.size).all fun j => decide (i = j) || !E i || !E j || !((ops[i]?.map (·.dst)) == (ops[j]?.map (·.dst))))
theorem okTo_at {ops : Array Oper} {N : Nat} {E D : Nat → Bool} (h : okTo ops N E D = true) {i : Nat} {o : Oper} (ho : ops[i]? = some o) (hm : E i = true) :
    D i = false ∧ o.guard = none ∧ (∃ d, o.dst = some d ∧ d < N) ∧ ∀ e ∈ o.after, e.on < i ∧ (E e.on = true ∨ D e.on = true) := by
  have hi := (Array.getElem?_eq_some_iff.1 ho).1
  unfold okTo at h
  rw [Bool.and_eq_true] at h
  have h1 := List.all_eq_true.1 h.1 i (List.mem_range.2 hi)
  rw [ho] at h1
  dsimp only at h1
  rw [if_pos hm, Bool.and_eq_true, Bool.and_eq_true, Bool.and_eq_true] at h1
  obtain ⟨⟨⟨h0, h2⟩, h3⟩, h4⟩ := h1
  refine ⟨by simpa using h0, by simpa using h2, ?_, ?_⟩
  · cases hd : o.dst with
    | none => rw [hd] at h3; cases h3
    | some d => rw [hd] at h3; exact ⟨d, rfl, by simpa using h3⟩
  · intro e he
    have := Array.all_eq_true_iff_forall_mem.1 h4 e he
    simpa using this
theorem okTo_late {ops : Array Oper} {N : Nat} {E D : Nat → Bool} (h : okTo ops N E D = true) {i : Nat} {o : Oper} (ho : ops[i]? = some o) (hm : E i = false) (hd : D i = false) (j : Nat) (hj : j < ops.size) (hE : E j = true) : (∃ e ∈ o.after, e.on < ops.size ∧ E e.on = false ∧ D e.on = false ∧ Region.binds .any e = true) ∨ ∃ e ∈ o.after, e.on = j ∧ Region.binds .any e = true := by
  have hi := (Array.getElem?_eq_some_iff.1 ho).1
  unfold okTo at h
  rw [Bool.and_eq_true] at h
  have h1 := List.all_eq_true.1 h.1 i (List.mem_range.2 hi)
  rw [ho] at h1
  dsimp only at h1
  rw [if_neg (by rw [hm]; simp), hd, Bool.false_or, Bool.or_eq_true] at h1
  rcases h1 with h1 | h1
  · obtain ⟨k, hk, hk2⟩ := Array.any_eq_true.1 h1
    refine .inl ⟨_, Array.getElem_mem hk, ?_⟩
    simpa [and_assoc] using hk2
  refine .inr ?_
  have h2 := List.all_eq_true.1 h1 j (List.mem_range.2 hj)
  rw [hE, Bool.not_true, Bool.false_or] at h2
  obtain ⟨k, hk, hk2⟩ := Array.any_eq_true.1 h2
  rw [Bool.and_eq_true, decide_eq_true_eq] at hk2
  exact ⟨_, Array.getElem_mem hk, hk2⟩
theorem okTo_apart {ops : Array Oper} {N : Nat} {E D : Nat → Bool} (h : okTo ops N E D = true) {i j : Nat} {o o' : Oper} (ho : ops[i]? = some o) (ho' : ops[j]? = some o') (hi : E i = true) (hj : E j = true) (hne : i ≠ j) : o.dst ≠ o'.dst := by
  have his := (Array.getElem?_eq_some_iff.1 ho).1
  have hjs := (Array.getElem?_eq_some_iff.1 ho').1
  unfold okTo at h
  rw [Bool.and_eq_true] at h
  have h1 := List.all_eq_true.1 (List.all_eq_true.1 h.2 i (List.mem_range.2 his)) j (List.mem_range.2 hjs)
  rw [ho, ho', hi, hj] at h1
  simp only [Option.map_some, Bool.or_eq_true, decide_eq_true_eq, hne, false_or, Bool.not_eq_true', Bool.not_true, Bool.false_eq_true] at h1
  intro e
  rw [e] at h1
  simp at h1
theorem left_eq {listed : Array Bool} {i : Nat} (h : listed.getD i true = false) : left (listed.setIfInBounds i true) + 1 = left listed := by
  unfold left
  obtain ⟨l⟩ := listed
  simp only [Array.toList_setIfInBounds]
  have hi : i < l.length := by
    by_cases e : i < l.length
    · exact e
    · rw [Array.getD_eq_getD_getElem?, Array.getElem?_eq_none (by simpa using e)] at h; cases h
  have hv : l[i] = false := by simpa [Array.getD_eq_getD_getElem?, hi] using h
  clear h
  induction l generalizing i with
  | nil => simp at hi
  | cons b l ih =>
    cases i with
    | zero =>
      simp at hv
      subst hv
      simp
    | succ i =>
      simp at hi hv
      have := ih hi hv
      simp only [List.set_cons_succ, List.count_cons]
      omega
/-- where the region stands -/
structure K (ops : Array Oper) (N : Nat) (E D : Nat → Bool) (G : Nat → Value → World → Prop) (a : Act) (w : World) (listed : Array Bool) (b : Act) (v : World) : Prop where
  below : Below w.heap.size w v
  size : b.tmps.size = N
  defers : b.defers = a.defers
  rest : ∀ s, (∀ (i : Nat) (o : Oper), E i = true → ops[i]? = some o → o.dst ≠ some s) → b.tmps.getD s undef = a.tmps.getD s undef
  good : ∀ (i : Nat) (o : Oper) (d : Tmp), E i = true → ops[i]? = some o → o.dst = some d → listed.getD i false = true → G i (b.tmps.getD d undef) v
  lsize : listed.size = ops.size
  late : ∀ i, E i = false → i < ops.size → listed.getD i (D i) = D i
  done : ∀ i, D i = true → i < ops.size → listed.getD i false = true
/-- those of E have come -/
def tail (n : Nat) (E D : Nat → Bool) : Array Bool := ((List.range n).map fun i => E i || D i).toArray
theorem any_to {P : Program} {ops : Array Oper} {Q : Exit → Act → World → Prop} {S : World → Prop} {N : Nat} {E D : Nat → Bool} {G : Nat → Value → World → Prop} {a : Act} {w : World} (hok : okTo ops N E D = true)
    (hS : ∀ v, Below w.heap.size w v → S v)
    (hkeep : ∀ i x v v', G i x v → Below v.heap.size v v' → G i x v')
    (hstep : ∀ (i : Nat) (o : Oper) (b : Act) (v : World), E i = true → ops[i]? = some o → Below w.heap.size w v → (∀ s, (∀ (i : Nat) (o : Oper), E i = true → ops[i]? = some o → o.dst ≠ some s) → b.tmps.getD s undef = a.tmps.getD s undef) →
      (∀ e ∈ o.after, Region.binds .any e = true → E e.on = true → ∀ (o' : Oper) (d : Tmp), ops[e.on]? = some o' → o'.dst = some d → G e.on (b.tmps.getD d undef) v) → Does P G Q i o b v)
    (hend : ∀ b v, Below w.heap.size w v → b.tmps.size = N → b.defers = a.defers → (∀ s, (∀ (i : Nat) (o : Oper), E i = true → ops[i]? = some o → o.dst ≠ some s) → b.tmps.getD s undef = a.tmps.getD s undef) →
      (∀ (i : Nat) (o : Oper) (d : Tmp), E i = true → ops[i]? = some o → o.dst = some d → G i (b.tmps.getD d undef) v) → wpAnyH P .any ops Q S (left (tail ops.size E D)) (tail ops.size E D) b v) :
    ∀ (fuel : Nat) (listed : Array Bool) (b : Act) (v : World), left listed = fuel → K ops N E D G a w listed b v → wpAnyH P .any ops Q S fuel listed b v := by
  have hfin : ∀ (fuel : Nat) (listed : Array Bool) (b : Act) (v : World), left listed = fuel → K ops N E D G a w listed b v → (∀ i, i < ops.size → E i = true → listed.getD i false = true) → wpAnyH P .any ops Q S fuel listed b v := by
    intro fuel listed b v hl hJ hall
    have e : listed = tail ops.size E D := by
      apply Array.ext
      · rw [hJ.lsize]; simp [tail]
      · intro i h1 h2
        simp only [tail, List.getElem_toArray, List.getElem_map, List.getElem_range]
        have hi : i < ops.size := by rw [← hJ.lsize]; exact h1
        cases hE : E i with
        | true =>
          have := hall i hi hE
          rw [Array.getD_eq_getD_getElem?, Array.getElem?_eq_getElem h1] at this
          simpa using this
        | false =>
          have := hJ.late i hE hi
          rw [Array.getD_eq_getD_getElem?, Array.getElem?_eq_getElem h1] at this
          simpa using this
    have := hend b v hJ.below hJ.size hJ.defers hJ.rest fun i o d hi ho hd => hJ.good i o d hi ho hd (hall i (Array.getElem?_eq_some_iff.1 ho).1 hi)
    rw [← e, hl] at this
    exact this
  intro fuel
  induction fuel with
  | zero =>
    intro listed b v hl hJ
    refine hfin 0 listed b v hl hJ fun i hi _ => ?_
    have h := left_zero hl i
    rw [Array.getD_eq_getD_getElem?, Array.getElem?_eq_getElem (by rw [hJ.lsize]; omega)] at h ⊢
    exact h
  | succ fuel ih =>
    intro listed b v hl hJ
    by_cases hall : ∀ i, i < ops.size → E i = true → listed.getD i false = true
    · exact hfin _ listed b v hl hJ hall
    · have hmin : ∀ i, i < ops.size → E i = true → listed.getD i false = false → ∃ j, j < ops.size ∧ E j = true ∧ listed.getD j false = false ∧ ∀ k, k < j → E k = true → listed.getD k false = true := by
        intro i
        induction i using Nat.strongRecOn with
        | ind i ih2 =>
          intro his hi hb
          by_cases h : ∀ k, k < i → E k = true → listed.getD k false = true
          · exact ⟨i, his, hi, hb, h⟩
          · have ⟨k, hk⟩ := Classical.not_forall.1 h
            have ⟨hk1, hk⟩ := Classical.not_imp.1 hk
            have ⟨hk2, hk3⟩ := Classical.not_imp.1 hk
            exact ih2 k hk1 (by omega) hk2 (by simpa using hk3)
      have ⟨i0, hi0⟩ := Classical.not_forall.1 hall
      have ⟨hi1, hi0⟩ := Classical.not_imp.1 hi0
      have ⟨hi2, hi3⟩ := Classical.not_imp.1 hi0
      obtain ⟨j, hjs, hjE, hjl, hjk⟩ := hmin i0 hi1 hi2 (by simpa using hi3)
      have hmem : j ∈ Region.ready .any ops listed := by
        refine mem_ready.2 ⟨?_, ops[j], Array.getElem?_eq_getElem hjs, fun e he _ => ?_⟩
        · rw [Array.getD_eq_getD_getElem?, Array.getElem?_eq_getElem (by rw [hJ.lsize]; exact hjs)] at hjl ⊢
          exact hjl
        · obtain ⟨hlt, hor⟩ := (okTo_at hok (Array.getElem?_eq_getElem hjs) hjE).2.2.2 e he
          rcases hor with h | h
          · exact hjk _ hlt h
          · exact hJ.done _ h (by omega)
      refine ⟨fun h => (by rw [h] at hmem; cases hmem), fun i hi => ?_⟩
      obtain ⟨h0, o, ho, hdep⟩ := mem_ready.1 hi
      have his := (Array.getElem?_eq_some_iff.1 ho).1
      have him : E i = true := by
        cases hE : E i with
        | true => rfl
        | false =>
          cases hD : D i with
          | true =>
            have := hJ.done i hD his
            rw [Array.getD_eq_getD_getElem?, Array.getElem?_eq_getElem (by rw [hJ.lsize]; exact his)] at this h0
            simp only [Option.getD_some] at this h0
            rw [this] at h0; cases h0
          | false =>
            rcases okTo_late hok ho hE hD j hjs hjE with ⟨e, he, hes, heE, heD, heb⟩ | ⟨e, he, heo, heb⟩
            · have h1 := hdep e he heb
              have h2 := hJ.late _ heE hes
              rw [heD] at h2
              rw [h1] at h2
              cases h2
            · have := hdep e he heb
              rw [heo, hjl] at this
              cases this
      obtain ⟨hDi, hg, ⟨d, hd, hdN⟩, hback⟩ := okTo_at hok ho him
      unfold wpOp
      rw [ho]
      dsimp only
      rw [if_pos (by simp [Region.wanted, hg])]
      refine .inl ?_
      refine Oper.wp_mono ?_ (hstep i o b v him ho hJ.below hJ.rest fun e he hb hEe o' d' ho' hd' => hJ.good e.on o' d' hEe ho' hd' (hdep e he hb))
      rintro b' v' ⟨x, rfl, hG, hb⟩
      have hbv := hJ.below.trans (hb.mono hJ.below.size)
      refine ⟨hS _ hbv, ih _ _ _ (by have := left_eq h0; omega) ?_⟩
      rw [hd]
      refine ⟨hbv, by rw [put_size]; exact hJ.size, by rw [put_defers]; exact hJ.defers, ?_, ?_, by simpa using hJ.lsize, ?_, ?_⟩
      · intro s hs
        rw [put_other _ _ _ _ (fun e => hs i o him ho (by rw [hd, e]))]
        exact hJ.rest s hs
      · intro j' oj dj hj' hoj hdj hlj
        by_cases e : i = j'
        · subst e
          rw [ho] at hoj
          obtain rfl := Option.some.inj hoj
          rw [hd] at hdj
          obtain rfl := Option.some.inj hdj
          rw [put_same _ _ _ (by rw [hJ.size]; exact hdN)]
          exact hG
        · have hap := okTo_apart hok ho hoj him hj' e
          rw [hd, hdj] at hap
          rw [put_other _ _ _ _ (fun h => hap (by rw [h]))]
          refine hkeep _ _ _ _ (hJ.good j' oj dj hj' hoj hdj ?_) hb
          rw [getD_set_ne false e] at hlj
          exact hlj
      · intro k hk hks
        rw [getD_set_ne _ (fun e => by rw [← e, him] at hk; cases hk)]
        exact hJ.late k hk hks
      · intro k hk hks
        exact getD_set_true (hJ.done k hk hks)
/-- a slot that none of E fills -/
def freeOf (ops : Array Oper) (E : Nat → Bool) (s : Tmp) : Bool := (List.range ops.size).all fun i => match ops[i]? with
  | some o => !E i || !(o.dst == some s)
  | none => true
theorem freeOf_spec {ops : Array Oper} {E : Nat → Bool} {s : Tmp} (h : freeOf ops E s = true) : ∀ (i : Nat) (o : Oper), E i = true → ops[i]? = some o → o.dst ≠ some s := by
  intro i o hE ho e
  unfold freeOf at h
  have h1 := List.all_eq_true.1 h i (List.mem_range.2 (Array.getElem?_eq_some_iff.1 ho).1)
  rw [ho] at h1
  simp [e, hE] at h1
/-- a store into a variable's block -/
theorem store_box {P : Program} {ops : Array Oper} {Q : Exit → Act → World → Prop} {i k : Nat} {o : Oper} {t : TypeId} {x y : Operand} {u : Value} {b : Act} {v : World} {K : Act → World → Prop} (ho : ops[i]? = some o) (hg : o.guard = none) (hd : o.dst = none)
    (hop : o.op = .store t x y) (hx : b.eval x = .pointer (some ⟨k, 0, none⟩)) (hk : Boxed v k t u) (hrun : (Instr.storeAt t (.pointer (some ⟨k, 0, none⟩)) (b.eval y)).run P v = .ok () (v.setCell ⟨k, 0, none⟩ (b.eval y)))
    (h : K b (v.setCell ⟨k, 0, none⟩ (b.eval y))) : wpOp P ops Q i K b v := by
  unfold wpOp
  rw [ho]
  dsimp only
  rw [if_pos (by simp [Region.wanted, hg])]
  refine .inl ?_
  unfold Oper.wp
  have e : (execOp b.eval o).run P v = .ok .skip (v.setCell ⟨k, 0, none⟩ (b.eval y)) := by
    simp [execOp, hop, hx, hrun, Result.andThen]
  rw [e]
  show K (b.put o.dst undef) _
  rw [hd]
  exact h
/-- what an operation does, at the wide fence -/
theorem upon_wide {P : Program} {o : Oper} {a : Act} {next : Act → World → Prop} {Q : Exit → Act → World → Prop} : ∀ r, o.upon P a next Q r → o.uponIn Fence.wide 0 P a next Q r
  | .ok (.value v) w', h => h
  | .ok .skip w', h => h
  | .ok (.defer d) w', h => h
  | .ok (.enter f args) w', h => ⟨fun h => absurd h (by decide), (callsIn_wide (n := 0)).2 h⟩
  | .ok (.row row args) w', h => ⟨fun h => absurd h (by decide), fun c cs _ => let ⟨v, w', r, s⟩ := h c cs; ⟨v, w', r, stepsIn_wide.2 s⟩⟩
  | .ok (.round l f tmps assign body) w', h => (h : False).elim
  | .halt (.panic v) w', h => h
theorem op_wide {P : Program} {ops : Array Oper} {Q : Exit → Act → World → Prop} {i : Nat} (hno : ¬ LetsOut Q) {K : Act → World → Prop} {a : Act} {w : World} (h : wpOp P ops Q i K a w) : wpOpIn Fence.wide 0 P ops Q i K a w := by
  unfold wpOp at h
  unfold wpOpIn
  cases ho : ops[i]? with
  | none => rw [ho] at h; exact h
  | some o =>
    rw [ho] at h
    dsimp only at h ⊢
    split
    · rename_i hw
      rw [if_pos hw] at h
      rcases h with h | h
      · exact ⟨fun _ _ => trivial, upon_wide _ h⟩
      · exact absurd h.2 hno
    · rename_i hw
      rw [if_neg hw] at h
      exact ⟨fun _ _ => trivial, h⟩
theorem any_wide {P : Program} {md : Region.Mode} {ops : Array Oper} {Q : Exit → Act → World → Prop} (hno : ¬ LetsOut Q) :
    ∀ (fuel : Nat) (listed : Array Bool) (a : Act) (w : World), wpAny P md ops Q fuel listed a w → wpAnyIn Fence.wide 0 P md ops Q fuel listed a w
  | 0, listed, a, w, h => h
  | fuel + 1, listed, a, w, h => ⟨h.1, fun i hi => wpOpIn_mono (fun a' w' h' => any_wide hno fuel _ a' w' h') (op_wide hno (h.2 i hi))⟩
/-- a region that draws its order, in a round, walked by what is held -/
theorem round_held {P : Program} {ops : Array Oper} {Q : Exit → Act → World → Prop} (S : World → Prop) {id l : Nat} {a : Act} {w : World} (hm : P.follows .mixedOrders = true) (hd : Rf.noDefer ops = true) (hno : ¬ LetsOut Q)
    (h : wpAnyH P .any ops Q S ops.size (Array.replicate ops.size false) a w.drew) : (Code.region id ops true).wpIn (Fence.wide.inRound l) 0 P Q a w :=
  Rf.region_round hm hd (any_wide hno _ _ _ _ (wpAny_of_held _ _ _ _ h))
/-- a call -/
theorem op_fn {P : Program} {ops : Array Oper} {Q : Exit → Act → World → Prop} {i : Nat} {f : FuncId} {o : Oper} {xs : Array Operand} {ts : Array TypeId} {args : Array Value} {b : Act} {v : World} {K : Act → World → Prop} {R : Value → World → Prop} (ho : ops[i]? = some o) (hg : o.guard = none)
    (hop : o.op = .call { callee := .value (.func f), args := xs, argTypes := ts }) (ek : ∀ args w, (callFunc f args).run P w = .ok (.enter f args) w) (ha : xs.map b.eval = args) (hc : Calls P f args v fun e v' => ∃ x, e = .returned x ∧ R x v') (h : ∀ x v', R x v' → K (b.put o.dst x) v') : wpOp P ops Q i K b v := by
  unfold wpOp
  rw [ho]
  dsimp only
  rw [if_pos (by simp [Region.wanted, hg])]
  refine .inl ?_
  unfold Oper.wp
  have e : b.eval (.func f) = .func (.func f) #[] #[] := rfl
  have e2 : (execOp b.eval o).run P v = .ok (.enter f args) v := by
    simp [execOp, hop, resolve, invoke, e, ha, ek, go_sem]
  rw [e2]
  refine hc.mono ?_
  rintro e v' ⟨x, rfl, hR⟩
  exact h x v' hR
end Go.Proofs.YtomkkkbdipcjgaaDoor.Rg
