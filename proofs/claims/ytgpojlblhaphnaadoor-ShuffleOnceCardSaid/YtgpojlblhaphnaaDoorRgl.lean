/- A region that draws its order, whose operations only make new memory; where a later one is named that does not bind (late stores). Written by mkrgl.py. -/
import Derived.Test.YtgpojlblhaphnaaDoorRg
namespace Go.Proofs.YtgpojlblhaphnaaDoor.Rg
open Go.RowKit
set_option linter.unusedVariables false
set_option linter.unusedSimpArgs false
/-- no guards, each operation has a slot of its own, and leans on earlier ones -/
def okL (ops : Array Oper) (N : Nat) : Bool :=
  (List.range ops.size).all (fun i => match ops[i]? with
    | some o => (match o.guard with | none => true | some g => o.after.any fun e => decide (e.on = g.1) && Region.binds .any e) && (match o.dst with | some d => decide (d < N) | none => false) && o.after.all (fun e => decide (e.on < i) || !Region.binds .any e)
    | none => false) &&
  (List.range ops.size).all (fun i => (List.range ops.size).all fun j => decide (i = j) || !((ops[i]?.map (·.dst)) == (ops[j]?.map (·.dst))))
theorem ok_atL {ops : Array Oper} {N : Nat} (h : okL ops N = true) {i : Nat} {o : Oper} (ho : ops[i]? = some o) :
    (∀ g, o.guard = some g → ∃ e ∈ o.after, e.on = g.1 ∧ Region.binds .any e = true) ∧ (∃ d, o.dst = some d ∧ d < N) ∧ ∀ e ∈ o.after, Region.binds .any e = true → e.on < i := by
  have hi := (Array.getElem?_eq_some_iff.1 ho).1
  unfold okL at h
  rw [Bool.and_eq_true] at h
  have h1 := List.all_eq_true.1 h.1 i (List.mem_range.2 hi)
  rw [ho] at h1
  dsimp only at h1
  rw [Bool.and_eq_true, Bool.and_eq_true] at h1
  obtain ⟨⟨h2, h3⟩, h4⟩ := h1
  refine ⟨?_, ?_, ?_⟩
  · intro g hg
    rw [hg] at h2
    obtain ⟨k, hk, hk2⟩ := Array.any_eq_true.1 h2
    rw [Bool.and_eq_true, decide_eq_true_eq] at hk2
    exact ⟨_, Array.getElem_mem hk, hk2⟩
  · cases hd : o.dst with
    | none => rw [hd] at h3; cases h3
    | some d => rw [hd] at h3; exact ⟨d, rfl, by simpa using h3⟩
  · intro e he hb
    have := Array.all_eq_true_iff_forall_mem.1 h4 e he
    rw [hb] at this
    simpa using this
theorem ok_apartL {ops : Array Oper} {N : Nat} (h : okL ops N = true) {i j : Nat} {o o' : Oper} (ho : ops[i]? = some o) (ho' : ops[j]? = some o') (hne : i ≠ j) : o.dst ≠ o'.dst := by
  have hi := (Array.getElem?_eq_some_iff.1 ho).1
  have hj := (Array.getElem?_eq_some_iff.1 ho').1
  unfold okL at h
  rw [Bool.and_eq_true] at h
  have h1 := List.all_eq_true.1 (List.all_eq_true.1 h.2 i (List.mem_range.2 hi)) j (List.mem_range.2 hj)
  rw [ho, ho'] at h1
  simp only [Option.map_some, Bool.or_eq_true, decide_eq_true_eq, hne, false_or, Bool.not_eq_true'] at h1
  intro e
  rw [e] at h1
  simp at h1
theorem any_growL {P : Program} {ops : Array Oper} {Q : Exit → Act → World → Prop} {N : Nat} {G : Nat → Value → World → Prop} {a : Act} {w : World} (hok : okL ops N = true)
    (hkeep : ∀ i x v v', G i x v → Below v.heap.size v v' → G i x v')
    (hgd : ∀ (i : Nat) (o : Oper) (k : Nat) (t : Bool), ops[i]? = some o → o.guard = some (k, t) → ∀ x v, G k x v → x = .bool t)
    (hstep : ∀ (i : Nat) (o : Oper) (b : Act) (v : World), ops[i]? = some o → Below w.heap.size w v → (∀ s, (∀ (i : Nat) (o : Oper), ops[i]? = some o → o.dst ≠ some s) → b.tmps.getD s undef = a.tmps.getD s undef) →
      (∀ e ∈ o.after, Region.binds .any e = true → ∀ (o' : Oper) (d : Tmp), ops[e.on]? = some o' → o'.dst = some d → G e.on (b.tmps.getD d undef) v) → Does P G Q i o b v)
    (hend : ∀ b v, Below w.heap.size w v → b.tmps.size = N → b.defers = a.defers → (∀ s, (∀ (i : Nat) (o : Oper), ops[i]? = some o → o.dst ≠ some s) → b.tmps.getD s undef = a.tmps.getD s undef) →
      (∀ (i : Nat) (o : Oper) (d : Tmp), ops[i]? = some o → o.dst = some d → G i (b.tmps.getD d undef) v) → Q .normal b v) :
    ∀ (fuel : Nat) (listed : Array Bool) (b : Act) (v : World), left listed ≤ fuel → J ops N G a w listed b v → wpAny P .any ops Q fuel listed b v := by
  have hfin : ∀ (listed : Array Bool) (b : Act) (v : World), J ops N G a w listed b v → Region.ready .any ops listed = [] → Q .normal b v := by
    intro listed b v hJ hr
    refine hend b v hJ.below hJ.size hJ.defers hJ.rest ?_
    have hall : ∀ i : Nat, i < ops.size → listed.getD i false = true := by
      intro i
      induction i using Nat.strongRecOn with
      | ind i ih =>
        intro hi
        cases hb : listed.getD i false with
        | true => rfl
        | false =>
          have hmem : i ∈ Region.ready .any ops listed := by
            refine mem_ready.2 ⟨?_, ops[i], Array.getElem?_eq_getElem hi, fun e he hbe => ?_⟩
            · rw [Array.getD_eq_getD_getElem?, Array.getElem?_eq_getElem (by rw [hJ.lsize]; exact hi)] at hb ⊢
              exact hb
            · have hlt := (ok_atL hok (Array.getElem?_eq_getElem hi)).2.2 e he hbe
              exact ih e.on hlt (by omega)
          rw [hr] at hmem
          cases hmem
    exact fun i o d ho hd => hJ.good i o d ho hd (hall i (Array.getElem?_eq_some_iff.1 ho).1)
  intro fuel
  induction fuel with
  | zero =>
    intro listed b v hl hJ
    have hr : Region.ready .any ops listed = [] := by
      refine List.eq_nil_iff_forall_not_mem.2 fun i hi => ?_
      have := (mem_ready.1 hi).1
      rw [left_zero (by omega) i] at this
      cases this
    exact ⟨hr, hfin _ _ _ hJ hr⟩
  | succ fuel ih =>
    intro listed b v hl hJ
    refine ⟨hfin _ _ _ hJ, fun i hi => ?_⟩
    obtain ⟨h0, o, ho, hdep⟩ := mem_ready.1 hi
    obtain ⟨hg, ⟨d, hd, hdN⟩, hback⟩ := ok_atL hok ho
    have hilt := (Array.getElem?_eq_some_iff.1 ho).1
    unfold wpOp
    rw [ho]
    dsimp only
    have hwant : Region.wanted o (yielded ops b.tmps) = true := by
      unfold Region.wanted
      cases hgo : o.guard with
      | none => rfl
      | some g =>
        obtain ⟨k, t⟩ := g
        obtain ⟨e, he, hek, heb⟩ := hg _ hgo
        dsimp only at hek ⊢
        have hlk := hdep e he heb
        have hlt : e.on < ops.size := by have := hback e he heb; omega
        obtain ⟨_, ⟨d', hd', hdN'⟩, _⟩ := ok_atL hok (Array.getElem?_eq_getElem hlt)
        have hx := hgd i o k t ho hgo _ _ (hek ▸ hJ.good e.on _ d' (Array.getElem?_eq_getElem hlt) hd' hlk)
        unfold yielded
        rw [← hek, Array.getElem?_eq_getElem hlt]
        simp only [Option.bind_some, hd']
        have hs2 : d' < b.tmps.size := by rw [hJ.size]; exact hdN'
        rw [Array.getD_eq_getD_getElem?, Array.getElem?_eq_getElem hs2] at hx
        rw [Array.getElem?_eq_getElem hs2]
        simp only [Option.getD_some] at hx
        rw [hx]
        simp
    rw [if_pos hwant]
    refine .inl ?_
    refine Oper.wp_mono ?_ (hstep i o b v ho hJ.below hJ.rest fun e he hb o' d' ho' hd' => hJ.good e.on o' d' ho' hd' (hdep e he hb))
    rintro b' v' ⟨x, rfl, hG, hb⟩
    refine ih _ _ _ (by have := left_set h0; omega) ?_
    rw [hd]
    refine ⟨hJ.below.trans (hb.mono hJ.below.size), by rw [put_size]; exact hJ.size, by rw [put_defers]; exact hJ.defers, ?_, ?_, by simpa using hJ.lsize⟩
    · intro s hs
      rw [put_other _ _ _ _ (fun e => hs i o ho (by rw [hd, e]))]
      exact hJ.rest s hs
    · intro j oj dj hoj hdj hlj
      by_cases e : i = j
      · subst e
        rw [ho] at hoj
        obtain rfl := Option.some.inj hoj
        rw [hd] at hdj
        obtain rfl := Option.some.inj hdj
        rw [put_same _ _ _ (by rw [hJ.size]; exact hdN)]
        exact hG
      · have hap := ok_apartL hok ho hoj e
        rw [hd, hdj] at hap
        rw [put_other _ _ _ _ (fun h => hap (by rw [h]))]
        refine hkeep _ _ _ _ (hJ.good j oj dj hoj hdj ?_) hb
        rw [getD_set_ne false e] at hlj
        exact hlj
/-- the region -/
theorem region_growL {P : Program} {ops : Array Oper} {id : Nat} {Q : Exit → Act → World → Prop} {a : Act} {w : World} (hm : P.follows .mixedOrders = true) (G : Nat → Value → World → Prop) (hok : okL ops a.tmps.size = true)
    (hkeep : ∀ i x v v', G i x v → Below v.heap.size v v' → G i x v')
    (hgd : ∀ (i : Nat) (o : Oper) (k : Nat) (t : Bool), ops[i]? = some o → o.guard = some (k, t) → ∀ x v, G k x v → x = .bool t)
    (hstep : ∀ (i : Nat) (o : Oper) (b : Act) (v : World), ops[i]? = some o → Below w.heap.size w v → (∀ s, (∀ (i : Nat) (o : Oper), ops[i]? = some o → o.dst ≠ some s) → b.tmps.getD s undef = a.tmps.getD s undef) →
      (∀ e ∈ o.after, Region.binds .any e = true → ∀ (o' : Oper) (d : Tmp), ops[e.on]? = some o' → o'.dst = some d → G e.on (b.tmps.getD d undef) v) → Does P G Q i o b v)
    (hend : ∀ b v, Below w.heap.size w v → b.tmps.size = a.tmps.size → b.defers = a.defers → (∀ s, (∀ (i : Nat) (o : Oper), ops[i]? = some o → o.dst ≠ some s) → b.tmps.getD s undef = a.tmps.getD s undef) →
      (∀ (i : Nat) (o : Oper) (d : Tmp), ops[i]? = some o → o.dst = some d → G i (b.tmps.getD d undef) v) → Q .normal b v) :
    (Code.region id ops true).wp P Q a w := by
  refine wp_region_any hm (any_growL (a := a) (w := w) hok hkeep hgd hstep hend _ _ _ _ ?_ ⟨(Below.refl _ _).drew, rfl, rfl, fun _ _ => rfl, ?_, by simp⟩)
  · unfold left
    simp
  · intro i o d ho _ hl
    have hi := (Array.getElem?_eq_some_iff.1 ho).1
    simp [Array.getD_eq_getD_getElem?, hi] at hl
end Go.Proofs.YtgpojlblhaphnaaDoor.Rg
