/- A region that draws its order, whose operations only make new memory, some of whose guards are off: in whatever order they come, each has its result. -/
import Derived.Test.YtemngcifeglpmaaDoorRg
namespace Go.Proofs.YtemngcifeglpmaaDoor.Rg
open Go.RowKit
set_option linter.unusedVariables false
set_option linter.unusedSimpArgs false
theorem any_growO {P : Program} {ops : Array Oper} {Q : Exit → Act → World → Prop} {N : Nat} {G : Nat → Value → World → Prop} {a : Act} {w : World} (hok : ok ops N = true)
    (hkeep : ∀ i x v v', G i x v → Below v.heap.size v v' → G i x v')
    (hgd : ∀ (i : Nat) (o : Oper) (k : Nat) (t : Bool), ops[i]? = some o → o.guard = some (k, t) → ∀ x v, G k x v → x = .bool t ∨ (x = .bool (!t) ∧ ∀ v, G i undef v))
    (hstep : ∀ (i : Nat) (o : Oper) (b : Act) (v : World), ops[i]? = some o → Below w.heap.size w v → (∀ s, (∀ (i : Nat) (o : Oper), ops[i]? = some o → o.dst ≠ some s) → b.tmps.getD s undef = a.tmps.getD s undef) →
      (∀ e ∈ o.after, Region.binds .any e = true → ∀ (o' : Oper) (d : Tmp), ops[e.on]? = some o' → o'.dst = some d → G e.on (b.tmps.getD d undef) v) → (∀ k t, o.guard = some (k, t) → ∃ x, x = .bool t ∧ G k x v) → Does P G Q i o b v)
    (hend : ∀ b v, Below w.heap.size w v → b.tmps.size = N → b.defers = a.defers → (∀ s, (∀ (i : Nat) (o : Oper), ops[i]? = some o → o.dst ≠ some s) → b.tmps.getD s undef = a.tmps.getD s undef) →
      (∀ (i : Nat) (o : Oper) (d : Tmp), ops[i]? = some o → o.dst = some d → G i (b.tmps.getD d undef) v) → Q .normal b v) :
    ∀ (fuel : Nat) (listed : Array Bool) (b : Act) (v : World), left listed ≤ fuel → J ops N G a w listed b v → wpAny P .any ops Q fuel listed b v := by
  have hfin : ∀ (listed : Array Bool) (b : Act) (v : World), J ops N G a w listed b v → Region.ready .any ops listed = [] → Q .normal b v := by
    intro listed b v hJ hr
    refine hend b v hJ.below hJ.size hJ.defers hJ.rest ?_
    have hall : ∀ i : Nat, i < ops.size → listed.getD i false = true := by
      intro i
      induction i using Nat.strongRecOn with
      | ind i ih =>
        intro hi
        cases hb : listed.getD i false with
        | true => rfl
        | false =>
          have hmem : i ∈ Region.ready .any ops listed := by
            refine mem_ready.2 ⟨?_, ops[i], Array.getElem?_eq_getElem hi, fun e he _ => ?_⟩
            · rw [Array.getD_eq_getD_getElem?, Array.getElem?_eq_getElem (by rw [hJ.lsize]; exact hi)] at hb ⊢
              exact hb
            · have hlt := (ok_at hok (Array.getElem?_eq_getElem hi)).2.2 e he
              exact ih e.on hlt (by omega)
          rw [hr] at hmem
          cases hmem
    exact fun i o d ho hd => hJ.good i o d ho hd (hall i (Array.getElem?_eq_some_iff.1 ho).1)
  intro fuel
  induction fuel with
  | zero =>
    intro listed b v hl hJ
    have hr : Region.ready .any ops listed = [] := by
      refine List.eq_nil_iff_forall_not_mem.2 fun i hi => ?_
      have := (mem_ready.1 hi).1
      rw [left_zero (by omega) i] at this
      cases this
    exact ⟨hr, hfin _ _ _ hJ hr⟩
  | succ fuel ih =>
    intro listed b v hl hJ
    refine ⟨hfin _ _ _ hJ, fun i hi => ?_⟩
    obtain ⟨h0, o, ho, hdep⟩ := mem_ready.1 hi
    obtain ⟨hg, ⟨d, hd, hdN⟩, hback⟩ := ok_at hok ho
    have hilt := (Array.getElem?_eq_some_iff.1 ho).1
    unfold wpOp
    rw [ho]
    dsimp only
    have hwant : (Region.wanted o (yielded ops b.tmps) = true ∧ ∀ k t, o.guard = some (k, t) → ∃ x, x = .bool t ∧ G k x v) ∨ (Region.wanted o (yielded ops b.tmps) = false ∧ ∀ v, G i undef v) := by
      unfold Region.wanted
      cases hgo : o.guard with
      | none => exact .inl ⟨rfl, fun k t h => by cases h⟩
      | some g =>
        obtain ⟨k, t⟩ := g
        obtain ⟨e, he, hek, heb⟩ := hg _ hgo
        dsimp only at hek ⊢
        have hlk := hdep e he heb
        have hlt : e.on < ops.size := by have := hback e he; omega
        obtain ⟨_, ⟨d', hd', hdN'⟩, _⟩ := ok_at hok (Array.getElem?_eq_getElem hlt)
        have hgk := hek ▸ hJ.good e.on _ d' (Array.getElem?_eq_getElem hlt) hd' hlk
        have hx := hgd i o k t ho hgo _ _ hgk
        unfold yielded
        rw [← hek, Array.getElem?_eq_getElem hlt]
        simp only [Option.bind_some, hd']
        have hs2 : d' < b.tmps.size := by rw [hJ.size]; exact hdN'
        rw [Array.getD_eq_getD_getElem?, Array.getElem?_eq_getElem hs2] at hx hgk
        rw [Array.getElem?_eq_getElem hs2]
        simp only [Option.getD_some] at hx hgk
        rcases hx with hx | ⟨hx, hu⟩
        · refine .inl ⟨by rw [hx]; simp, fun k' t' h => ?_⟩
          obtain ⟨rfl, rfl⟩ : e.on = k' ∧ t = t' := by simpa using h
          exact ⟨_, hx, by rw [hek]; exact hgk⟩
        · refine .inr ⟨by rw [hx]; cases t <;> simp, hu⟩
    have hgo : ∀ (x : Value) (v' : World), G i x v' → Below v.heap.size v v' → wpAny P .any ops Q fuel (listed.setIfInBounds i true) (b.put o.dst x) v' := by
      intro x v' hG hb
      refine ih _ _ _ (by have := left_set h0; omega) ?_
      rw [hd]
      refine ⟨hJ.below.trans (hb.mono hJ.below.size), by rw [put_size]; exact hJ.size, by rw [put_defers]; exact hJ.defers, ?_, ?_, by simpa using hJ.lsize⟩
      · intro s hs
        rw [put_other _ _ _ _ (fun e => hs i o ho (by rw [hd, e]))]
        exact hJ.rest s hs
      · intro j oj dj hoj hdj hlj
        by_cases e : i = j
        · subst e
          rw [ho] at hoj
          obtain rfl := Option.some.inj hoj
          rw [hd] at hdj
          obtain rfl := Option.some.inj hdj
          rw [put_same _ _ _ (by rw [hJ.size]; exact hdN)]
          exact hG
        · have hap := ok_apart hok ho hoj e
          rw [hd, hdj] at hap
          rw [put_other _ _ _ _ (fun h => hap (by rw [h]))]
          refine hkeep _ _ _ _ (hJ.good j oj dj hoj hdj ?_) hb
          rw [getD_set_ne false e] at hlj
          exact hlj
    rcases hwant with ⟨hw, hk⟩ | ⟨hw, hu⟩
    · rw [if_pos hw]
      refine .inl ?_
      refine Oper.wp_mono ?_ (hstep i o b v ho hJ.below hJ.rest (fun e he hb o' d' ho' hd' => hJ.good e.on o' d' ho' hd' (hdep e he hb)) hk)
      rintro b' v' ⟨x, rfl, hG, hb⟩
      exact hgo x v' hG hb
    · rw [if_neg (by rw [hw]; simp)]
      exact hgo undef v (hu v) (Below.refl _ _)
/-- the region -/
theorem region_growO {P : Program} {ops : Array Oper} {id : Nat} {Q : Exit → Act → World → Prop} {a : Act} {w : World} (hm : P.follows .mixedOrders = true) (G : Nat → Value → World → Prop) (hok : ok ops a.tmps.size = true)
    (hkeep : ∀ i x v v', G i x v → Below v.heap.size v v' → G i x v')
    (hgd : ∀ (i : Nat) (o : Oper) (k : Nat) (t : Bool), ops[i]? = some o → o.guard = some (k, t) → ∀ x v, G k x v → x = .bool t ∨ (x = .bool (!t) ∧ ∀ v, G i undef v))
    (hstep : ∀ (i : Nat) (o : Oper) (b : Act) (v : World), ops[i]? = some o → Below w.heap.size w v → (∀ s, (∀ (i : Nat) (o : Oper), ops[i]? = some o → o.dst ≠ some s) → b.tmps.getD s undef = a.tmps.getD s undef) →
      (∀ e ∈ o.after, Region.binds .any e = true → ∀ (o' : Oper) (d : Tmp), ops[e.on]? = some o' → o'.dst = some d → G e.on (b.tmps.getD d undef) v) → (∀ k t, o.guard = some (k, t) → ∃ x, x = .bool t ∧ G k x v) → Does P G Q i o b v)
    (hend : ∀ b v, Below w.heap.size w v → b.tmps.size = a.tmps.size → b.defers = a.defers → (∀ s, (∀ (i : Nat) (o : Oper), ops[i]? = some o → o.dst ≠ some s) → b.tmps.getD s undef = a.tmps.getD s undef) →
      (∀ (i : Nat) (o : Oper) (d : Tmp), ops[i]? = some o → o.dst = some d → G i (b.tmps.getD d undef) v) → Q .normal b v) :
    (Code.region id ops true).wp P Q a w := by
  refine wp_region_any hm (any_growO (a := a) (w := w) hok hkeep hgd hstep hend _ _ _ _ ?_ ⟨(Below.refl _ _).drew, rfl, rfl, fun _ _ => rfl, ?_, by simp⟩)
  · unfold left
    simp
  · intro i o d ho _ hl
    have hi := (Array.getElem?_eq_some_iff.1 ho).1
    simp [Array.getD_eq_getD_getElem?, hi] at hl
/-- no guards: nothing to say -/
theorem gd_noneO {ops : Array Oper} {G : Nat → Value → World → Prop} (h : noGuard ops = true) : ∀ (i : Nat) (o : Oper) (k : Nat) (t : Bool), ops[i]? = some o → o.guard = some (k, t) → ∀ x v, G k x v → x = .bool t ∨ (x = .bool (!t) ∧ ∀ v, G i undef v) := by
  intro i o k t ho hg x v hG
  exact .inl (gd_none h i o k t ho hg x v hG)
end Go.Proofs.YtemngcifeglpmaaDoor.Rg
