/- A region that draws its order, in which some operations (L) make memory that must be apart: their results differ. -/
import Derived.Test.YtfccpfmgkpcnoaaDoorRg
namespace Go.Proofs.YtfccpfmgkpcnoaaDoor.Rg
open Go.RowKit
set_option linter.unusedVariables false
set_option linter.unusedSimpArgs false
/-- does i wait for j, at once or by others? -/
def need (ops : Array Oper) : Nat → Nat → Nat → Bool
  | 0, _, _ => false
  | f + 1, i, j => match ops[i]? with
    | some o => o.after.any fun e => Region.binds .any e && (decide (e.on = j) || need ops f e.on j)
    | none => false
/-- what has come has come behind what it waits for -/
def Closed (ops : Array Oper) (listed : Array Bool) : Prop := ∀ (i : Nat) (o : Oper), ops[i]? = some o → listed.getD i false = true → ∀ e ∈ o.after, Region.binds .any e = true → listed.getD e.on false = true
theorem need_spec {ops : Array Oper} {listed : Array Bool} (hC : Closed ops listed) : ∀ (f i j : Nat) (o : Oper), ops[i]? = some o → (∀ e ∈ o.after, Region.binds .any e = true → listed.getD e.on false = true) → need ops f i j = true → listed.getD j false = true := by
  intro f
  induction f with
  | zero => intro i j o _ _ h; cases h
  | succ f ih =>
    intro i j o ho hdep h
    unfold need at h
    rw [ho] at h
    dsimp only at h
    obtain ⟨k, hk, hk2⟩ := Array.any_eq_true.1 h
    rw [Bool.and_eq_true, Bool.or_eq_true, decide_eq_true_eq] at hk2
    have h1 := hdep _ (Array.getElem_mem hk) hk2.1
    rcases hk2.2 with h2 | h2
    · rw [← h2]; exact h1
    · have h3 : ∃ o', ops[(o.after[k]).on]? = some o' := by
        cases h4 : ops[(o.after[k]).on]? with
        | some o' => exact ⟨o', rfl⟩
        | none =>
          cases f with
          | zero => cases h2
          | succ f => unfold need at h2; rw [h4] at h2; cases h2
      obtain ⟨o', ho'⟩ := h3
      exact ih _ j o' ho' (hC _ o' ho' h1) h2
def okD (ops : Array Oper) (N : Nat) (E : Nat → Bool) : Bool :=
  (List.range ops.size).all (fun i => match ops[i]? with
    | some o => if E i then o.guard.isNone && (match o.dst with | some d => decide (d < N) | none => false) && o.after.all (fun e => decide (e.on < i) && E e.on)
      else (o.after.any fun e => decide (e.on < ops.size) && !E e.on && Region.binds .any e) || (List.range ops.size).all fun j => !E j || need ops 16 i j
    | none => false) &&
  (List.range ops.size).all (fun i => (List.range ops.size).all fun j => decide (i = j) || !E i || !E j || !((ops[i]?.map (·.dst)) == (ops[j]?.map (·.dst))))
theorem okD_at {ops : Array Oper} {N : Nat} {E : Nat → Bool} (h : okD ops N E = true) {i : Nat} {o : Oper} (ho : ops[i]? = some o) (hm : E i = true) :
    o.guard = none ∧ (∃ d, o.dst = some d ∧ d < N) ∧ ∀ e ∈ o.after, e.on < i ∧ E e.on = true := by
  have hi := (Array.getElem?_eq_some_iff.1 ho).1
  unfold okD at h
  rw [Bool.and_eq_true] at h
  have h1 := List.all_eq_true.1 h.1 i (List.mem_range.2 hi)
  rw [ho] at h1
  dsimp only at h1
  rw [if_pos hm, Bool.and_eq_true, Bool.and_eq_true] at h1
  obtain ⟨⟨h2, h3⟩, h4⟩ := h1
  refine ⟨by simpa using h2, ?_, ?_⟩
  · cases hd : o.dst with
    | none => rw [hd] at h3; cases h3
    | some d => rw [hd] at h3; exact ⟨d, rfl, by simpa using h3⟩
  · intro e he
    have := Array.all_eq_true_iff_forall_mem.1 h4 e he
    simpa using this
theorem okD_late {ops : Array Oper} {N : Nat} {E : Nat → Bool} (h : okD ops N E = true) {i : Nat} {o : Oper} (ho : ops[i]? = some o) (hm : E i = false) (j : Nat) (hj : j < ops.size) (hE : E j = true) : (∃ e ∈ o.after, e.on < ops.size ∧ E e.on = false ∧ Region.binds .any e = true) ∨ need ops 16 i j = true := by
  have hi := (Array.getElem?_eq_some_iff.1 ho).1
  unfold okD at h
  rw [Bool.and_eq_true] at h
  have h1 := List.all_eq_true.1 h.1 i (List.mem_range.2 hi)
  rw [ho] at h1
  dsimp only at h1
  rw [if_neg (by rw [hm]; simp), Bool.or_eq_true] at h1
  rcases h1 with h1 | h1
  · obtain ⟨k, hk, hk2⟩ := Array.any_eq_true.1 h1
    refine .inl ⟨_, Array.getElem_mem hk, ?_⟩
    simpa [and_assoc] using hk2
  refine .inr ?_
  have h2 := List.all_eq_true.1 h1 j (List.mem_range.2 hj)
  rwa [hE, Bool.not_true, Bool.false_or] at h2
theorem okD_apart {ops : Array Oper} {N : Nat} {E : Nat → Bool} (h : okD ops N E = true) {i j : Nat} {o o' : Oper} (ho : ops[i]? = some o) (ho' : ops[j]? = some o') (hi : E i = true) (hj : E j = true) (hne : i ≠ j) : o.dst ≠ o'.dst := by
  have his := (Array.getElem?_eq_some_iff.1 ho).1
  have hjs := (Array.getElem?_eq_some_iff.1 ho').1
  unfold okD at h
  rw [Bool.and_eq_true] at h
  have h1 := List.all_eq_true.1 (List.all_eq_true.1 h.2 i (List.mem_range.2 his)) j (List.mem_range.2 hjs)
  rw [ho, ho', hi, hj] at h1
  simp only [Option.map_some, Bool.or_eq_true, decide_eq_true_eq, hne, false_or, Bool.not_eq_true', Bool.not_true, Bool.false_eq_true] at h1
  intro e
  rw [e] at h1
  simp at h1
def DoesD (L : Nat → Bool) (P : Program) (G : Nat → Value → World → Prop) (Q : Exit → Act → World → Prop) (i : Nat) (o : Oper) (b : Act) (v : World) : Prop :=
  o.wp P b v (fun b' v' => ∃ x, b' = b.put o.dst x ∧ G i x v' ∧ Below v.heap.size v v' ∧ (L i = true → ∀ j y, L j = true → G j y v → x ≠ y)) Q
theorem DoesD.of {L : Nat → Bool} {P : Program} {G : Nat → Value → World → Prop} {Q : Exit → Act → World → Prop} {i : Nat} {o : Oper} {b : Act} {v : World} (hL : L i = false) (h : Does P G Q i o b v) : DoesD L P G Q i o b v := by
  refine Oper.wp_mono ?_ h
  rintro b' v' ⟨x, e, g, hb⟩
  exact ⟨x, e, g, hb, fun h => by rw [hL] at h; cases h⟩
/-- the results of two of L that have come differ -/
def Pair (ops : Array Oper) (E L : Nat → Bool) (C : Nat → Bool) (b : Act) : Prop :=
  ∀ (i j : Nat) (o o' : Oper) (d d' : Tmp), E i = true → E j = true → i ≠ j → L i = true → L j = true → ops[i]? = some o → ops[j]? = some o' → o.dst = some d → o'.dst = some d' → C i = true → C j = true → b.tmps.getD d undef ≠ b.tmps.getD d' undef
theorem Pair.put {ops : Array Oper} {N : Nat} {E L : Nat → Bool} {G : Nat → Value → World → Prop} {a : Act} {w : World} {listed : Array Bool} {b : Act} {v : World} (hPr : Pair ops E L (fun i => listed.getD i false) b)
    (hok : okD ops N E = true) {i : Nat} {o : Oper} {d : Tmp} {x : Value} (ho : ops[i]? = some o) (hd : o.dst = some d) (hdN : d < N) (hJ : K ops N E (fun _ => false) G a w listed b v) (him : E i = true)
    (hLx : L i = true → ∀ j y, L j = true → G j y v → x ≠ y) : Pair ops E L (fun k => (listed.setIfInBounds i true).getD k false) (b.put (some d) x) := by
  intro i1 j1 o1 o2 d1 d2 e1 e2 hne l1 l2 ho1 ho2 hd1 hd2 c1 c2
  dsimp only at c1 c2
  by_cases h1 : i = i1
  · subst h1
    rw [ho] at ho1
    obtain rfl := Option.some.inj ho1
    rw [hd] at hd1
    obtain rfl := Option.some.inj hd1
    have hap := okD_apart hok ho ho2 him e2 hne
    rw [hd, hd2] at hap
    rw [put_same _ _ _ (by rw [hJ.size]; exact hdN), put_other _ _ _ _ (fun h => hap (by rw [h]))]
    rw [getD_set_ne false hne] at c2
    exact hLx l1 j1 _ l2 (hJ.good j1 o2 d2 e2 ho2 hd2 c2)
  · by_cases h2 : i = j1
    · subst h2
      rw [ho] at ho2
      obtain rfl := Option.some.inj ho2
      rw [hd] at hd2
      obtain rfl := Option.some.inj hd2
      have hap := okD_apart hok ho1 ho e1 him hne
      rw [hd1, hd] at hap
      rw [put_same _ _ _ (by rw [hJ.size]; exact hdN), put_other _ _ _ _ (fun h => hap (by rw [h]))]
      rw [getD_set_ne false h1] at c1
      exact fun h => hLx l2 i1 _ l1 (hJ.good i1 o1 d1 e1 ho1 hd1 c1) h.symm
    · have a1 := okD_apart hok ho ho1 him e1 h1
      have a2 := okD_apart hok ho ho2 him e2 h2
      rw [hd, hd1] at a1
      rw [hd, hd2] at a2
      rw [put_other _ _ _ _ (fun h => a1 (by rw [h])), put_other _ _ _ _ (fun h => a2 (by rw [h]))]
      rw [getD_set_ne false h1] at c1
      rw [getD_set_ne false h2] at c2
      exact hPr i1 j1 o1 o2 d1 d2 e1 e2 hne l1 l2 ho1 ho2 hd1 hd2 c1 c2
theorem any_toD {P : Program} {ops : Array Oper} {Q : Exit → Act → World → Prop} {S : World → Prop} {N : Nat} {E : Nat → Bool} {G : Nat → Value → World → Prop} {L : Nat → Bool} {a : Act} {w : World} (hok : okD ops N E = true)
    (hS : ∀ v, Below w.heap.size w v → S v)
    (hkeep : ∀ i x v v', G i x v → Below v.heap.size v v' → G i x v')
    (hstep : ∀ (i : Nat) (o : Oper) (b : Act) (v : World), E i = true → ops[i]? = some o → Below w.heap.size w v → (∀ s, (∀ (i : Nat) (o : Oper), E i = true → ops[i]? = some o → o.dst ≠ some s) → b.tmps.getD s undef = a.tmps.getD s undef) →
      (∀ e ∈ o.after, Region.binds .any e = true → E e.on = true → ∀ (o' : Oper) (d : Tmp), ops[e.on]? = some o' → o'.dst = some d → G e.on (b.tmps.getD d undef) v) → DoesD L P G Q i o b v)
    (hend : ∀ b v, Below w.heap.size w v → b.tmps.size = N → b.defers = a.defers → (∀ s, (∀ (i : Nat) (o : Oper), E i = true → ops[i]? = some o → o.dst ≠ some s) → b.tmps.getD s undef = a.tmps.getD s undef) →
      (∀ (i : Nat) (o : Oper) (d : Tmp), E i = true → ops[i]? = some o → o.dst = some d → G i (b.tmps.getD d undef) v) → Pair ops E L (fun _ => true) b → wpAnyH P .any ops Q S (left (tail ops.size E (fun _ => false))) (tail ops.size E (fun _ => false)) b v) :
    ∀ (fuel : Nat) (listed : Array Bool) (b : Act) (v : World), left listed = fuel → K ops N E (fun _ => false) G a w listed b v → Pair ops E L (fun i => listed.getD i false) b → Closed ops listed → wpAnyH P .any ops Q S fuel listed b v := by
  have hfin : ∀ (fuel : Nat) (listed : Array Bool) (b : Act) (v : World), left listed = fuel → K ops N E (fun _ => false) G a w listed b v → Pair ops E L (fun i => listed.getD i false) b → (∀ i, i < ops.size → E i = true → listed.getD i false = true) → wpAnyH P .any ops Q S fuel listed b v := by
    intro fuel listed b v hl hJ hPr hall
    have e : listed = tail ops.size E (fun _ => false) := by
      apply Array.ext
      · rw [hJ.lsize]; simp [tail]
      · intro i h1 h2
        simp only [tail, List.getElem_toArray, List.getElem_map, List.getElem_range]
        have hi : i < ops.size := by rw [← hJ.lsize]; exact h1
        cases hE : E i with
        | true =>
          have := hall i hi hE
          rw [Array.getD_eq_getD_getElem?, Array.getElem?_eq_getElem h1] at this
          simpa using this
        | false =>
          have := hJ.late i hE hi
          rw [Array.getD_eq_getD_getElem?, Array.getElem?_eq_getElem h1] at this
          simpa using this
    have := hend b v hJ.below hJ.size hJ.defers hJ.rest fun i o d hi ho hd => hJ.good i o d hi ho hd (hall i (Array.getElem?_eq_some_iff.1 ho).1 hi)
    have this := this (fun i j o o' d d' h1 h2 h3 h4 h5 h6 h7 h8 h9 _ _ => hPr i j o o' d d' h1 h2 h3 h4 h5 h6 h7 h8 h9 (hall i (Array.getElem?_eq_some_iff.1 h6).1 h1) (hall j (Array.getElem?_eq_some_iff.1 h7).1 h2))
    rw [← e, hl] at this
    exact this
  intro fuel
  induction fuel with
  | zero =>
    intro listed b v hl hJ hPr _
    refine hfin 0 listed b v hl hJ hPr fun i hi _ => ?_
    have h := left_zero hl i
    rw [Array.getD_eq_getD_getElem?, Array.getElem?_eq_getElem (by rw [hJ.lsize]; omega)] at h ⊢
    exact h
  | succ fuel ih =>
    intro listed b v hl hJ hPr hCl
    by_cases hall : ∀ i, i < ops.size → E i = true → listed.getD i false = true
    · exact hfin _ listed b v hl hJ hPr hall
    · have hmin : ∀ i, i < ops.size → E i = true → listed.getD i false = false → ∃ j, j < ops.size ∧ E j = true ∧ listed.getD j false = false ∧ ∀ k, k < j → E k = true → listed.getD k false = true := by
        intro i
        induction i using Nat.strongRecOn with
        | ind i ih2 =>
          intro his hi hb
          by_cases h : ∀ k, k < i → E k = true → listed.getD k false = true
          · exact ⟨i, his, hi, hb, h⟩
          · have ⟨k, hk⟩ := Classical.not_forall.1 h
            have ⟨hk1, hk⟩ := Classical.not_imp.1 hk
            have ⟨hk2, hk3⟩ := Classical.not_imp.1 hk
            exact ih2 k hk1 (by omega) hk2 (by simpa using hk3)
      have ⟨i0, hi0⟩ := Classical.not_forall.1 hall
      have ⟨hi1, hi0⟩ := Classical.not_imp.1 hi0
      have ⟨hi2, hi3⟩ := Classical.not_imp.1 hi0
      obtain ⟨j, hjs, hjE, hjl, hjk⟩ := hmin i0 hi1 hi2 (by simpa using hi3)
      have hmem : j ∈ Region.ready .any ops listed := by
        refine mem_ready.2 ⟨?_, ops[j], Array.getElem?_eq_getElem hjs, fun e he _ => ?_⟩
        · rw [Array.getD_eq_getD_getElem?, Array.getElem?_eq_getElem (by rw [hJ.lsize]; exact hjs)] at hjl ⊢
          exact hjl
        · obtain ⟨hlt, hor⟩ := (okD_at hok (Array.getElem?_eq_getElem hjs) hjE).2.2 e he
          exact hjk _ hlt hor
      refine ⟨fun h => (by rw [h] at hmem; cases hmem), fun i hi => ?_⟩
      obtain ⟨h0, o, ho, hdep⟩ := mem_ready.1 hi
      have his := (Array.getElem?_eq_some_iff.1 ho).1
      have him : E i = true := by
        cases hE : E i with
        | true => rfl
        | false =>
          rcases okD_late hok ho hE j hjs hjE with ⟨e, he, hes, heE, heb⟩ | hnd
          · have h1 := hdep e he heb
            have h2 : _ = false := hJ.late _ heE hes
            rw [h1] at h2
            cases h2
          · have := need_spec hCl 16 i j o ho hdep hnd
            rw [hjl] at this
            cases this
      obtain ⟨hg, ⟨d, hd, hdN⟩, hback⟩ := okD_at hok ho him
      unfold wpOp
      rw [ho]
      dsimp only
      rw [if_pos (by simp [Region.wanted, hg])]
      refine .inl ?_
      refine Oper.wp_mono ?_ (hstep i o b v him ho hJ.below hJ.rest fun e he hb hEe o' d' ho' hd' => hJ.good e.on o' d' hEe ho' hd' (hdep e he hb))
      rintro b' v' ⟨x, rfl, hG, hb, hLx⟩
      have hbv := hJ.below.trans (hb.mono hJ.below.size)
      refine ⟨hS _ hbv, ih _ _ _ (by have := left_eq h0; omega) ?_ ?_ ?_⟩
      rotate_left 2
      · intro i1 o1 ho1 hl1 e he hb1
        by_cases e1 : i = i1
        · subst e1
          rw [ho] at ho1
          obtain rfl := Option.some.inj ho1
          exact getD_set_true (hdep e he hb1)
        · rw [getD_set_ne false e1] at hl1
          exact getD_set_true (hCl i1 o1 ho1 hl1 e he hb1)
      rotate_left
      · rw [hd]
        exact hPr.put hok ho hd hdN hJ him hLx
      rw [hd]
      refine ⟨hbv, by rw [put_size]; exact hJ.size, by rw [put_defers]; exact hJ.defers, ?_, ?_, by simpa using hJ.lsize, ?_, ?_⟩
      · intro s hs
        rw [put_other _ _ _ _ (fun e => hs i o him ho (by rw [hd, e]))]
        exact hJ.rest s hs
      · intro j' oj dj hj' hoj hdj hlj
        by_cases e : i = j'
        · subst e
          rw [ho] at hoj
          obtain rfl := Option.some.inj hoj
          rw [hd] at hdj
          obtain rfl := Option.some.inj hdj
          rw [put_same _ _ _ (by rw [hJ.size]; exact hdN)]
          exact hG
        · have hap := okD_apart hok ho hoj him hj' e
          rw [hd, hdj] at hap
          rw [put_other _ _ _ _ (fun h => hap (by rw [h]))]
          refine hkeep _ _ _ _ (hJ.good j' oj dj hj' hoj hdj ?_) hb
          rw [getD_set_ne false e] at hlj
          exact hlj
      · intro k hk hks
        rw [getD_set_ne _ (fun e => by rw [← e, him] at hk; cases hk)]
        exact hJ.late k hk hks
      · intro k hk hks
        exact getD_set_true (hJ.done k hk hks)
theorem region_toD {P : Program} {ops : Array Oper} {id : Nat} {Q : Exit → Act → World → Prop} {a : Act} {w : World} (hm : P.follows .mixedOrders = true) (E L : Nat → Bool) (G : Nat → Value → World → Prop) (hok : okD ops a.tmps.size E = true)
    (hkeep : ∀ i x v v', G i x v → Below v.heap.size v v' → G i x v')
    (hstep : ∀ (i : Nat) (o : Oper) (b : Act) (v : World), E i = true → ops[i]? = some o → Below w.heap.size w v → (∀ s, (∀ (i : Nat) (o : Oper), E i = true → ops[i]? = some o → o.dst ≠ some s) → b.tmps.getD s undef = a.tmps.getD s undef) →
      (∀ e ∈ o.after, Region.binds .any e = true → E e.on = true → ∀ (o' : Oper) (d : Tmp), ops[e.on]? = some o' → o'.dst = some d → G e.on (b.tmps.getD d undef) v) → DoesD L P G Q i o b v)
    (hend : ∀ b v, Below w.heap.size w v → b.tmps.size = a.tmps.size → b.defers = a.defers → (∀ s, (∀ (i : Nat) (o : Oper), E i = true → ops[i]? = some o → o.dst ≠ some s) → b.tmps.getD s undef = a.tmps.getD s undef) →
      (∀ (i : Nat) (o : Oper) (d : Tmp), E i = true → ops[i]? = some o → o.dst = some d → G i (b.tmps.getD d undef) v) → Pair ops E L (fun _ => true) b → wpAnyH P .any ops Q (fun _ => True) (left (tail ops.size E (fun _ => false))) (tail ops.size E (fun _ => false)) b v) :
    (Code.region id ops true).wp P Q a w := by
  have hb0 : Below w.heap.size w w.drew := (Below.refl _ _).drew
  refine wp_region_any hm (wpAny_of_held _ _ _ _ (any_toD (S := fun _ => True) (a := a) (w := w.drew) (G := G) (L := L) (N := a.tmps.size) hok (fun _ _ => trivial) hkeep
    (fun i o b v hE ho hb hr hd => hstep i o b v hE ho (hb0.trans hb) hr hd) (fun b v hb hs hd hr hg hp => hend b v (hb0.trans hb) hs hd hr hg hp) _ _ _ _ ?_ ⟨Below.refl _ _, rfl, rfl, fun _ _ => rfl, ?_, by simp, ?_, ?_⟩ ?_ ?_))
  · unfold left
    simp
  · intro i o d _ ho _ hl
    have hi := (Array.getElem?_eq_some_iff.1 ho).1
    simp [Array.getD_eq_getD_getElem?, hi] at hl
  · intro i _ hi
    simp [Array.getD_eq_getD_getElem?, hi]
  · intro i h
    cases h
  · intro i j o o' d d' _ _ _ _ _ ho _ _ _ hl
    have hi := (Array.getElem?_eq_some_iff.1 ho).1
    simp [Array.getD_eq_getD_getElem?, hi] at hl
  · intro i o ho hl
    have hi := (Array.getElem?_eq_some_iff.1 ho).1
    simp [Array.getD_eq_getD_getElem?, hi] at hl
theorem does_newD {L : Nat → Bool} {P : Program} {G : Nat → Value → World → Prop} {Q : Exit → Act → World → Prop} {i : Nat} {o : Oper} {b : Act} {v v' : World} (x : Value) (h : (execOp b.eval o).run P v = .ok (.value x) v') (hG : G i x v') (hb : Below v.heap.size v v')
    (hL : ∀ j y, L j = true → G j y v → x ≠ y) : DoesD L P G Q i o b v := by
  unfold DoesD Oper.wp
  rw [h]
  exact ⟨x, rfl, hG, hb, fun _ => hL⟩
theorem op_store_rowD {P : Program} {ops : Array Oper} {Q : Exit → Act → World → Prop} {i g : Nat} {o : Oper} {ty t : TypeId} {x y : Operand} {cells old : Array Value} {b : Act} {v : World} {K : Act → World → Prop} (ho : ops[i]? = some o) (hg : o.guard = none)
    (hop : o.op = .store ty x y) (hx : b.eval x = .pointer (some ⟨g, 0, none⟩)) (hy : b.eval y = .agg cells) (hh : v.heap[g]? = some (.cells old t (0, 0))) (hi : (P.info? ty).map (·.size) = some cells.size) (hold : old.size = cells.size) (h1 : cells.all (·.oneCell') = true)
    (h : K (b.put o.dst undef) (v.setRow g cells)) : wpOp P ops Q i K b v := by
  unfold wpOp
  rw [ho]
  dsimp only
  rw [if_pos (by simp [Region.wanted, hg])]
  exact .inl (wp_store_row ty x y hop g cells hx hy t old hh hi hold h1 h)
theorem litD (a : Array Value) (n : Nat) (h : a.size = n) : a = ((List.range n).map fun i => a.getD i undef).toArray := by
  subst h
  apply Array.ext
  · simp
  · intro i h1 h2
    simp [Array.getD_eq_getD_getElem?, h1]
end Go.Proofs.YtfccpfmgkpcnoaaDoor.Rg
