/- A range over a function: the loop's body is told, by the iterator, what it is handed and where it stands; the walk of both sides. -/
import Derived.Test.YtomkkkbdipcjgaaDoorKit
import Derived.RangeFuncNested
import Derived.RangeFuncBound
import Derived.RangeFuncCalls
import Derived.RangeFuncLeaves
import Derived.Shelf.Abstract
import Derived.Shelf.RegionOpen
import Derived.OwnWalkIn
import Derived.TacticsInMore
import Derived.LoopNIn
import Derived.LoopIn
import Derived.OrdersIn
namespace Go.Proofs.YtomkkkbdipcjgaaDoor.Rf
open Go.RowKit
set_option linter.unusedVariables false

/-- blocks of cells, and whatever lies below B, lie as they lay -/
structure NC (B : Nat) (X X' : World) : Prop where
  os : X'.os = X.os
  tape : X'.tape = X.tape
  output : X'.output = X.output
  size : X.heap.size ≤ X'.heap.size
  same : ∀ k o, X.heap[k]? = some o → o.isCells = true ∨ k < B → X'.heap[k]? = some o
theorem NC.refl (B : Nat) (X : World) : NC B X X := ⟨rfl, rfl, rfl, Nat.le_refl _, fun _ _ h _ => h⟩
theorem NC.trans {B : Nat} {X Y Z : World} (h : NC B X Y) (k : NC B Y Z) : NC B X Z :=
  ⟨k.os.trans h.os, k.tape.trans h.tape, k.output.trans h.output, Nat.le_trans h.size k.size, fun i o hi ho => k.same i o (h.same i o hi ho) ho⟩
theorem NC.alloc {B : Nat} (X : World) (o : Obj) : NC B X (X.alloc o) :=
  ⟨rfl, rfl, rfl, by simp, fun k o' hk _ => (Below.heap_alloc X o k (Array.getElem?_eq_some_iff.1 hk).1).trans hk⟩
theorem NC.put {B : Nat} {X : World} {l : Nat} {o : Obj} (o' : Obj) (hB : B ≤ l) (h : X.heap[l]? = some o) (hc : o.isCells = false) : NC B X (X.putObj l o') :=
  ⟨rfl, rfl, rfl, by simp, fun k u hk hu => by
    by_cases e : k = l
    · subst e
      rw [h] at hk
      obtain rfl := Option.some.inj hk
      rcases hu with hu | hu
      · rw [hc] at hu; cases hu
      · omega
    · exact (World.putObj_heap_other e).trans hk⟩
theorem NC.cell {B : Nat} {X X' : World} (h : NC B X X') {p : Addr} {v : Value} (hv : X.cell? p = some v) : X'.cell? p = some v := by
  obtain ⟨o, ho, hc⟩ := cells_of_cell hv
  exact (World.cell?_of_block ((h.same _ o ho (.inl hc)).trans ho.symm)).trans hv
theorem NC.frozen {B : Nat} {X X' : World} (h : NC B X X') {p : Addr} {v : Value} (hv : X.cell? p = some v) : X'.frozen? p = X.frozen? p := by
  obtain ⟨o, ho, hc⟩ := cells_of_cell hv
  exact World.frozen?_of_block ((h.same _ o ho (.inl hc)).trans ho.symm)
theorem NC.below {B n : Nat} {X X' : World} (h : NC B X X') (hn : n ≤ B) (hx : n ≤ X.heap.size) : Below n X X' :=
  ⟨h.os, h.tape, h.output, h.size, fun k hk => by
    have hlt : k < X.heap.size := by omega
    rw [Array.getElem?_eq_getElem hlt]
    exact h.same k _ (Array.getElem?_eq_getElem hlt) (.inr (by omega))⟩
theorem NC.cells {B : Nat} {X X' : World} (h : NC B X X') {k : Nat} {c : Array Value} {t : TypeId} {f : Nat × Nat} (hk : X.heap[k]? = some (.cells c t f)) : X'.heap[k]? = some (.cells c t f) := h.same k _ hk (.inl rfl)
theorem NC.owns {B : Nat} {X X' : World} (h : NC B X X') {n : Nat} {e : TypeId} {sz : Nat} {v : Value} {m : Nat} {xs : List Value} (ho : X.ownsRow n e sz v m xs) : X'.ownsRow n e sz v m xs := by
  obtain ⟨h1, h2⟩ := ho
  refine ⟨h1, ?_⟩
  rcases h2 with h2 | ⟨g, cap, cur, e1, e2, e3, e4⟩
  · exact .inl h2
  · exact .inr ⟨g, cap, cur, e1, e2, h.cells e3, e4⟩
/-- what holds of a world, and goes on holding where other than cells have turned -/
def Calm (B : Nat) (p : World → Prop) : Prop := ∀ X X', p X → NC B X X' → p X'

/-- the record of a loop whose block for deferred calls is D -/
def lp (a : Act) (ps : Array Tmp) (assign body : Code) (fn : FuncId) (D : Nat) (st : LoopState) (pe : Option Code) : Loop :=
  { state := st, pending := pe, fn := fn, tmps := a.tmps, params := ps, assign := assign, body := body, defers := D }
structure Held (D : Nat) (L : Loop) (X : World) : Prop where
  rec_ : X.heap[D + 1]? = some (.loop L)
  defs : X.heap[D]? = some (.deferred (some []))
theorem Held.keeps {D : Nat} {L : Loop} {X X' : World} (h : Held D L X) (k : KeepsOthers X X') : Held D L X' := ⟨k.same _ _ h.rec_ rfl, k.same _ _ h.defs rfl⟩
theorem Held.put {D : Nat} {L : Loop} {X : World} (h : Held D L X) (L' : Loop) : Held D L' (X.putObj (D + 1) (.loop L')) :=
  ⟨World.putObj_heap_same (Array.getElem?_eq_some_iff.1 h.rec_).1, (World.putObj_heap_other (by omega)).trans h.defs⟩
theorem Held.nc {B D : Nat} {L : Loop} {X : World} (h : Held D L X) (hB : B ≤ D) (L' : Loop) : NC B X (X.putObj (D + 1) (.loop L')) := NC.put _ (by omega) h.rec_ rfl

/-- how a body may be left -/
def to (I : World → Prop) (Ix : Code → World → Prop) (X : World) : Exit → Act → World → Prop
  | .normal, _, X' => KeepsOthers X X' ∧ I X'
  | .ret, _, X' => KeepsOthers X X' ∧ Ix .ret X'
  | .exit i, _, X' => KeepsOthers X X' ∧ Ix (.exit i) X'
  | .goto t, _, X' => KeepsOthers X X' ∧ Ix (.goto t) X'
  | .panic _, _, _ => False
  | .outgrown, _, _ => False

/-- a body never panics -/
def sh (To : Exit → Act → World → Prop) : Exit → Act → World → Prop
  | .panic _, _, _ => False
  | .outgrown, _, _ => False
  | .normal, a, w => To .normal a w
  | .ret, a, w => To .ret a w
  | .exit i, a, w => To (.exit i) a w
  | .goto t, a, w => To (.goto t) a w
theorem sh_to {I : World → Prop} {Ix : Code → World → Prop} {X : World} : ∀ e a w, sh (to I Ix X) e a w → to I Ix X e a w := fun e a w h => by
  cases e <;> first | exact h | exact (h : False).elim
/-- the rounds that an iterator may ask for -/
def Turns {σ α : Type} (P : Program) (l : Nat) (enc : α → Array Value) (I : σ → World → Prop) (B Bx : World → Prop) (V : σ → α → σ → World → Prop) : Prop :=
  ∀ s x s' X, I s X → B X → V s x s' X → YieldAt Fence.wide 0 P l (enc x) X fun e X' =>
    (e = .returned (.bool true) ∧ I s' X' ∧ B X') ∨ (e = .returned (.bool false) ∧ Bx X')
/-- an iterator: it leads from s0 to an end, or a round has said: no more -/
def Seq {σ α : Type} (P : Program) (gf : Nat) (lb : Array Value) (enc : α → Array Value) (w : World) (I : σ → World → Prop) (V : σ → α → σ → World → Prop) (s0 : σ) (E : σ → Prop) : Prop :=
  ∀ (l : Nat) (B Bx : World → Prop) (X : World), NC w.heap.size w X → I s0 X → B X → (∀ Y Y', B Y → KeepsOthers Y Y' → B Y') → Turns P l enc I B Bx V →
    Calls P gf (#[.func (.yield l) #[] #[]] ++ lb) X fun e X' => (∃ v, e = .returned v) ∧ ((∃ s, E s ∧ I s X' ∧ B X') ∨ Bx X')

theorem fin {P : Program} {a : Act} {ps : Array Tmp} {assign body : Code} {fn : FuncId} {D : Nat} (jump : Option Code) {X : World} (h : Held D (lp a ps assign body fn D .busy none) X) :
    (Instr.endRound (D + 1) jump).run P X = .ok (.bool jump.isNone) (X.putObj (D + 1) (.loop (lp a ps assign body fn D (if jump.isNone then .ready else .done) jump))) :=
  run_endRound (P := P) jump h.rec_

theorem range_told {σ α : Type} {P : Program} {g : Operand} {ps : Array Tmp} {assign body : Code} {Q : Exit → Act → World → Prop} {a : Act} {w : World} {gf : Nat} {lb : Array Value}
    (hg : a.eval g = .func (.func gf) #[] lb) (eg : ∀ args w, (callFunc gf args).run P w = .ok (.enter gf args) w)
    (enc : α → Array Value) (hps : ∀ x, (enc x).size = ps.size)
    (I : σ → World → Prop) (Ix : Code → World → Prop) (V : σ → α → σ → World → Prop) (s0 : σ) (E : σ → Prop)
    (hI : ∀ s, Calm w.heap.size (I s)) (hIx : ∀ c, Calm w.heap.size (Ix c)) (hV : ∀ s x s', Calm w.heap.size (V s x s')) (h0 : I s0 w)
    (hseq : Seq P gf lb enc w I V s0 E)
    (hround : ∀ (l : Nat) (s : σ) (x : α) (s' : σ) (X Z : World) (To : Exit → Act → World → Prop), I s X → V s x s' X →
      Hid (∀ b X', KeepsOthers X X' → I s' X' → To .normal b X') → Hid (∀ b X', KeepsOthers X X' → Ix .ret X' → To .ret b X') → Hid (∀ i b X', KeepsOthers X X' → Ix (.exit i) X' → To (.exit i) b X') →
      assign.wpIn (Fence.wide.inRound l) 0 P (Exit.then (fun a₁ Z' => Z' = Z ∧ body.wpIn (Fence.wide.inRound l) 0 P (sh To) a₁ X) (fun _ _ _ => False)) { tmps := (ps.zip (enc x)).foldl (fun t (p, v) => t.setIfInBounds p v) a.tmps, defers := [] } Z)
    (hdone : ∀ (D : Nat) (s : σ) (X : World), w.heap.size ≤ D → E s → I s X → X.heap[D]? = some (.deferred (some [])) → Q .normal { a with defers := { target := .collected D, args := #[] } :: a.defers } X)
    (hstop : ∀ (D : Nat) (c : Code) (X : World), w.heap.size ≤ D → Ix c X → X.heap[D]? = some (.deferred (some [])) → c.wp P Q { a with defers := { target := .collected D, args := #[] } :: a.defers } X) :
    (Code.rangeFunc g ps assign body).wp P Q a w := by
  refine (wpIn_wide (n := 0)).1 (wpIn_rangeFunc fun fn _ => ?_)
  have hnc0 : NC w.heap.size w ((w.alloc (.deferred (some []))).alloc (.loop (lp a ps assign body fn w.heap.size .ready none))) := (NC.alloc _ _).trans (NC.alloc _ _)
  have hheld : Held w.heap.size (lp a ps assign body fn w.heap.size .ready none) ((w.alloc (.deferred (some []))).alloc (.loop (lp a ps assign body fn w.heap.size .ready none))) := by
    constructor
    · have := World.alloc_heap_new (w.alloc (.deferred (some []))) (.loop (lp a ps assign body fn w.heap.size .ready none))
      rwa [World.size_alloc] at this
    · exact (Below.heap_alloc _ _ _ (by simp)).trans (World.alloc_heap_new w _)
  have hent := run_enterLoop_outer (P := P) (w := w) fn a.tmps ps assign body
  have hL : ({ state := .ready, pending := none, fn, tmps := a.tmps, params := ps, assign, body, defers := w.heap.size } : Loop) = lp a ps assign body fn w.heap.size .ready none := rfl
  rw [hL] at hent
  generalize (w.alloc (.deferred (some []))).alloc (.loop (lp a ps assign body fn w.heap.size .ready none)) = W1 at hnc0 hheld hent
  refine ⟨w.heap.size + 1, [{ target := .collected w.heap.size, args := #[] }], W1, { target := .fn (.func gf) lb, args := #[.func (.yield (w.heap.size + 1)) #[] #[]] }, W1, gf,
    #[.func (.yield (w.heap.size + 1)) #[] #[]] ++ lb, W1, hent, ?_, fun _ _ => trivial, ?_, (fun h => absurd h (by decide)), (callsIn_wide (n := 0)).2 ?_⟩
  · simp only [resolve, hg]
    simp [go_sem]
  · simp [invoke, go_sem, eg]
  refine (hseq (w.heap.size + 1) (Held w.heap.size (lp a ps assign body fn w.heap.size .ready none))
    (fun X => ∃ c, Ix c X ∧ Held w.heap.size (lp a ps assign body fn w.heap.size .done (some c)) X) _ hnc0 (hI _ _ _ h0 hnc0) hheld (fun _ _ h k => h.keeps k) ?_).mono ?_
  · intro s x s' X hi hB hv
    refine ⟨fn, _, assign, body, run_yield (P := P) (args := enc x) hB.rec_ (hps x), roundIn_of_wpIn trivial (wpIn_mono (hround _ s x s' _ X (to (I s') Ix (X.putObj (w.heap.size + 1) (.loop (lp a ps assign body fn w.heap.size .busy none)))) (hI _ _ _ hi (hB.nc (Nat.le_refl _) (lp a ps assign body fn w.heap.size .busy none))) (hV _ _ _ _ _ hv (hB.nc (Nat.le_refl _) (lp a ps assign body fn w.heap.size .busy none))) (fun _ _ h k => ⟨h, k⟩) (fun _ _ h k => ⟨h, k⟩) (fun _ _ _ h k => ⟨h, k⟩)) ?_)⟩
    intro e a₁ Z' hq
    cases e with
    | normal => ?_
    | _ => exact hq.elim
    obtain ⟨rfl, hbd⟩ := hq
    refine ⟨_, run_beginRound hB.rec_ rfl, ?_⟩
    have hB2 := hB.put (lp a ps assign body fn w.heap.size .busy none)
    have hn2 := hB.nc (Nat.le_refl _) (lp a ps assign body fn w.heap.size .busy none)
    refine wpIn_mono (wpIn_mono hbd sh_to) ?_
    rintro e a3 X3 hp
    cases e with
    | normal =>
      obtain ⟨hk, hi3⟩ := hp
      have hB3 := hB2.keeps hk
      exact ⟨_, _, fin none hB3, .inl ⟨rfl, hI _ _ _ hi3 (hB3.nc (Nat.le_refl _) _), hB3.put _⟩⟩
    | ret =>
      obtain ⟨hk, hi3⟩ := hp
      have hB3 := hB2.keeps hk
      exact ⟨_, _, fin (some .ret) hB3, .inr ⟨rfl, .ret, hIx _ _ _ hi3 (hB3.nc (Nat.le_refl _) _), hB3.put _⟩⟩
    | exit i =>
      obtain ⟨hk, hi3⟩ := hp
      have hB3 := hB2.keeps hk
      exact ⟨_, _, fin (some (.exit i)) hB3, .inr ⟨rfl, .exit i, hIx _ _ _ hi3 (hB3.nc (Nat.le_refl _) _), hB3.put _⟩⟩
    | goto t =>
      obtain ⟨hk, hi3⟩ := hp
      have hB3 := hB2.keeps hk
      exact ⟨_, _, fin (some (.goto t)) hB3, .inr ⟨rfl, .goto t, hIx _ _ _ hi3 (hB3.nc (Nat.le_refl _) _), hB3.put _⟩⟩
    | panic ch => exact hp.elim
    | outgrown => exact hp.elim
  · rintro e X2 ⟨⟨v, rfl⟩, (⟨s, hE, hi, hB⟩ | ⟨c, hi, hB⟩)⟩
    · exact ⟨none, _, run_endLoop (P := P) hB.rec_ (by simp [lp]), hdone _ s _ (Nat.le_refl _) hE (hI _ _ _ hi (hB.nc (Nat.le_refl _) _)) (hB.put _).defs⟩
    · exact ⟨some c, _, run_endLoop (P := P) hB.rec_ (by simp [lp]), (wpIn_wide (n := 0)).2 (hstop _ c _ (Nat.le_refl _) (hIx _ _ _ hi (hB.nc (Nat.le_refl _) _)) (hB.put _).defs)⟩

/-- no operation is a defer statement -/
def noDefer (ops : Array Oper) : Bool := ops.all fun o => match o.op with
  | .defer _ => false
  | _ => true
theorem noDefer_spec {ops : Array Oper} (h : noDefer ops = true) {i : Nat} {o : Oper} (ho : ops[i]? = some o) : ∀ c, o.op ≠ .defer c := by
  intro c e
  unfold noDefer at h
  rw [Array.all_eq_true] at h
  obtain ⟨hi, ho'⟩ := Array.getElem?_eq_some_iff.1 ho
  have := h i hi
  rw [ho', e] at this
  cases this
theorem op_round {P : Program} {ops : Array Oper} {Q : Exit → Act → World → Prop} (l i : Nat) (hd : noDefer ops = true) {K : Act → World → Prop} {a : Act} {w : World}
    (h : wpOpIn Fence.wide 0 P ops Q i K a w) : wpOpIn (Fence.wide.inRound l) 0 P ops Q i K a w := by
  unfold wpOpIn at *
  cases ho : ops[i]? with
  | none => rw [ho] at h; exact h
  | some o =>
    rw [ho] at h
    dsimp only at h ⊢
    split
    · rename_i hw
      rw [if_pos hw] at h
      unfold Oper.wpIn at *
      refine ⟨h.1, ?_⟩
      have h2 := h.2
      rw [Fence.wide_round, Oper.semAt_none] at h2
      rw [show (Fence.wide.inRound l).round = some l from rfl, Oper.semAt_some l _ _ (noDefer_spec hd ho)]
      exact h2
    · rename_i hw
      rw [if_neg hw] at h
      exact h
theorem any_round {P : Program} {md : Region.Mode} {ops : Array Oper} {Q : Exit → Act → World → Prop} (l : Nat) (hd : noDefer ops = true) :
    ∀ (fuel : Nat) (listed : Array Bool) (a : Act) (w : World), wpAnyIn Fence.wide 0 P md ops Q fuel listed a w → wpAnyIn (Fence.wide.inRound l) 0 P md ops Q fuel listed a w
  | 0, listed, a, w, h => h
  | fuel + 1, listed, a, w, h => ⟨h.1, fun i hi => op_round l i hd (wpOpIn_mono (fun a' w' h' => any_round l hd fuel _ a' w' h') (h.2 i hi))⟩
/-- a region that draws its order, in a round, where no operation is a defer statement -/
theorem region_round {P : Program} {ops : Array Oper} {Q : Exit → Act → World → Prop} {id l : Nat} {a : Act} {w : World} (hm : P.follows .mixedOrders = true) (hd : noDefer ops = true)
    (h : wpAnyIn Fence.wide 0 P .any ops Q ops.size (Array.replicate ops.size false) a w.drew) : (Code.region id ops true).wpIn (Fence.wide.inRound l) 0 P Q a w :=
  wpIn_region_any hm (any_round l hd _ _ _ _ h)

/-- a function whose body holds such a loop -/
theorem calls_marks {P : Program} {f : FuncId} {fn : Func} {c : Code} {args : Array Value} {w : World} {R : Ending → World → Prop}
    (hf : P.funcs[f]? = some fn) (hb : fn.body = some c)
    (h : c.wp P (bodyPostM Fence.wide 0 P fn R) { tmps := args ++ Array.replicate (fn.ntmps - args.size) undef, defers := [] } w) : Calls P f args w R :=
  (callsIn_wide (n := 0)).1 (callsIn_of_wp_marks hf hb trivial ((wpIn_wide (n := 0)).2 h) rfl)
/-- its end: the block for deferred calls is shut -/
theorem leaves {P : Program} {fn : Func} {tmps : Array Value} {R : Ending → World → Prop} {D : Nat} {X : World} {v : Value}
    (hK : X.heap[D]? = some (.deferred (some []))) (hr : (results fn tmps).run P (X.putObj D (.deferred none)) = .ok v (X.putObj D (.deferred none))) (h : R (.returned v) (X.putObj D (.deferred none))) :
    LeavesInM Fence.wide 0 P fn tmps R [{ target := .collected D, args := #[] }] .returning X := by
  refine ⟨by simp, .inl ⟨D, _, rfl, run_takeDeferred hK, ?_⟩⟩
  exact ⟨v, hr, h⟩
end Go.Proofs.YtomkkkbdipcjgaaDoor.Rf
