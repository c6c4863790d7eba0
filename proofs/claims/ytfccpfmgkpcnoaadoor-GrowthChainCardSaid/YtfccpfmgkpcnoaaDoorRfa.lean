/- A range over a function whose loop's variable lies in memory: the assignment makes a block. Plain regions, and regions that draw their order, in a round, walked by the laws of plain code. -/
import Derived.Test.YtfccpfmgkpcnoaaDoorRf
import Derived.Test.YtfccpfmgkpcnoaaDoorRg
import Derived.Sort.CutIn
namespace Go.Proofs.YtfccpfmgkpcnoaaDoor.Rf
open Go.RowKit
set_option linter.unusedVariables false
theorem range_toldA {σ α : Type} {P : Program} {g : Operand} {ps : Array Tmp} {assign body : Code} {Q : Exit → Act → World → Prop} {a : Act} {w : World} {gf : Nat} {lb : Array Value}
    (hg : a.eval g = .func (.func gf) #[] lb) (eg : ∀ args w, (callFunc gf args).run P w = .ok (.enter gf args) w)
    (enc : α → Array Value) (hps : ∀ x, (enc x).size = ps.size)
    (I : σ → World → Prop) (Ix : Code → World → Prop) (V : σ → α → σ → World → Prop) (s0 : σ) (E : σ → Prop)
    (hI : ∀ s, Calm w.heap.size (I s)) (hIx : ∀ c, Calm w.heap.size (Ix c)) (hV : ∀ s x s', Calm w.heap.size (V s x s')) (h0 : I s0 w)
    (hseq : Seq P gf lb enc w I V s0 E)
    (hround : ∀ (l : Nat) (s : σ) (x : α) (s' : σ) (X Z : World) (To : Exit → Act → World → Prop), I s X → V s x s' X → Z.heap.size = X.heap.size →
      Hid (∀ b X', KeepsOthers X X' → I s' X' → To .normal b X') → Hid (∀ b X', KeepsOthers X X' → Ix .ret X' → To .ret b X') → Hid (∀ i b X', KeepsOthers X X' → Ix (.exit i) X' → To (.exit i) b X') →
      assign.wpIn (Fence.wide.inRound l) 0 P (Exit.then (fun a₁ Z' => Below Z.heap.size Z Z' ∧ ∀ Y, Below X.heap.size X Y → (∀ k, X.heap.size ≤ k → Y.heap[k]? = Z'.heap[k]?) → Y.heap.size = Z'.heap.size →
        body.wpIn (Fence.wide.inRound l) 0 P (sh To) a₁ Y) (fun _ _ _ => False)) { tmps := (ps.zip (enc x)).foldl (fun t (p, v) => t.setIfInBounds p v) a.tmps, defers := [] } Z)
    (hdone : ∀ (D : Nat) (s : σ) (X : World), w.heap.size ≤ D → E s → I s X → X.heap[D]? = some (.deferred (some [])) → Q .normal { a with defers := { target := .collected D, args := #[] } :: a.defers } X)
    (hstop : ∀ (D : Nat) (c : Code) (X : World), w.heap.size ≤ D → Ix c X → X.heap[D]? = some (.deferred (some [])) → c.wp P Q { a with defers := { target := .collected D, args := #[] } :: a.defers } X) :
    (Code.rangeFunc g ps assign body).wp P Q a w := by
  refine (wpIn_wide (n := 0)).1 (wpIn_rangeFunc fun fn _ => ?_)
  have hnc0 : NC w.heap.size w ((w.alloc (.deferred (some []))).alloc (.loop (lp a ps assign body fn w.heap.size .ready none))) := (NC.alloc _ _).trans (NC.alloc _ _)
  have hheld : Held w.heap.size (lp a ps assign body fn w.heap.size .ready none) ((w.alloc (.deferred (some []))).alloc (.loop (lp a ps assign body fn w.heap.size .ready none))) := by
    constructor
    · have := World.alloc_heap_new (w.alloc (.deferred (some []))) (.loop (lp a ps assign body fn w.heap.size .ready none))
      rwa [World.size_alloc] at this
    · exact (Below.heap_alloc _ _ _ (by simp)).trans (World.alloc_heap_new w _)
  have hent := run_enterLoop_outer (P := P) (w := w) fn a.tmps ps assign body
  have hL : ({ state := .ready, pending := none, fn, tmps := a.tmps, params := ps, assign, body, defers := w.heap.size } : Loop) = lp a ps assign body fn w.heap.size .ready none := rfl
  rw [hL] at hent
  generalize (w.alloc (.deferred (some []))).alloc (.loop (lp a ps assign body fn w.heap.size .ready none)) = W1 at hnc0 hheld hent
  refine ⟨w.heap.size + 1, [{ target := .collected w.heap.size, args := #[] }], W1, { target := .fn (.func gf) lb, args := #[.func (.yield (w.heap.size + 1)) #[] #[]] }, W1, gf,
    #[.func (.yield (w.heap.size + 1)) #[] #[]] ++ lb, W1, hent, ?_, fun _ _ => trivial, ?_, (fun h => absurd h (by decide)), (callsIn_wide (n := 0)).2 ?_⟩
  · simp only [resolve, hg]
    simp [go_sem]
  · simp [invoke, go_sem, eg]
  refine (hseq (w.heap.size + 1) (Held w.heap.size (lp a ps assign body fn w.heap.size .ready none))
    (fun X => ∃ c, Ix c X ∧ Held w.heap.size (lp a ps assign body fn w.heap.size .done (some c)) X) _ hnc0 (hI _ _ _ h0 hnc0) hheld (fun _ _ h k => h.keeps k) ?_).mono ?_
  · intro s x s' X hi hB hv
    refine ⟨fn, _, assign, body, run_yield (P := P) (args := enc x) hB.rec_ (hps x), roundIn_of_wpIn trivial (wpIn_mono (hround _ s x s' (X.putObj (w.heap.size + 1) (.loop (lp a ps assign body fn w.heap.size .busy none))) X (to (I s') Ix (X.putObj (w.heap.size + 1) (.loop (lp a ps assign body fn w.heap.size .busy none)))) (hI _ _ _ hi (hB.nc (Nat.le_refl _) (lp a ps assign body fn w.heap.size .busy none))) (hV _ _ _ _ _ hv (hB.nc (Nat.le_refl _) (lp a ps assign body fn w.heap.size .busy none))) (by simp) (fun _ _ h k => ⟨h, k⟩) (fun _ _ h k => ⟨h, k⟩) (fun _ _ _ h k => ⟨h, k⟩)) ?_)⟩
    intro e a₁ Z' hq
    cases e with
    | normal => ?_
    | _ => exact hq.elim
    obtain ⟨hzb, hbd⟩ := hq
    have hlt1 : w.heap.size + 1 < X.heap.size := (Array.getElem?_eq_some_iff.1 hB.rec_).1
    have hrec : Z'.heap[w.heap.size + 1]? = some (.loop (lp a ps assign body fn w.heap.size .ready none)) := by rw [hzb.block _ hlt1]; exact hB.rec_
    refine ⟨_, run_beginRound hrec rfl, ?_⟩
    have hB2 := hB.put (lp a ps assign body fn w.heap.size .busy none)
    have hn2 := hB.nc (Nat.le_refl _) (lp a ps assign body fn w.heap.size .busy none)
    have hY : Below (X.putObj (w.heap.size + 1) (.loop (lp a ps assign body fn w.heap.size .busy none))).heap.size (X.putObj (w.heap.size + 1) (.loop (lp a ps assign body fn w.heap.size .busy none))) (Z'.putObj (w.heap.size + 1) (.loop (lp a ps assign body fn w.heap.size .busy none))) := by
      refine ⟨hzb.os, hzb.tape, hzb.output, by simpa using hzb.size, fun k hk => ?_⟩
      have hk' : k < X.heap.size := by simpa using hk
      by_cases e : k = w.heap.size + 1
      · subst e
        rw [World.putObj_heap_same hlt1, World.putObj_heap_same (Nat.lt_of_lt_of_le hlt1 hzb.size)]
      · rw [World.putObj_heap_other e, World.putObj_heap_other e]
        exact hzb.block k hk'
    refine wpIn_mono (wpIn_mono (hbd _ hY (fun k hk => World.putObj_heap_other (by simp at hk; omega)) (by simp)) sh_to) ?_
    rintro e a3 X3 hp
    cases e with
    | normal =>
      obtain ⟨hk, hi3⟩ := hp
      have hB3 := hB2.keeps hk
      exact ⟨_, _, fin none hB3, .inl ⟨rfl, hI _ _ _ hi3 (hB3.nc (Nat.le_refl _) _), hB3.put _⟩⟩
    | ret =>
      obtain ⟨hk, hi3⟩ := hp
      have hB3 := hB2.keeps hk
      exact ⟨_, _, fin (some .ret) hB3, .inr ⟨rfl, .ret, hIx _ _ _ hi3 (hB3.nc (Nat.le_refl _) _), hB3.put _⟩⟩
    | exit i =>
      obtain ⟨hk, hi3⟩ := hp
      have hB3 := hB2.keeps hk
      exact ⟨_, _, fin (some (.exit i)) hB3, .inr ⟨rfl, .exit i, hIx _ _ _ hi3 (hB3.nc (Nat.le_refl _) _), hB3.put _⟩⟩
    | goto t =>
      obtain ⟨hk, hi3⟩ := hp
      have hB3 := hB2.keeps hk
      exact ⟨_, _, fin (some (.goto t)) hB3, .inr ⟨rfl, .goto t, hIx _ _ _ hi3 (hB3.nc (Nat.le_refl _) _), hB3.put _⟩⟩
    | panic ch => exact hp.elim
    | outgrown => exact hp.elim
  · rintro e X2 ⟨⟨v, rfl⟩, (⟨s, hE, hi, hB⟩ | ⟨c, hi, hB⟩)⟩
    · exact ⟨none, _, run_endLoop (P := P) hB.rec_ (by simp [lp]), hdone _ s _ (Nat.le_refl _) hE (hI _ _ _ hi (hB.nc (Nat.le_refl _) _)) (hB.put _).defs⟩
    · exact ⟨some c, _, run_endLoop (P := P) hB.rec_ (by simp [lp]), (wpIn_wide (n := 0)).2 (hstop _ c _ (Nat.le_refl _) (hIx _ _ _ hi (hB.nc (Nat.le_refl _) _)) (hB.put _).defs)⟩

section
variable {P : Program} {Q : Exit → Act → World → Prop}
/-- one operation -/
theorem oper_wide {o : Oper} {K : Act → World → Prop} {a : Act} {w : World} (h : o.wp P a w K Q) : o.wpIn Fence.wide 0 P a w K Q := ⟨fun _ _ => trivial, Rg.upon_wide _ h⟩
/-- one operation, in a round -/
theorem oper_round (r : Nat) {o : Oper} {K : Act → World → Prop} {a : Act} {w : World} (hd : ∀ c, o.op ≠ .defer c) (h : o.wp P a w K Q) : o.wpIn (Fence.wide.inRound r) 0 P a w K Q := by
  have h := oper_wide h
  unfold Oper.wpIn at *
  refine ⟨h.1, ?_⟩
  have h2 := h.2
  rw [Fence.wide_round, Oper.semAt_none] at h2
  rw [show (Fence.wide.inRound r).round = some r from rfl, Oper.semAt_some r _ _ hd]
  exact h2
/-- plain operations -/
theorem list_wide {ops : Array Oper} (hno : ¬ LetsOut Q) : ∀ (l : List Oper) (a : Act) (w : World), wpList P ops Q l a w → wpListIn Fence.wide 0 P ops Q l a w
  | [], a, w, h => h
  | o :: rest, a, w, h => by
    unfold wpList at h
    unfold wpListIn
    split
    · rename_i hw
      rw [if_pos hw] at h
      rcases h with h | h
      · exact Oper.wpIn_mono (list_wide hno rest) (oper_wide h)
      · exact absurd h.2 hno
    · rename_i hw
      rw [if_neg hw] at h
      exact ⟨fun _ _ => trivial, list_wide hno rest _ _ h⟩
theorem list_round {ops : Array Oper} (r : Nat) : ∀ (l : List Oper) (a : Act) (w : World), (∀ o ∈ l, ∀ c, o.op ≠ .defer c) → wpListIn Fence.wide 0 P ops Q l a w → wpListIn (Fence.wide.inRound r) 0 P ops Q l a w
  | [], a, w, _, h => h
  | o :: rest, a, w, hd, h => by
    unfold wpListIn at h ⊢
    split
    · rename_i hw
      rw [if_pos hw] at h
      refine Oper.wpIn_mono (fun a' w' h' => list_round r rest a' w' (fun o ho => hd o (List.mem_cons_of_mem _ ho)) h') ?_
      unfold Oper.wpIn at *
      refine ⟨h.1, ?_⟩
      have h2 := h.2
      rw [Fence.wide_round, Oper.semAt_none] at h2
      rw [show (Fence.wide.inRound r).round = some r from rfl, Oper.semAt_some r _ _ (hd o (by simp))]
      exact h2
    · rename_i hw
      rw [if_neg hw] at h
      exact ⟨h.1, list_round r rest _ _ (fun o ho => hd o (List.mem_cons_of_mem _ ho)) h.2⟩
def noDeferL (l : List Oper) : Bool := l.all fun o => match o.op with
  | .defer _ => false
  | _ => true
theorem noDeferL_spec {l : List Oper} (h : noDeferL l = true) : ∀ o ∈ l, ∀ c, o.op ≠ .defer c := by
  intro o ho c e
  unfold noDeferL at h
  rw [List.all_eq_true] at h
  have := h o ho
  rw [e] at this
  cases this
/-- a plain region in a round -/
theorem plain_round {l : List Oper} {id r : Nat} {a : Act} {w : World} (hd : noDeferL l = true) (hno : ¬ LetsOut Q) (h : wpList P l.toArray Q l a w) : (Code.region id l.toArray false).wpIn (Fence.wide.inRound r) 0 P Q a w :=
  wpIn_region_lit (list_round r l a w (noDeferL_spec hd) (list_wide hno l a w h))
/-- a region that draws its order, in a round -/
theorem drawn_round {ops : Array Oper} {id r : Nat} {a : Act} {w : World} (hm : P.follows .mixedOrders = true) (hd : noDefer ops = true) (hno : ¬ LetsOut Q)
    (h : wpAny P .any ops Q ops.size (Array.replicate ops.size false) a w.drew) : (Code.region id ops true).wpIn (Fence.wide.inRound r) 0 P Q a w :=
  region_round hm hd (Rg.any_wide hno _ _ _ _ h)
/-- a plain region in an iterator -/
theorem plain_wide {l : List Oper} {id : Nat} {a : Act} {w : World} (hno : ¬ LetsOut Q) (h : wpList P l.toArray Q l a w) : (Code.region id l.toArray false).wpIn Fence.wide 0 P Q a w :=
  wpIn_region_lit (list_wide hno l a w h)
end
end Go.Proofs.YtfccpfmgkpcnoaaDoor.Rf
