/- A range over a function whose loop's variable lies in memory: the assignment makes a block. Plain regions, and regions that draw their order, in a round, walked by the laws of plain code. A range over a function whose iterator keeps cells of its own, or loops itself over a function: what the iterator turns between two rounds lies in blocks M of its own; a round leaves these as they are. A region that draws its order, walked by what is held of the world (S), whose last operations T (stores, assignments), for which all others have come, may break S. -/
import Derived.Test.YtomkkkbdipcjgaaDoorRf
import Derived.Test.YtomkkkbdipcjgaaDoorRg
import Derived.Sort.CutIn
namespace Go.Proofs.YtomkkkbdipcjgaaDoor.Rf
open Go.RowKit
set_option linter.unusedVariables false
theorem range_toldA {σ α : Type} {P : Program} {g : Operand} {ps : Array Tmp} {assign body : Code} {Q : Exit → Act → World → Prop} {a : Act} {w : World} {gf : Nat} {lb : Array Value}
    (hg : a.eval g = .func (.func gf) #[] lb) (eg : ∀ args w, (callFunc gf args).run P w = .ok (.enter gf args) w)
    (enc : α → Array Value) (hps : ∀ x, (enc x).size = ps.size)
    (I : σ → World → Prop) (Ix : Code → World → Prop) (V : σ → α → σ → World → Prop) (s0 : σ) (E : σ → Prop)
    (hI : ∀ s, Calm w.heap.size (I s)) (hIx : ∀ c, Calm w.heap.size (Ix c)) (hV : ∀ s x s', Calm w.heap.size (V s x s')) (h0 : I s0 w)
    (hseq : Seq P gf lb enc w I V s0 E)
    (hround : ∀ (l : Nat) (s : σ) (x : α) (s' : σ) (X Z : World) (To : Exit → Act → World → Prop), I s X → V s x s' X → Z.heap.size = X.heap.size →
      Hid (∀ b X', KeepsOthers X X' → I s' X' → To .normal b X') → Hid (∀ b X', KeepsOthers X X' → Ix .ret X' → To .ret b X') → Hid (∀ i b X', KeepsOthers X X' → Ix (.exit i) X' → To (.exit i) b X') →
      assign.wpIn (Fence.wide.inRound l) 0 P (Exit.then (fun a₁ Z' => Below Z.heap.size Z Z' ∧ ∀ Y, Below X.heap.size X Y → (∀ k, X.heap.size ≤ k → Y.heap[k]? = Z'.heap[k]?) → Y.heap.size = Z'.heap.size →
        body.wpIn (Fence.wide.inRound l) 0 P (sh To) a₁ Y) (fun _ _ _ => False)) { tmps := (ps.zip (enc x)).foldl (fun t (p, v) => t.setIfInBounds p v) a.tmps, defers := [] } Z)
    (hdone : ∀ (D : Nat) (s : σ) (X : World), w.heap.size ≤ D → E s → I s X → X.heap[D]? = some (.deferred (some [])) → Q .normal { a with defers := { target := .collected D, args := #[] } :: a.defers } X)
    (hstop : ∀ (D : Nat) (c : Code) (X : World), w.heap.size ≤ D → Ix c X → X.heap[D]? = some (.deferred (some [])) → c.wp P Q { a with defers := { target := .collected D, args := #[] } :: a.defers } X) :
    (Code.rangeFunc g ps assign body).wp P Q a w := by
  refine (wpIn_wide (n := 0)).1 (wpIn_rangeFunc fun fn _ => ?_)
  have hnc0 : NC w.heap.size w ((w.alloc (.deferred (some []))).alloc (.loop (lp a ps assign body fn w.heap.size .ready none))) := (NC.alloc _ _).trans (NC.alloc _ _)
  have hheld : Held w.heap.size (lp a ps assign body fn w.heap.size .ready none) ((w.alloc (.deferred (some []))).alloc (.loop (lp a ps assign body fn w.heap.size .ready none))) := by
    constructor
    · have := World.alloc_heap_new (w.alloc (.deferred (some []))) (.loop (lp a ps assign body fn w.heap.size .ready none))
      rwa [World.size_alloc] at this
    · exact (Below.heap_alloc _ _ _ (by simp)).trans (World.alloc_heap_new w _)
  have hent := run_enterLoop_outer (P := P) (w := w) fn a.tmps ps assign body
  have hL : ({ state := .ready, pending := none, fn, tmps := a.tmps, params := ps, assign, body, defers := w.heap.size } : Loop) = lp a ps assign body fn w.heap.size .ready none := rfl
  rw [hL] at hent
  generalize (w.alloc (.deferred (some []))).alloc (.loop (lp a ps assign body fn w.heap.size .ready none)) = W1 at hnc0 hheld hent
  refine ⟨w.heap.size + 1, [{ target := .collected w.heap.size, args := #[] }], W1, { target := .fn (.func gf) lb, args := #[.func (.yield (w.heap.size + 1)) #[] #[]] }, W1, gf,
    #[.func (.yield (w.heap.size + 1)) #[] #[]] ++ lb, W1, hent, ?_, fun _ _ => trivial, ?_, (fun h => absurd h (by decide)), (callsIn_wide (n := 0)).2 ?_⟩
  · simp only [resolve, hg]
    simp [go_sem]
  · simp [invoke, go_sem, eg]
  refine (hseq (w.heap.size + 1) (Held w.heap.size (lp a ps assign body fn w.heap.size .ready none))
    (fun X => ∃ c, Ix c X ∧ Held w.heap.size (lp a ps assign body fn w.heap.size .done (some c)) X) _ hnc0 (hI _ _ _ h0 hnc0) hheld (fun _ _ h k => h.keeps k) ?_).mono ?_
  · intro s x s' X hi hB hv
    refine ⟨fn, _, assign, body, run_yield (P := P) (args := enc x) hB.rec_ (hps x), roundIn_of_wpIn trivial (wpIn_mono (hround _ s x s' (X.putObj (w.heap.size + 1) (.loop (lp a ps assign body fn w.heap.size .busy none))) X (to (I s') Ix (X.putObj (w.heap.size + 1) (.loop (lp a ps assign body fn w.heap.size .busy none)))) (hI _ _ _ hi (hB.nc (Nat.le_refl _) (lp a ps assign body fn w.heap.size .busy none))) (hV _ _ _ _ _ hv (hB.nc (Nat.le_refl _) (lp a ps assign body fn w.heap.size .busy none))) (by simp) (fun _ _ h k => ⟨h, k⟩) (fun _ _ h k => ⟨h, k⟩) (fun _ _ _ h k => ⟨h, k⟩)) ?_)⟩
    intro e a₁ Z' hq
    cases e with
    | normal => ?_
    | _ => exact hq.elim
    obtain ⟨hzb, hbd⟩ := hq
    have hlt1 : w.heap.size + 1 < X.heap.size := (Array.getElem?_eq_some_iff.1 hB.rec_).1
    have hrec : Z'.heap[w.heap.size + 1]? = some (.loop (lp a ps assign body fn w.heap.size .ready none)) := by rw [hzb.block _ hlt1]; exact hB.rec_
    refine ⟨_, run_beginRound hrec rfl, ?_⟩
    have hB2 := hB.put (lp a ps assign body fn w.heap.size .busy none)
    have hn2 := hB.nc (Nat.le_refl _) (lp a ps assign body fn w.heap.size .busy none)
    have hY : Below (X.putObj (w.heap.size + 1) (.loop (lp a ps assign body fn w.heap.size .busy none))).heap.size (X.putObj (w.heap.size + 1) (.loop (lp a ps assign body fn w.heap.size .busy none))) (Z'.putObj (w.heap.size + 1) (.loop (lp a ps assign body fn w.heap.size .busy none))) := by
      refine ⟨hzb.os, hzb.tape, hzb.output, by simpa using hzb.size, fun k hk => ?_⟩
      have hk' : k < X.heap.size := by simpa using hk
      by_cases e : k = w.heap.size + 1
      · subst e
        rw [World.putObj_heap_same hlt1, World.putObj_heap_same (Nat.lt_of_lt_of_le hlt1 hzb.size)]
      · rw [World.putObj_heap_other e, World.putObj_heap_other e]
        exact hzb.block k hk'
    refine wpIn_mono (wpIn_mono (hbd _ hY (fun k hk => World.putObj_heap_other (by simp at hk; omega)) (by simp)) sh_to) ?_
    rintro e a3 X3 hp
    cases e with
    | normal =>
      obtain ⟨hk, hi3⟩ := hp
      have hB3 := hB2.keeps hk
      exact ⟨_, _, fin none hB3, .inl ⟨rfl, hI _ _ _ hi3 (hB3.nc (Nat.le_refl _) _), hB3.put _⟩⟩
    | ret =>
      obtain ⟨hk, hi3⟩ := hp
      have hB3 := hB2.keeps hk
      exact ⟨_, _, fin (some .ret) hB3, .inr ⟨rfl, .ret, hIx _ _ _ hi3 (hB3.nc (Nat.le_refl _) _), hB3.put _⟩⟩
    | exit i =>
      obtain ⟨hk, hi3⟩ := hp
      have hB3 := hB2.keeps hk
      exact ⟨_, _, fin (some (.exit i)) hB3, .inr ⟨rfl, .exit i, hIx _ _ _ hi3 (hB3.nc (Nat.le_refl _) _), hB3.put _⟩⟩
    | goto t =>
      obtain ⟨hk, hi3⟩ := hp
      have hB3 := hB2.keeps hk
      exact ⟨_, _, fin (some (.goto t)) hB3, .inr ⟨rfl, .goto t, hIx _ _ _ hi3 (hB3.nc (Nat.le_refl _) _), hB3.put _⟩⟩
    | panic ch => exact hp.elim
    | outgrown => exact hp.elim
  · rintro e X2 ⟨⟨v, rfl⟩, (⟨s, hE, hi, hB⟩ | ⟨c, hi, hB⟩)⟩
    · exact ⟨none, _, run_endLoop (P := P) hB.rec_ (by simp [lp]), hdone _ s _ (Nat.le_refl _) hE (hI _ _ _ hi (hB.nc (Nat.le_refl _) _)) (hB.put _).defs⟩
    · exact ⟨some c, _, run_endLoop (P := P) hB.rec_ (by simp [lp]), (wpIn_wide (n := 0)).2 (hstop _ c _ (Nat.le_refl _) (hIx _ _ _ hi (hB.nc (Nat.le_refl _) _)) (hB.put _).defs)⟩

section
variable {P : Program} {Q : Exit → Act → World → Prop}
/-- one operation -/
theorem oper_wide {o : Oper} {K : Act → World → Prop} {a : Act} {w : World} (h : o.wp P a w K Q) : o.wpIn Fence.wide 0 P a w K Q := ⟨fun _ _ => trivial, Rg.upon_wide _ h⟩
/-- one operation, in a round -/
theorem oper_round (r : Nat) {o : Oper} {K : Act → World → Prop} {a : Act} {w : World} (hd : ∀ c, o.op ≠ .defer c) (h : o.wp P a w K Q) : o.wpIn (Fence.wide.inRound r) 0 P a w K Q := by
  have h := oper_wide h
  unfold Oper.wpIn at *
  refine ⟨h.1, ?_⟩
  have h2 := h.2
  rw [Fence.wide_round, Oper.semAt_none] at h2
  rw [show (Fence.wide.inRound r).round = some r from rfl, Oper.semAt_some r _ _ hd]
  exact h2
/-- plain operations -/
theorem list_wide {ops : Array Oper} (hno : ¬ LetsOut Q) : ∀ (l : List Oper) (a : Act) (w : World), wpList P ops Q l a w → wpListIn Fence.wide 0 P ops Q l a w
  | [], a, w, h => h
  | o :: rest, a, w, h => by
    unfold wpList at h
    unfold wpListIn
    split
    · rename_i hw
      rw [if_pos hw] at h
      rcases h with h | h
      · exact Oper.wpIn_mono (list_wide hno rest) (oper_wide h)
      · exact absurd h.2 hno
    · rename_i hw
      rw [if_neg hw] at h
      exact ⟨fun _ _ => trivial, list_wide hno rest _ _ h⟩
theorem list_round {ops : Array Oper} (r : Nat) : ∀ (l : List Oper) (a : Act) (w : World), (∀ o ∈ l, ∀ c, o.op ≠ .defer c) → wpListIn Fence.wide 0 P ops Q l a w → wpListIn (Fence.wide.inRound r) 0 P ops Q l a w
  | [], a, w, _, h => h
  | o :: rest, a, w, hd, h => by
    unfold wpListIn at h ⊢
    split
    · rename_i hw
      rw [if_pos hw] at h
      refine Oper.wpIn_mono (fun a' w' h' => list_round r rest a' w' (fun o ho => hd o (List.mem_cons_of_mem _ ho)) h') ?_
      unfold Oper.wpIn at *
      refine ⟨h.1, ?_⟩
      have h2 := h.2
      rw [Fence.wide_round, Oper.semAt_none] at h2
      rw [show (Fence.wide.inRound r).round = some r from rfl, Oper.semAt_some r _ _ (hd o (by simp))]
      exact h2
    · rename_i hw
      rw [if_neg hw] at h
      exact ⟨h.1, list_round r rest _ _ (fun o ho => hd o (List.mem_cons_of_mem _ ho)) h.2⟩
def noDeferL (l : List Oper) : Bool := l.all fun o => match o.op with
  | .defer _ => false
  | _ => true
theorem noDeferL_spec {l : List Oper} (h : noDeferL l = true) : ∀ o ∈ l, ∀ c, o.op ≠ .defer c := by
  intro o ho c e
  unfold noDeferL at h
  rw [List.all_eq_true] at h
  have := h o ho
  rw [e] at this
  cases this
/-- a plain region in a round -/
theorem plain_round {l : List Oper} {id r : Nat} {a : Act} {w : World} (hd : noDeferL l = true) (hno : ¬ LetsOut Q) (h : wpList P l.toArray Q l a w) : (Code.region id l.toArray false).wpIn (Fence.wide.inRound r) 0 P Q a w :=
  wpIn_region_lit (list_round r l a w (noDeferL_spec hd) (list_wide hno l a w h))
/-- a region that draws its order, in a round -/
theorem drawn_round {ops : Array Oper} {id r : Nat} {a : Act} {w : World} (hm : P.follows .mixedOrders = true) (hd : noDefer ops = true) (hno : ¬ LetsOut Q)
    (h : wpAny P .any ops Q ops.size (Array.replicate ops.size false) a w.drew) : (Code.region id ops true).wpIn (Fence.wide.inRound r) 0 P Q a w :=
  region_round hm hd (Rg.any_wide hno _ _ _ _ h)
/-- a plain region in an iterator -/
theorem plain_wide {l : List Oper} {id : Nat} {a : Act} {w : World} (hno : ¬ LetsOut Q) (h : wpList P l.toArray Q l a w) : (Code.region id l.toArray false).wpIn Fence.wide 0 P Q a w :=
  wpIn_region_lit (list_wide hno l a w h)
end
end Go.Proofs.YtomkkkbdipcjgaaDoor.Rf
namespace Go.Proofs.YtomkkkbdipcjgaaDoor.Rf
open Go.RowKit
set_option linter.unusedVariables false
/-- other than the blocks M, all lies as it lay -/
structure Mut (M : Nat → Prop) (X X' : World) : Prop where
  os : X'.os = X.os
  tape : X'.tape = X.tape
  output : X'.output = X.output
  size : X.heap.size ≤ X'.heap.size
  same : ∀ k, k < X.heap.size → ¬ M k → X'.heap[k]? = X.heap[k]?
theorem Mut.refl (M : Nat → Prop) (X : World) : Mut M X X := ⟨rfl, rfl, rfl, Nat.le_refl _, fun _ _ _ => rfl⟩
theorem Mut.trans {M : Nat → Prop} {X Y Z : World} (h : Mut M X Y) (k : Mut M Y Z) : Mut M X Z :=
  ⟨k.os.trans h.os, k.tape.trans h.tape, k.output.trans h.output, Nat.le_trans h.size k.size, fun i hi hm => (k.same i (Nat.lt_of_lt_of_le hi h.size) hm).trans (h.same i hi hm)⟩
theorem Mut.mono {M N : Nat → Prop} {X Y : World} (h : Mut M X Y) (hMN : ∀ k, M k → N k) : Mut N X Y := ⟨h.os, h.tape, h.output, h.size, fun k hk hn => h.same k hk fun hm => hn (hMN k hm)⟩
theorem Mut.of_below {M : Nat → Prop} {X X' : World} (h : Below X.heap.size X X') : Mut M X X' := ⟨h.os, h.tape, h.output, h.size, fun k hk _ => h.block k hk⟩
theorem Mut.below {M : Nat → Prop} {n : Nat} {X X' : World} (h : Mut M X X') (hn : ∀ k, k < n → ¬ M k) (hx : n ≤ X.heap.size) : Below n X X' :=
  ⟨h.os, h.tape, h.output, h.size, fun k hk => h.same k (Nat.lt_of_lt_of_le hk hx) (hn k hk)⟩
theorem Mut.put {M : Nat → Prop} (X : World) {k : Nat} (hk : M k) (o : Obj) : Mut M X (X.putObj k o) :=
  ⟨rfl, rfl, rfl, by simp, fun i _ hm => World.putObj_heap_other (fun e => hm (e ▸ hk))⟩
theorem Mut.alloc {M : Nat → Prop} (X : World) (o : Obj) : Mut M X (X.alloc o) := .of_below ((Below.refl _ _).alloc (Nat.le_refl _) _)
theorem Mut.grown {M : Nat → Prop} {X X' : World} {row : Option Nat} (h : X.grownBy X' row) (hr : ∀ k, row = some k → M k) : Mut M X X' :=
  ⟨h.os, h.tape, h.output, h.size, fun k hk hm => h.block k hk fun e => hm (hr k e.symm)⟩
theorem Mut.setCell {M : Nat → Prop} (X : World) (k : Nat) (v : Value) (hk : M k) : Mut M X (X.setCell ⟨k, 0, none⟩ v) := .grown (grownBy_setCell' X k v) (fun j e => by cases e; exact hk)
/-- blocks new to both -/
abbrev Blk := Nat → Prop
/-- a round turns its caller's blocks O alone; these may grow by what is made in it -/
structure Fr (O : Blk) (X : World) (O' : Blk) (X' : World) : Prop where
  size : X.heap.size ≤ X'.heap.size
  ext : ∀ k, O' k → k < X'.heap.size ∧ (O k ∨ X.heap.size ≤ k)
  same : ∀ k, k < X.heap.size → ¬ O k → X'.heap[k]? = X.heap[k]?
theorem Fr.of_below {O : Blk} {X X' : World} (h : Below X.heap.size X X') (hO : ∀ k, O k → k < X.heap.size) : Fr O X O X' :=
  ⟨h.size, fun k hk => ⟨Nat.lt_of_lt_of_le (hO k hk) h.size, .inl hk⟩, fun k hk _ => h.block k hk⟩
theorem Fr.trans {O O1 O2 : Blk} {X Y Z : World} (h : Fr O X O1 Y) (k : Fr O1 Y O2 Z) : Fr O X O2 Z :=
  ⟨Nat.le_trans h.size k.size, fun i hi => by
    obtain ⟨h1, h2⟩ := k.ext i hi
    refine ⟨h1, ?_⟩
    rcases h2 with h2 | h2
    · exact (h.ext i h2).2
    · exact .inr (Nat.le_trans h.size h2), fun i hi hn => (k.same i (Nat.lt_of_lt_of_le hi h.size) fun ho => by
      rcases (h.ext i ho).2 with h3 | h3
      · exact hn h3
      · omega).trans (h.same i hi hn)⟩
theorem Fr.grown {O : Blk} {X X' : World} {row : Option Nat} (h : X.grownBy X' row) (hO : ∀ k, O k → k < X.heap.size) (hr : ∀ k, row = some k → O k) : Fr O X O X' :=
  ⟨h.size, fun k hk => ⟨Nat.lt_of_lt_of_le (hO k hk) h.size, .inl hk⟩, fun k hk hn => h.block k hk fun e => hn (hr k e.symm)⟩
theorem Fr.setCell {O : Blk} (X : World) (k : Nat) (v : Value) (hO : ∀ k, O k → k < X.heap.size) (hk : O k) : Fr O X O (X.setCell ⟨k, 0, none⟩ v) := .grown (grownBy_setCell' X k v) hO (fun j e => by cases e; exact hk)
theorem Fr.more {O O' P P' E : Blk} {X X' : World} (h : Fr O X O' X') (e1 : ∀ k, P k ↔ O k ∨ E k) (e2 : ∀ k, P' k ↔ O' k ∨ E k) (hE : ∀ k, E k → k < X.heap.size) : Fr P X P' X' :=
  ⟨h.size, fun k hk => by
    rcases (e2 k).1 hk with h1 | h1
    · exact ⟨(h.ext k h1).1, (h.ext k h1).2.imp (fun h2 => (e1 k).2 (.inl h2)) id⟩
    · exact ⟨Nat.lt_of_lt_of_le (hE k h1) h.size, .inl ((e1 k).2 (.inr h1))⟩, fun k hk hn => h.same k hk fun h1 => hn ((e1 k).2 (.inl h1))⟩
/-- an iterator: from s0 to an end. O: the caller's blocks, M: the iterator's; V: what a round is told -/
def GivesM {σ α : Type} (P : Program) (gf : Nat) (lb : Array Value) (enc : α → Array Value) (Pre : World → Prop) (V : Blk → σ → α → σ → World → Prop) (s0 : σ) (E : σ → Prop) : Prop :=
  ∀ (l : Nat) (X0 : World) (I : Blk → Blk → σ → World → Prop) (Bx : Blk → Blk → World → Prop) (O0 : Blk), l < X0.heap.size → (∀ k, O0 k → k < X0.heap.size) →
    (∀ O M s X, I O M s X → Pre X) → (∀ O M s X X', (∀ k, M k → X0.heap.size ≤ k) → I O M s X → Mut M X X' → I O M s X') → (∀ O M X X', (∀ k, M k → X0.heap.size ≤ k) → Bx O M X → Mut M X X' → Bx O M X') →
    (∀ O M s x s' X, (∀ k, M k → X0.heap.size ≤ k) → (∀ k, M k → k < X.heap.size) → (∀ k, O k → k < X.heap.size) → X0.heap.size ≤ X.heap.size → I O M s X → V M s x s' X → YieldAt Fence.wide 0 P l (enc x) X fun e X' =>
      ∃ O', ((e = .returned (.bool true) ∧ I O' M s' X') ∨ (e = .returned (.bool false) ∧ Bx O' M X')) ∧ Fr O X O' X') →
    (∀ M, (∀ k, M k → X0.heap.size ≤ k) → I O0 M s0 X0) →
    Calls P gf (#[.func (.yield l) #[] #[]] ++ lb) X0 fun e X => (∃ v, e = .returned v) ∧ ((∃ O M s, (∀ k, M k → X0.heap.size ≤ k) ∧ (∀ k, M k → k < X.heap.size) ∧ (∀ k, O k → k < X.heap.size) ∧ E s ∧ I O M s X) ∨ ∃ O M, (∀ k, M k → X0.heap.size ≤ k) ∧ Bx O M X)
/-- how a body may be left -/
def toM (O : Blk) (I : Blk → World → Prop) (Ix : Code → Blk → World → Prop) (X : World) : Exit → Act → World → Prop
  | .normal, _, X' => ∃ O', Fr O X O' X' ∧ I O' X'
  | .ret, _, X' => ∃ O', Fr O X O' X' ∧ Ix .ret O' X'
  | .exit i, _, X' => ∃ O', Fr O X O' X' ∧ Ix (.exit i) O' X'
  | .goto t, _, X' => ∃ O', Fr O X O' X' ∧ Ix (.goto t) O' X'
  | .panic _, _, _ => False
  | .outgrown, _, _ => False
theorem sh_toM {O : Blk} {I : Blk → World → Prop} {Ix : Code → Blk → World → Prop} {X : World} : ∀ e a w, sh (toM O I Ix X) e a w → toM O I Ix X e a w := fun e a w h => by
  cases e <;> first | exact h | exact (h : False).elim
theorem Held.fr {D : Nat} {L : Loop} {O O' : Blk} {X X' : World} (h : Held D L X) (k : Fr O X O' X') (hO : ∀ k, O k → k ≠ D ∧ k ≠ D + 1) : Held D L X' :=
  ⟨(k.same _ (Array.getElem?_eq_some_iff.1 h.rec_).1 (fun e => (hO _ e).2 rfl)).trans h.rec_, (k.same _ (Array.getElem?_eq_some_iff.1 h.defs).1 (fun e => (hO _ e).1 rfl)).trans h.defs⟩
theorem Held.mut {D : Nat} {L : Loop} {M : Nat → Prop} {X X' : World} (h : Held D L X) (k : Mut M X X') (hM : ∀ k, M k → D + 2 ≤ k) : Held D L X' :=
  ⟨(k.same _ (Array.getElem?_eq_some_iff.1 h.rec_).1 (fun e => by have := hM _ e; omega)).trans h.rec_, (k.same _ (Array.getElem?_eq_some_iff.1 h.defs).1 (fun e => by have := hM _ e; omega)).trans h.defs⟩
/-- the blocks M, and the two of the loop at B -/
def own2 (B : Nat) (M : Nat → Prop) (k : Nat) : Prop := M k ∨ k = B ∨ k = B + 1
theorem range_toldM {σ α : Type} {P : Program} {g : Operand} {ps : Array Tmp} {assign body : Code} {Q : Exit → Act → World → Prop} {a : Act} {w : World} {gf : Nat} {lb : Array Value}
    (hg : a.eval g = .func (.func gf) #[] lb) (eg : ∀ args w, (callFunc gf args).run P w = .ok (.enter gf args) w)
    (enc : α → Array Value) (hps : ∀ x, (enc x).size = ps.size)
    (Pre : World → Prop) (V : Blk → σ → α → σ → World → Prop) (s0 : σ) (E : σ → Prop) (hG : GivesM P gf lb enc Pre V s0 E)
    (O0 : Blk) (I : Blk → Blk → σ → World → Prop) (Ix : Code → Blk → Blk → World → Prop)
    (hO0 : ∀ k, O0 k → k < w.heap.size)
    (hI : ∀ O M s X X', (∀ k, M k → w.heap.size + 2 ≤ k) → I O M s X → Mut (own2 w.heap.size M) X X' → I O M s X')
    (hIx : ∀ c O M X X', (∀ k, M k → w.heap.size + 2 ≤ k) → Ix c O M X → Mut (own2 w.heap.size M) X X' → Ix c O M X')
    (hP : ∀ O M s X, I O M s X → Pre X) (hV : ∀ M s x s', Calm w.heap.size (V M s x s'))
    (h0 : ∀ M, (∀ k, M k → w.heap.size + 2 ≤ k) → I O0 M s0 w)
    (hround : ∀ (l : Nat) (O M : Blk) (s : σ) (x : α) (s' : σ) (X Z : World) (To : Exit → Act → World → Prop), (∀ k, M k → w.heap.size + 2 ≤ k) → (∀ k, M k → k < X.heap.size) → (∀ k, O k → k < X.heap.size ∧ k ≠ w.heap.size ∧ k ≠ w.heap.size + 1) →
      w.heap.size + 1 < X.heap.size → I O M s X → V M s x s' X → Z.heap.size = X.heap.size → (∃ r, X.heap[w.heap.size + 1]? = some (.loop r)) → X.heap[w.heap.size]? = some (.deferred (some [])) →
      Hid (∀ b O' X', Fr O X O' X' → I O' M s' X' → To .normal b X') → Hid (∀ b O' X', Fr O X O' X' → Ix .ret O' M X' → To .ret b X') → Hid (∀ i b O' X', Fr O X O' X' → Ix (.exit i) O' M X' → To (.exit i) b X') →
      assign.wpIn (Fence.wide.inRound l) 0 P (Exit.then (fun a₁ Z' => Below Z.heap.size Z Z' ∧ ∀ Y, Below X.heap.size X Y → (∀ k, X.heap.size ≤ k → Y.heap[k]? = Z'.heap[k]?) → Y.heap.size = Z'.heap.size →
        body.wpIn (Fence.wide.inRound l) 0 P (sh To) a₁ Y) (fun _ _ _ => False)) { tmps := (ps.zip (enc x)).foldl (fun t (p, v) => t.setIfInBounds p v) a.tmps, defers := [] } Z)
    (hdone : ∀ (O M : Blk) (s : σ) (X : World), (∀ k, M k → w.heap.size + 2 ≤ k) → (∀ k, M k → k < X.heap.size) → (∀ k, O k → k < X.heap.size ∧ k ≠ w.heap.size ∧ k ≠ w.heap.size + 1) → w.heap.size + 1 < X.heap.size → E s → I O M s X → X.heap[w.heap.size]? = some (.deferred (some [])) → Q .normal { a with defers := { target := .collected w.heap.size, args := #[] } :: a.defers } X)
    (hstop : ∀ (c : Code) (O M : Blk) (X : World), (∀ k, M k → w.heap.size + 2 ≤ k) → Ix c O M X → X.heap[w.heap.size]? = some (.deferred (some [])) → c.wp P Q { a with defers := { target := .collected w.heap.size, args := #[] } :: a.defers } X) :
    (Code.rangeFunc g ps assign body).wp P Q a w := by
  refine (wpIn_wide (n := 0)).1 (wpIn_rangeFunc fun fn _ => ?_)
  have hm0 : ∀ M : Blk, Mut (own2 w.heap.size M) w ((w.alloc (.deferred (some []))).alloc (.loop (lp a ps assign body fn w.heap.size .ready none))) := fun M => (Mut.alloc _ _).trans (Mut.alloc _ _)
  have hs0 : ((w.alloc (.deferred (some []))).alloc (.loop (lp a ps assign body fn w.heap.size .ready none))).heap.size = w.heap.size + 2 := by simp
  have hheld : Held w.heap.size (lp a ps assign body fn w.heap.size .ready none) ((w.alloc (.deferred (some []))).alloc (.loop (lp a ps assign body fn w.heap.size .ready none))) := by
    constructor
    · have := World.alloc_heap_new (w.alloc (.deferred (some []))) (.loop (lp a ps assign body fn w.heap.size .ready none))
      rwa [World.size_alloc] at this
    · exact (Below.heap_alloc _ _ _ (by simp)).trans (World.alloc_heap_new w _)
  have hent := run_enterLoop_outer (P := P) (w := w) fn a.tmps ps assign body
  have hL : ({ state := .ready, pending := none, fn, tmps := a.tmps, params := ps, assign, body, defers := w.heap.size } : Loop) = lp a ps assign body fn w.heap.size .ready none := rfl
  rw [hL] at hent
  generalize (w.alloc (.deferred (some []))).alloc (.loop (lp a ps assign body fn w.heap.size .ready none)) = W1 at hm0 hs0 hheld hent
  refine ⟨w.heap.size + 1, [{ target := .collected w.heap.size, args := #[] }], W1, { target := .fn (.func gf) lb, args := #[.func (.yield (w.heap.size + 1)) #[] #[]] }, W1, gf,
    #[.func (.yield (w.heap.size + 1)) #[] #[]] ++ lb, W1, hent, ?_, fun _ _ => trivial, ?_, (fun h => absurd h (by decide)), (callsIn_wide (n := 0)).2 ?_⟩
  · simp only [resolve, hg]
    simp [go_sem]
  · simp [invoke, go_sem, eg]
  refine (hG (w.heap.size + 1) W1 (fun O M s X => ∃ O1, (∀ k, O k ↔ O1 k ∨ k = w.heap.size + 1) ∧ (∀ k, O1 k → k ≠ w.heap.size ∧ k ≠ w.heap.size + 1) ∧ I O1 M s X ∧ Held w.heap.size (lp a ps assign body fn w.heap.size .ready none) X)
    (fun O M X => ∃ O1 c, Ix c O1 M X ∧ Held w.heap.size (lp a ps assign body fn w.heap.size .done (some c)) X) (fun k => O0 k ∨ k = w.heap.size + 1) (by omega)
    (fun k hk => by rcases hk with hk | rfl; have := hO0 k hk; omega; omega) (fun O M s X ⟨_, _, _, h, _⟩ => hP _ M s X h)
    (fun O M s X X' hM ⟨O1, e, e2, h, hB⟩ k => ⟨O1, e, e2, hI O1 M s X X' (fun i hi => hs0 ▸ hM i hi) h (k.mono fun _ => Or.inl), hB.mut k (fun i hi => hs0 ▸ hM i hi)⟩)
    (fun O M X X' hM ⟨O1, c, h, hB⟩ k => ⟨O1, c, hIx c O1 M X X' (fun i hi => hs0 ▸ hM i hi) h (k.mono fun _ => Or.inl), hB.mut k (fun i hi => hs0 ▸ hM i hi)⟩) ?_
    (fun M hM => ⟨O0, fun _ => Iff.rfl, fun k hk => by have := hO0 k hk; omega, hI O0 M s0 w W1 (fun i hi => hs0 ▸ hM i hi) (h0 M (fun i hi => hs0 ▸ hM i hi)) (hm0 M), hheld⟩)).mono ?_
  · intro O M s x s' X hM hMX hOX hX0 ⟨O1, eO, hO1, hi, hB⟩ hv
    have hM2 : ∀ k, M k → w.heap.size + 2 ≤ k := fun k hk => hs0 ▸ hM k hk
    have hlt1 : w.heap.size + 1 < X.heap.size := (Array.getElem?_eq_some_iff.1 hB.rec_).1
    have hbusy : Mut (own2 w.heap.size M) X (X.putObj (w.heap.size + 1) (.loop (lp a ps assign body fn w.heap.size .busy none))) := Mut.put X (.inr (.inr rfl)) _
    have hB2 := hB.put (lp a ps assign body fn w.heap.size .busy none)
    refine ⟨fn, _, assign, body, run_yield (P := P) (args := enc x) hB.rec_ (hps x), roundIn_of_wpIn trivial (wpIn_mono (hround _ O1 M s x s' (X.putObj (w.heap.size + 1) (.loop (lp a ps assign body fn w.heap.size .busy none))) X
      (toM O1 (fun O' => I O' M s') (fun c O' => Ix c O' M) (X.putObj (w.heap.size + 1) (.loop (lp a ps assign body fn w.heap.size .busy none)))) hM2 (fun k hk => by simpa using hMX k hk)
      (fun k hk => ⟨by simpa using hOX k ((eO k).2 (.inl hk)), hO1 k hk⟩) (by simpa using hlt1) (hI O1 M s _ _ hM2 hi hbusy) (hV M s x s' _ _ hv (NC.put _ (by omega) hB.rec_ rfl)) (by simp) ⟨_, hB2.rec_⟩ hB2.defs
      (fun _ _ _ h k => ⟨_, h, k⟩) (fun _ _ _ h k => ⟨_, h, k⟩) (fun _ _ _ _ h k => ⟨_, h, k⟩)) ?_)⟩
    intro e a₁ Z' hq
    cases e with
    | normal => ?_
    | _ => exact hq.elim
    obtain ⟨hzb, hbd⟩ := hq
    have hrec : Z'.heap[w.heap.size + 1]? = some (.loop (lp a ps assign body fn w.heap.size .ready none)) := by rw [hzb.block _ hlt1]; exact hB.rec_
    refine ⟨_, run_beginRound hrec rfl, ?_⟩
    have hY : Below (X.putObj (w.heap.size + 1) (.loop (lp a ps assign body fn w.heap.size .busy none))).heap.size (X.putObj (w.heap.size + 1) (.loop (lp a ps assign body fn w.heap.size .busy none))) (Z'.putObj (w.heap.size + 1) (.loop (lp a ps assign body fn w.heap.size .busy none))) := by
      refine ⟨hzb.os, hzb.tape, hzb.output, by simpa using hzb.size, fun k hk => ?_⟩
      have hk' : k < X.heap.size := by simpa using hk
      by_cases e : k = w.heap.size + 1
      · subst e
        rw [World.putObj_heap_same hlt1, World.putObj_heap_same (Nat.lt_of_lt_of_le hlt1 hzb.size)]
      · rw [World.putObj_heap_other e, World.putObj_heap_other e]
        exact hzb.block k hk'
    refine wpIn_mono (wpIn_mono (hbd _ hY (fun k hk => World.putObj_heap_other (by simp at hk; omega)) (by simp)) sh_toM) ?_
    have keep : ∀ (O' : Blk) (X3 : World) (o : Obj), Fr O1 (X.putObj (w.heap.size + 1) (.loop (lp a ps assign body fn w.heap.size .busy none))) O' X3 →
        Fr O X (fun k => O' k ∨ k = w.heap.size + 1) (X3.putObj (w.heap.size + 1) o) ∧ (∀ k, O' k → k ≠ w.heap.size ∧ k ≠ w.heap.size + 1) := fun O' X3 o hk => by
      have hsz : X.heap.size ≤ X3.heap.size := by have := hk.size; simpa using this
      refine ⟨⟨by simpa using hsz, fun k hm => ?_, fun k hlt hno => ?_⟩, fun k hm => ?_⟩
      · rcases hm with hm | rfl
        · have := hk.ext k hm
          refine ⟨by simpa using this.1, this.2.imp (fun h => (eO k).2 (.inl h)) fun h => by simpa using h⟩
        · exact ⟨by simp; omega, .inl ((eO _).2 (.inr rfl))⟩
      · have hne : k ≠ w.heap.size + 1 := fun e => hno ((eO k).2 (.inr e))
        rw [World.putObj_heap_other hne, hk.same k (by simpa using hlt) (fun h => hno ((eO k).2 (.inl h))), World.putObj_heap_other hne]
      · rcases (hk.ext k hm).2 with h | h
        · exact hO1 k h
        · simp at h; omega
    rintro e a3 X3 hp
    cases e with
    | normal =>
      obtain ⟨O', hk, hi3⟩ := hp
      have hB3 := hB2.fr hk hO1
      exact ⟨_, _, fin none hB3, _, .inl ⟨rfl, O', fun _ => Iff.rfl, (keep O' X3 (.deferred none) hk).2, hI _ _ _ _ _ hM2 hi3 (Mut.put X3 (.inr (.inr rfl)) _), hB3.put _⟩, (keep O' X3 _ hk).1⟩
    | ret =>
      obtain ⟨O', hk, hi3⟩ := hp
      have hB3 := hB2.fr hk hO1
      exact ⟨_, _, fin (some .ret) hB3, _, .inr ⟨rfl, O', .ret, hIx _ _ _ _ _ hM2 hi3 (Mut.put X3 (.inr (.inr rfl)) _), hB3.put _⟩, (keep O' X3 _ hk).1⟩
    | exit i =>
      obtain ⟨O', hk, hi3⟩ := hp
      have hB3 := hB2.fr hk hO1
      exact ⟨_, _, fin (some (.exit i)) hB3, _, .inr ⟨rfl, O', .exit i, hIx _ _ _ _ _ hM2 hi3 (Mut.put X3 (.inr (.inr rfl)) _), hB3.put _⟩, (keep O' X3 _ hk).1⟩
    | goto t =>
      obtain ⟨O', hk, hi3⟩ := hp
      have hB3 := hB2.fr hk hO1
      exact ⟨_, _, fin (some (.goto t)) hB3, _, .inr ⟨rfl, O', .goto t, hIx _ _ _ _ _ hM2 hi3 (Mut.put X3 (.inr (.inr rfl)) _), hB3.put _⟩, (keep O' X3 _ hk).1⟩
    | panic ch => exact hp.elim
    | outgrown => exact hp.elim
  · rintro e X2 ⟨⟨v, rfl⟩, (⟨O, M, s, hM, hMX, hOX, hE, O1, eO, hO1, hi, hB⟩ | ⟨O, M, hM, O1, c, hi, hB⟩)⟩
    · have hM2 : ∀ k, M k → w.heap.size + 2 ≤ k := fun k hk => hs0 ▸ hM k hk
      exact ⟨none, _, run_endLoop (P := P) hB.rec_ (by simp [lp]), hdone O1 M s _ hM2 (fun k hk => by simpa using hMX k hk) (fun k hk => ⟨by simpa using hOX k ((eO k).2 (.inl hk)), hO1 k hk⟩) (by have := (Array.getElem?_eq_some_iff.1 hB.rec_).1; simpa using this) hE (hI _ _ _ _ _ hM2 hi (Mut.put X2 (.inr (.inr rfl)) _)) (hB.put _).defs⟩
    · have hM2 : ∀ k, M k → w.heap.size + 2 ≤ k := fun k hk => hs0 ▸ hM k hk
      exact ⟨some c, _, run_endLoop (P := P) hB.rec_ (by simp [lp]), (wpIn_wide (n := 0)).2 (hstop c O1 M _ hM2 (hIx _ _ _ _ _ hM2 hi (Mut.put X2 (.inr (.inr rfl)) _)) (hB.put _).defs)⟩
end Go.Proofs.YtomkkkbdipcjgaaDoor.Rf
namespace Go.Proofs.YtomkkkbdipcjgaaDoor.Rgt
open Go.RowKit
set_option linter.unusedVariables false
section
variable {P : Program} {md : Region.Mode} {ops : Array Oper} {Q : Exit → Act → World → Prop} {S : World → Prop} {T : Nat → Bool}
def wpAnyT (P : Program) (md : Region.Mode) (ops : Array Oper) (Q : Exit → Act → World → Prop) (S : World → Prop) (T : Nat → Bool) : Nat → Array Bool → Act → World → Prop
  | 0, listed, a, w => Region.ready md ops listed = [] ∧ Q .normal a w
  | fuel + 1, listed, a, w =>
    (Region.ready md ops listed = [] → Q .normal a w) ∧
    ∀ i ∈ Region.ready md ops listed, wpOp P ops Q i (fun a' w' => (T i = false → S w') ∧ wpAnyT P md ops Q S T fuel (listed.setIfInBounds i true) a' w') a w
theorem any_of : ∀ (fuel : Nat) (listed : Array Bool) (a : Act) (w : World), wpAnyT P md ops Q S T fuel listed a w → wpAny P md ops Q fuel listed a w
  | 0, _, _, _, h => h
  | fuel + 1, _, _, _, h => ⟨h.1, fun i hi => wpOp_mono (fun a' w' h' => any_of fuel _ a' w' h'.2) (h.2 i hi)⟩
/-- each of T waits for number i -/
def waits (md : Region.Mode) (ops : Array Oper) (T : Nat → Bool) (i : Nat) : Bool :=
  (List.range ops.size).all fun t => !T t || match ops[t]? with
    | some o => o.after.toList.any fun e => Region.binds md e && e.on == i
    | none => true
theorem waits_spec {i : Nat} (h : waits md ops T i = true) {t : Nat} {o : Oper} (ho : ops[t]? = some o) (hT : T t = true) : ∃ e ∈ o.after, Region.binds md e = true ∧ e.on = i := by
  have h1 := List.all_eq_true.1 h t (List.mem_range.2 (Array.getElem?_eq_some_iff.1 ho).1)
  simp only [hT, ho, Bool.not_true, Bool.false_or, List.any_eq_true, Bool.and_eq_true, beq_iff_eq] at h1
  obtain ⟨e, he, h2, h3⟩ := h1
  exact ⟨e, by simpa using he, h2, h3⟩
theorem first {i : Nat} {oi : Oper} {v : Value} (hi : ops[i]? = some oi) (hsel : ∀ (j : Nat) (o : Oper) cs b, ops[j]? = some o → o.op ≠ .select cs b) (hT : waits md ops T i = true)
    (hQ : ∀ c a w, Q (.panic c) (a.put oi.dst v) w → Q (.panic c) a w) :
    ∀ (fuel : Nat) (listed : Array Bool) (a : Act) (w : World),
      (∀ j oj, ops[j]? = some oj → j ≠ i → listed.getD j true = false → (∀ e ∈ oj.after, Region.binds md e = true → e.on ≠ i) → oi.apart ops oj = true) →
      i ∈ Region.ready md ops listed → YieldsIf P ops S oi v a → S w →
      wpAnyT P md ops Q S T fuel (listed.setIfInBounds i true) (a.put oi.dst v) w → wpAnyT P md ops Q S T (fuel + 1) listed a w := by
  intro fuel
  induction fuel with
  | zero =>
    intro listed a w _ hr hy hS H
    refine ⟨fun h => (by rw [h] at hr; cases hr), fun j hj => ?_⟩
    by_cases hji : j = i
    · subst hji; exact hy.wpOp hi hS ⟨fun _ => hS, H⟩
    · have := ready_mono hj hji
      rw [H.1] at this
      cases this
  | succ fuel ih =>
    intro listed a w hfree hr hy hS H
    refine ⟨fun h => (by rw [h] at hr; cases hr), fun j hj => ?_⟩
    by_cases hji : j = i
    · subst hji; exact hy.wpOp hi hS ⟨fun _ => hS, H⟩
    · have h1 := H.2 j (ready_mono hj hji)
      obtain ⟨hjun, oj, hoj, hall⟩ := mem_ready.1 hj
      have hnot : ∀ e ∈ oj.after, Region.binds md e = true → e.on ≠ i := fun e he hb heq => by
        have h1 := hall e he hb
        have h0 := (mem_ready.1 hr).1
        rw [heq] at h1
        rcases Nat.lt_or_ge i listed.size with h' | h'
        · simp [h'] at h0 h1; rw [h0] at h1; cases h1
        · simp [Array.getElem?_eq_none h'] at h1
      have hTj : T j = false := by
        cases hb : T j with
        | false => rfl
        | true =>
          obtain ⟨e, he, hb1, hb2⟩ := waits_spec hT hoj hb
          exact absurd hb2 (hnot e he hb1)
      have h2 := wpOp_putIf hoj (hfree j oj hoj hji hjun hnot) (fun cs b => hsel i oi cs b hi) (fun cs b => hsel j oj cs b hoj) hQ hy h1
      have hfree' : ∀ k ok, ops[k]? = some ok → k ≠ i → (listed.setIfInBounds j true).getD k true = false →
          (∀ e ∈ ok.after, Region.binds md e = true → e.on ≠ i) → oi.apart ops ok = true := fun k ok hk hki hun hno => by
        refine hfree k ok hk hki ?_ hno
        by_cases hjk : j = k
        · subst hjk; exact hjun
        · rw [getD_set_ne true hjk] at hun; exact hun
      refine wpOp_mono (fun a' w' h3 => ⟨h3.2.1, ih (listed.setIfInBounds j true) a' w' hfree' (ready_mono hr (Ne.symm hji)) h3.1 (h3.2.1 hTj) ?_⟩) h2
      rw [Array.setIfInBounds_comm _ _ hji]
      exact h3.2.2
variable {fuel : Nat} {listed : Array Bool} {a : Act} {w : World}
theorem take {i : Nat} {o : Oper} {d : Tmp} {x : Value} (hi : ops[i]? = some o) (hd : o.dst = some d)
    (hs : Region.noSelect ops = true) (hT : waits md ops T i = true) (hf : Region.free md ops listed i = true) (hr : (Region.ready md ops listed).contains i = true)
    (hQ : ∀ c a w, Q (.panic c) (a.put o.dst x) w → Q (.panic c) a w) (hy : YieldsIf P ops S o x a) (hS : S w)
    (h : wpAnyT P md ops Q S T fuel (listed.setIfInBounds i true) { a with tmps := a.tmps.setIfInBounds d x } w) : wpAnyT P md ops Q S T (fuel + 1) listed a w :=
  first hi (Region.noSelect_spec hs) hT hQ fuel listed a w (Region.free_spec hi hf) (by simpa using hr) hy hS (by rw [hd]; exact h)
theorem op_of {i : Nat} {o : Oper} {K : Act → World → Prop} (ho : ops[i]? = some o) (hw : Region.wanted o (yielded ops a.tmps) = true) (h : o.wp P a w K Q) : wpOp P ops Q i K a w := by
  unfold wpOp
  rw [ho]
  dsimp only
  rw [if_pos hw]
  exact .inl h
/-- the one operation that may come: it keeps S -/
theorem ready {i : Nat} {o : Oper} (hr : Region.ready md ops listed = [i]) (ho : ops[i]? = some o) (hw : Region.wanted o (yielded ops a.tmps) = true)
    (h : ∀ K : Act → World → Prop, (∀ a' w', S w' → wpAnyT P md ops Q S T fuel (listed.setIfInBounds i true) a' w' → K a' w') → o.wp P a w K Q) : wpAnyT P md ops Q S T (fuel + 1) listed a w :=
  ⟨fun h0 => (by rw [hr] at h0; cases h0), fun j hj => by
    rw [hr] at hj
    obtain rfl : j = i := by simpa using hj
    exact op_of ho hw (h _ fun a' w' h1 h2 => ⟨fun _ => h1, h2⟩)⟩
/-- the one operation that may come, of T -/
theorem readyT {i : Nat} {o : Oper} (hr : Region.ready md ops listed = [i]) (ht : T i = true) (ho : ops[i]? = some o) (hw : Region.wanted o (yielded ops a.tmps) = true)
    (h : ∀ K : Act → World → Prop, (∀ a' w', wpAnyT P md ops Q S T fuel (listed.setIfInBounds i true) a' w' → K a' w') → o.wp P a w K Q) : wpAnyT P md ops Q S T (fuel + 1) listed a w :=
  ⟨fun h0 => (by rw [hr] at h0; cases h0), fun j hj => by
    rw [hr] at hj
    obtain rfl : j = i := by simpa using hj
    exact op_of ho hw (h _ fun a' w' h2 => ⟨fun h0 => (by rw [ht] at h0; cases h0), h2⟩)⟩
/-- either of two, both keep S -/
theorem ready2 {i j : Nat} {o o' : Oper} (hr : Region.ready md ops listed = [i, j]) (ho : ops[i]? = some o) (ho' : ops[j]? = some o') (hw : Region.wanted o (yielded ops a.tmps) = true) (hw' : Region.wanted o' (yielded ops a.tmps) = true)
    (h : ∀ K : Act → World → Prop, (∀ a' w', S w' → wpAnyT P md ops Q S T fuel (listed.setIfInBounds i true) a' w' → K a' w') → o.wp P a w K Q)
    (h' : ∀ K : Act → World → Prop, (∀ a' w', S w' → wpAnyT P md ops Q S T fuel (listed.setIfInBounds j true) a' w' → K a' w') → o'.wp P a w K Q) : wpAnyT P md ops Q S T (fuel + 1) listed a w :=
  ⟨fun h0 => (by rw [hr] at h0; cases h0), fun k hk => by
    rw [hr] at hk
    rcases (by simpa using hk : k = i ∨ k = j) with rfl | rfl
    · exact op_of ho hw (h _ fun a' w' h1 h2 => ⟨fun _ => h1, h2⟩)
    · exact op_of ho' hw' (h' _ fun a' w' h1 h2 => ⟨fun _ => h1, h2⟩)⟩
/-- any of three, all keep S -/
theorem ready3 {i j k : Nat} {o o' o'' : Oper} (hr : Region.ready md ops listed = [i, j, k]) (ho : ops[i]? = some o) (ho' : ops[j]? = some o') (ho'' : ops[k]? = some o'') (hw : Region.wanted o (yielded ops a.tmps) = true) (hw' : Region.wanted o' (yielded ops a.tmps) = true) (hw'' : Region.wanted o'' (yielded ops a.tmps) = true)
    (h : ∀ K : Act → World → Prop, (∀ a' w', S w' → wpAnyT P md ops Q S T fuel (listed.setIfInBounds i true) a' w' → K a' w') → o.wp P a w K Q)
    (h' : ∀ K : Act → World → Prop, (∀ a' w', S w' → wpAnyT P md ops Q S T fuel (listed.setIfInBounds j true) a' w' → K a' w') → o'.wp P a w K Q)
    (h'' : ∀ K : Act → World → Prop, (∀ a' w', S w' → wpAnyT P md ops Q S T fuel (listed.setIfInBounds k true) a' w' → K a' w') → o''.wp P a w K Q) : wpAnyT P md ops Q S T (fuel + 1) listed a w :=
  ⟨fun h0 => (by rw [hr] at h0; cases h0), fun l hl => by
    rw [hr] at hl
    rcases (by simpa using hl : l = i ∨ l = j ∨ l = k) with rfl | rfl | rfl
    · exact op_of ho hw (h _ fun a' w' h1 h2 => ⟨fun _ => h1, h2⟩)
    · exact op_of ho' hw' (h' _ fun a' w' h1 h2 => ⟨fun _ => h1, h2⟩)
    · exact op_of ho'' hw'' (h'' _ fun a' w' h1 h2 => ⟨fun _ => h1, h2⟩)⟩
theorem done {listed : Array Bool} {a : Act} {w : World} (hr : Region.ready md ops listed = []) (h : Q .normal a w) : ∀ fuel, wpAnyT P md ops Q S T fuel listed a w
  | 0 => ⟨hr, h⟩
  | _ + 1 => ⟨fun _ => h, by rw [hr]; simp⟩
end
section
variable {P : Program} {ops : Array Oper} {Q : Exit → Act → World → Prop} {a : Act} {w : World}
theorem region (S : World → Prop) (T : Nat → Bool) {id : Nat} (hm : P.follows .mixedOrders = true) (h : wpAnyT P .any ops Q S T ops.size (Array.replicate ops.size false) a w.drew) : (Code.region id ops true).wp P Q a w :=
  wp_region_any hm (any_of _ _ _ _ h)
theorem round (S : World → Prop) (T : Nat → Bool) {id l : Nat} (hm : P.follows .mixedOrders = true) (hd : Rf.noDefer ops = true) (hno : ¬ LetsOut Q) (h : wpAnyT P .any ops Q S T ops.size (Array.replicate ops.size false) a w.drew) : (Code.region id ops true).wpIn (Fence.wide.inRound l) 0 P Q a w :=
  Rf.drawn_round hm hd hno (any_of _ _ _ _ h)
end
end Go.Proofs.YtomkkkbdipcjgaaDoor.Rgt
