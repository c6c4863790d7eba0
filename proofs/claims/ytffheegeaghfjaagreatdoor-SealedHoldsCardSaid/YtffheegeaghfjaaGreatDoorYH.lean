/- YH -/
import Derived.Test.YtffheegeaghfjaaGreatDoorVr2
import Derived.Test.YtffheegeaghfjaaGreatDoorUx16
import Derived.Test.YtffheegeaghfjaaGreatDoorPkx
import Derived.Test.YtffheegeaghfjaaGreatDoorCh16
import Derived.Test.YtffheegeaghfjaaGreatDoorYHPS
import Derived.Test.YtffheegeaghfjaaGreatDoorYHPT
import Derived.Test.YtffheegeaghfjaaGreatDoorYHS
import Derived.Test.YtffheegeaghfjaaGreatDoorYHT
set_option linter.unusedVariables false
set_option linter.unusedSimpArgs false
set_option maxRecDepth 100000
set_option maxHeartbeats 8000000
namespace Go.Proofs.YtffheegeaghfjaaGreatDoor.Rg
open Go.RowKit
section
variable {P : Program} {G : Nat -> Value -> World -> Prop} {Q : Exit -> Act -> World -> Prop} {i : Nat} {o : Oper} {b : Act} {v : World}
end
end Go.Proofs.YtffheegeaghfjaaGreatDoor.Rg
namespace Go.Proofs.YtffheegeaghfjaaGreatDoor.Rf
open Go.RowKit
section
variable {P : Program} {Q : Exit -> Act -> World -> Prop}
end
end Go.Proofs.YtffheegeaghfjaaGreatDoor.Rf
namespace Go.Proofs.YtffheegeaghfjaaGreatDoor.Rf
open Go.RowKit
structure Mut (M : Nat -> Prop) (X X' : World) : Prop where
 os : X'.os = X.os
 tape : X'.tape = X.tape
 output : X'.output = X.output
 size : X.heap.size <= X'.heap.size
 same : ∀ k, k < X.heap.size -> ¬ M k -> X'.heap[k]? = X.heap[k]?
theorem Mut.refl (M : Nat -> Prop) (X : World) : Mut M X X := ⟨rfl, rfl, rfl, Nat.le_refl _, fun _ _ _ => rfl⟩
theorem Mut.trans {M : Nat -> Prop} {X Y Z : World} (h : Mut M X Y) (k : Mut M Y Z) : Mut M X Z :=
 ⟨k.os.trans h.os, k.tape.trans h.tape, k.output.trans h.output, Nat.le_trans h.size k.size, fun i hi hm => (k.same i (Nat.lt_of_lt_of_le hi h.size) hm).trans (h.same i hi hm)⟩
theorem Mut.mono {M N : Nat -> Prop} {X Y : World} (h : Mut M X Y) (hMN : ∀ k, M k -> N k) : Mut N X Y := ⟨h.os, h.tape, h.output, h.size, fun k hk hn => h.same k hk fun hm => hn (hMN k hm)⟩
theorem Mut.of_below {M : Nat -> Prop} {X X' : World} (h : Below X.heap.size X X') : Mut M X X' := ⟨h.os, h.tape, h.output, h.size, fun k hk _ => h.block k hk⟩
theorem Mut.below {M : Nat -> Prop} {n : Nat} {X X' : World} (h : Mut M X X') (hn : ∀ k, k < n -> ¬ M k) (hx : n <= X.heap.size) : Below n X X' :=
 ⟨h.os, h.tape, h.output, h.size, fun k hk => h.same k (Nat.lt_of_lt_of_le hk hx) (hn k hk)⟩
theorem Mut.put {M : Nat -> Prop} (X : World) {k : Nat} (hk : M k) (o : Obj) : Mut M X (X.putObj k o) :=
 ⟨rfl, rfl, rfl, by simp, fun i _ hm => World.putObj_heap_other (fun e => hm (e ▸ hk))⟩
theorem Mut.alloc {M : Nat -> Prop} (X : World) (o : Obj) : Mut M X (X.alloc o) := .of_below ((Below.refl _ _).alloc (Nat.le_refl _) _)
theorem Mut.grown {M : Nat -> Prop} {X X' : World} {row : Option Nat} (h : X.grownBy X' row) (hr : ∀ k, row = some k -> M k) : Mut M X X' :=
 ⟨h.os, h.tape, h.output, h.size, fun k hk hm => h.block k hk fun e => hm (hr k e.symm)⟩
theorem Mut.setCell {M : Nat -> Prop} (X : World) (k : Nat) (v : Value) (hk : M k) : Mut M X (X.setCell ⟨k, 0, none⟩ v) := .grown (grownBy_setCell' X k v) (fun j e => by cases e; exact hk)
def GivesM {σ α : Type} (P : Program) (gf : Nat) (lb : Array Value) (enc : α -> Array Value) (Pre : World -> Prop) (V : Blk -> σ -> α -> σ -> World -> Prop) (s0 : σ) (E : σ -> Prop) : Prop :=
 ∀ (l : Nat) (X0 : World) (I : Blk -> Blk -> σ -> World -> Prop) (Bx : Blk -> Blk -> World -> Prop) (O0 : Blk), l < X0.heap.size -> (∀ k, O0 k -> k < X0.heap.size) ->
  (∀ O M s X, I O M s X -> Pre X) -> (∀ O M s X X', (∀ k, M k -> X0.heap.size <= k) -> I O M s X -> Mut M X X' -> I O M s X') -> (∀ O M X X', (∀ k, M k -> X0.heap.size <= k) -> Bx O M X -> Mut M X X' -> Bx O M X') ->
  (∀ O M s x s' X, (∀ k, M k -> X0.heap.size <= k) -> (∀ k, M k -> k < X.heap.size) -> (∀ k, O k -> k < X.heap.size) -> X0.heap.size <= X.heap.size -> I O M s X -> V M s x s' X -> YieldAt Fence.wide 0 P l (enc x) X fun e X' =>
   ∃ O', ((e = .returned (.bool true) /\ I O' M s' X') ∨ (e = .returned (.bool false) /\ Bx O' M X')) /\ Fr O X O' X') ->
  (∀ M, (∀ k, M k -> X0.heap.size <= k) -> I O0 M s0 X0) ->
  Calls P gf (#[.func (.yield l) #[] #[]] ++ lb) X0 fun e X => (∃ v, e = .returned v) /\ ((∃ O M s, (∀ k, M k -> X0.heap.size <= k) /\ (∀ k, M k -> k < X.heap.size) /\ (∀ k, O k -> k < X.heap.size) /\ E s /\ I O M s X) ∨ ∃ O M, (∀ k, M k -> X0.heap.size <= k) /\ Bx O M X)
def toM (O : Blk) (I : Blk -> World -> Prop) (Ix : Code -> Blk -> World -> Prop) (X : World) : Exit -> Act -> World -> Prop
 | .normal, _, X' => ∃ O', Fr O X O' X' /\ I O' X'
 | .ret, _, X' => ∃ O', Fr O X O' X' /\ Ix .ret O' X'
 | .exit i, _, X' => ∃ O', Fr O X O' X' /\ Ix (.exit i) O' X'
 | .goto t, _, X' => ∃ O', Fr O X O' X' /\ Ix (.goto t) O' X'
 | .panic _, _, _ => False
 | .outgrown, _, _ => False
theorem sh_toM {O : Blk} {I : Blk -> World -> Prop} {Ix : Code -> Blk -> World -> Prop} {X : World} : ∀ e a w, sh (toM O I Ix X) e a w -> toM O I Ix X e a w := fun e a w h => by
 cases e <;> first | exact h | exact (h : False).elim
theorem Held.mut {D : Nat} {L : Loop} {M : Nat -> Prop} {X X' : World} (h : Held D L X) (k : Mut M X X') (hM : ∀ k, M k -> D + 2 <= k) : Held D L X' :=
 ⟨(k.same _ (aE.1 h.rec_).1 (fun e => by have := hM _ e; omega)).trans h.rec_, (k.same _ (aE.1 h.defs).1 (fun e => by have := hM _ e; omega)).trans h.defs⟩
def own2 (B : Nat) (M : Nat -> Prop) (k : Nat) : Prop := M k ∨ k = B ∨ k = B + 1
theorem range_toldM {σ α : Type} {P : Program} {g : Operand} {ps : Array Tmp} {assign body : Code} {Q : Exit -> Act -> World -> Prop} {a : Act} {w : World} {gf : Nat} {lb : Array Value}
    (hg : a.eval g = .func (.func gf) #[] lb) (eg : ∀ args w, (callFunc gf args).run P w = .ok (.enter gf args) w)
    (enc : α -> Array Value) (hps : ∀ x, (enc x).size = ps.size)
    (Pre : World -> Prop) (V : Blk -> σ -> α -> σ -> World -> Prop) (s0 : σ) (E : σ -> Prop) (hG : GivesM P gf lb enc Pre V s0 E)
    (O0 : Blk) (I : Blk -> Blk -> σ -> World -> Prop) (Ix : Code -> Blk -> Blk -> World -> Prop)
    (hO0 : ∀ k, O0 k -> k < w.heap.size)
    (hI : ∀ O M s X X', (∀ k, M k -> w.heap.size + 2 <= k) -> I O M s X -> Mut (own2 w.heap.size M) X X' -> I O M s X')
    (hIx : ∀ c O M X X', (∀ k, M k -> w.heap.size + 2 <= k) -> Ix c O M X -> Mut (own2 w.heap.size M) X X' -> Ix c O M X')
    (hP : ∀ O M s X, I O M s X -> Pre X) (hV : ∀ M s x s', Calm w.heap.size (V M s x s'))
    (h0 : ∀ M, (∀ k, M k -> w.heap.size + 2 <= k) -> I O0 M s0 w)
    (hround : ∀ (l : Nat) (O M : Blk) (s : σ) (x : α) (s' : σ) (X Z : World) (To : Exit -> Act -> World -> Prop), (∀ k, M k -> w.heap.size + 2 <= k) -> (∀ k, M k -> k < X.heap.size) -> (∀ k, O k -> k < X.heap.size /\ k ≠ w.heap.size /\ k ≠ w.heap.size + 1) ->
      w.heap.size + 1 < X.heap.size -> I O M s X -> V M s x s' X -> Z.heap.size = X.heap.size -> (∃ r, X.heap[w.heap.size + 1]? = some (.loop r)) -> X.heap[w.heap.size]? = some (.deferred (some [])) ->
      Hid (∀ b O' X', Fr O X O' X' -> I O' M s' X' -> To .normal b X') -> Hid (∀ b O' X', Fr O X O' X' -> Ix .ret O' M X' -> To .ret b X') -> Hid (∀ i b O' X', Fr O X O' X' -> Ix (.exit i) O' M X' -> To (.exit i) b X') ->
      assign.wpIn (Fence.wide.inRound l) 0 P (Exit.then (fun a₁ Z' => Below Z.heap.size Z Z' /\ ∀ Y, Below X.heap.size X Y -> (∀ k, X.heap.size <= k -> Y.heap[k]? = Z'.heap[k]?) -> Y.heap.size = Z'.heap.size ->
        body.wpIn (Fence.wide.inRound l) 0 P (sh To) a₁ Y) (fun _ _ _ => False)) { tmps := (ps.zip (enc x)).foldl (fun t (p, v) => t.setIfInBounds p v) a.tmps, defers := [] } Z)
    (hdone : ∀ (O M : Blk) (s : σ) (X : World), (∀ k, M k -> w.heap.size + 2 <= k) -> (∀ k, M k -> k < X.heap.size) -> (∀ k, O k -> k < X.heap.size /\ k ≠ w.heap.size /\ k ≠ w.heap.size + 1) -> w.heap.size + 1 < X.heap.size -> E s -> I O M s X -> X.heap[w.heap.size]? = some (.deferred (some [])) -> Q .normal { a with defers := { target := .collected w.heap.size, args := #[] } :: a.defers } X)
    (hstop : ∀ (c : Code) (O M : Blk) (X : World), (∀ k, M k -> w.heap.size + 2 <= k) -> Ix c O M X -> X.heap[w.heap.size]? = some (.deferred (some [])) -> c.wp P Q { a with defers := { target := .collected w.heap.size, args := #[] } :: a.defers } X) :
    (Code.rangeFunc g ps assign body).wp P Q a w := by
 refine (wpIn_wide (n := 0)).1 (wpIn_rangeFunc fun fn _ => ?_)
 have hm0 : ∀ M : Blk, Mut (own2 w.heap.size M) w ((w.alloc (.deferred (some []))).alloc (.loop (lp a ps assign body fn w.heap.size .ready none))) := fun M => (Mut.alloc _ _).trans (Mut.alloc _ _)
 have hs0 : ((w.alloc (.deferred (some []))).alloc (.loop (lp a ps assign body fn w.heap.size .ready none))).heap.size = w.heap.size + 2 := by simp
 have hheld : Held w.heap.size (lp a ps assign body fn w.heap.size .ready none) ((w.alloc (.deferred (some []))).alloc (.loop (lp a ps assign body fn w.heap.size .ready none))) := by
  constructor
  ·have := World.alloc_heap_new (w.alloc (.deferred (some []))) (.loop (lp a ps assign body fn w.heap.size .ready none))
   rwa [World.size_alloc] at this
  ·exact (Below.heap_alloc _ _ _ (by simp)).trans (World.alloc_heap_new w _)
 have hent := run_enterLoop_outer (P := P) (w := w) fn a.tmps ps assign body
 have hL : ({ state := .ready, pending := none, fn, tmps := a.tmps, params := ps, assign, body, defers := w.heap.size } : Loop) = lp a ps assign body fn w.heap.size .ready none := rfl
 rw [hL] at hent
 generalize (w.alloc (.deferred (some []))).alloc (.loop (lp a ps assign body fn w.heap.size .ready none)) = W1 at hm0 hs0 hheld hent
 refine ⟨w.heap.size + 1, [{ target := .collected w.heap.size, args := #[] }], W1, { target := .fn (.func gf) lb, args := #[.func (.yield (w.heap.size + 1)) #[] #[]] }, W1, gf,
  #[.func (.yield (w.heap.size + 1)) #[] #[]] ++ lb, W1, hent, ?_, fun _ _ => trivial, ?_, (fun h => absurd h (by decide)), (callsIn_wide (n := 0)).2 ?_⟩
 ·simp only [resolve, hg]
  simp [go_sem]
 ·simp [invoke, go_sem, eg]
 refine (hG (w.heap.size + 1) W1 (fun O M s X => ∃ O1, (∀ k, O k ↔ O1 k ∨ k = w.heap.size + 1) /\ (∀ k, O1 k -> k ≠ w.heap.size /\ k ≠ w.heap.size + 1) /\ I O1 M s X /\ Held w.heap.size (lp a ps assign body fn w.heap.size .ready none) X)
  (fun O M X => ∃ O1 c, Ix c O1 M X /\ Held w.heap.size (lp a ps assign body fn w.heap.size .done (some c)) X) (fun k => O0 k ∨ k = w.heap.size + 1) (by omega)
  (fun k hk => by rcases hk with hk | rfl; have := hO0 k hk; omega; omega) (fun O M s X ⟨_, _, _, h, _⟩ => hP _ M s X h)
  (fun O M s X X' hM ⟨O1, e, e2, h, hB⟩ k => ⟨O1, e, e2, hI O1 M s X X' (fun i hi => hs0 ▸ hM i hi) h (k.mono fun _ => Or.inl), hB.mut k (fun i hi => hs0 ▸ hM i hi)⟩)
  (fun O M X X' hM ⟨O1, c, h, hB⟩ k => ⟨O1, c, hIx c O1 M X X' (fun i hi => hs0 ▸ hM i hi) h (k.mono fun _ => Or.inl), hB.mut k (fun i hi => hs0 ▸ hM i hi)⟩) ?_
  (fun M hM => ⟨O0, fun _ => Iff.rfl, fun k hk => by have := hO0 k hk; omega, hI O0 M s0 w W1 (fun i hi => hs0 ▸ hM i hi) (h0 M (fun i hi => hs0 ▸ hM i hi)) (hm0 M), hheld⟩)).mono ?_
 ·intro O M s x s' X hM hMX hOX hX0 ⟨O1, eO, hO1, hi, hB⟩ hv
  have hM2 : ∀ k, M k -> w.heap.size + 2 <= k := fun k hk => hs0 ▸ hM k hk
  have hlt1 : w.heap.size + 1 < X.heap.size := (aE.1 hB.rec_).1
  have hbusy : Mut (own2 w.heap.size M) X (X.putObj (w.heap.size + 1) (.loop (lp a ps assign body fn w.heap.size .busy none))) := Mut.put X (.inr (.inr rfl)) _
  have hB2 := hB.put (lp a ps assign body fn w.heap.size .busy none)
  refine ⟨fn, _, assign, body, run_yield (P := P) (args := enc x) hB.rec_ (hps x), roundIn_of_wpIn trivial (wpIn_mono (hround _ O1 M s x s' (X.putObj (w.heap.size + 1) (.loop (lp a ps assign body fn w.heap.size .busy none))) X
   (toM O1 (fun O' => I O' M s') (fun c O' => Ix c O' M) (X.putObj (w.heap.size + 1) (.loop (lp a ps assign body fn w.heap.size .busy none)))) hM2 (fun k hk => by simpa using hMX k hk)
   (fun k hk => ⟨by simpa using hOX k ((eO k).2 (.inl hk)), hO1 k hk⟩) (by simpa using hlt1) (hI O1 M s _ _ hM2 hi hbusy) (hV M s x s' _ _ hv (NC.put _ (by omega) hB.rec_ rfl)) (by simp) ⟨_, hB2.rec_⟩ hB2.defs
   (fun _ _ _ h k => ⟨_, h, k⟩) (fun _ _ _ h k => ⟨_, h, k⟩) (fun _ _ _ _ h k => ⟨_, h, k⟩)) ?_)⟩
  intro e a₁ Z' hq
  cases e with
  | normal => ?_
  | _ => exact hq.elim
  obtain ⟨hzb, hbd⟩ := hq
  have hrec : Z'.heap[w.heap.size + 1]? = some (.loop (lp a ps assign body fn w.heap.size .ready none)) := by rw [hzb.block _ hlt1]; exact hB.rec_
  refine ⟨_, run_beginRound hrec rfl, ?_⟩
  have hY : Below (X.putObj (w.heap.size + 1) (.loop (lp a ps assign body fn w.heap.size .busy none))).heap.size (X.putObj (w.heap.size + 1) (.loop (lp a ps assign body fn w.heap.size .busy none))) (Z'.putObj (w.heap.size + 1) (.loop (lp a ps assign body fn w.heap.size .busy none))) := by
   refine ⟨hzb.os, hzb.tape, hzb.output, by simpa using hzb.size, fun k hk => ?_⟩
   have hk' : k < X.heap.size := by simpa using hk
   by_cases e : k = w.heap.size + 1
   ·subst e
    rw [World.putObj_heap_same hlt1, World.putObj_heap_same (Nat.lt_of_lt_of_le hlt1 hzb.size)]
   ·rw [World.putObj_heap_other e, World.putObj_heap_other e]
    exact hzb.block k hk'
  refine wpIn_mono (wpIn_mono (hbd _ hY (fun k hk => World.putObj_heap_other (by simp at hk; omega)) (by simp)) sh_toM) ?_
  have keep : ∀ (O' : Blk) (X3 : World) (o : Obj), Fr O1 (X.putObj (w.heap.size + 1) (.loop (lp a ps assign body fn w.heap.size .busy none))) O' X3 ->
      Fr O X (fun k => O' k ∨ k = w.heap.size + 1) (X3.putObj (w.heap.size + 1) o) /\ (∀ k, O' k -> k ≠ w.heap.size /\ k ≠ w.heap.size + 1) := fun O' X3 o hk => by
   have hsz : X.heap.size <= X3.heap.size := by have := hk.size; simpa using this
   refine ⟨⟨by simpa using hsz, fun k hm => ?_, fun k hlt hno => ?_⟩, fun k hm => ?_⟩
   ·rcases hm with hm | rfl
    ·have := hk.ext k hm
     refine ⟨by simpa using this.1, this.2.imp (fun h => (eO k).2 (.inl h)) fun h => by simpa using h⟩
    ·exact ⟨by simp; omega, .inl ((eO _).2 (.inr rfl))⟩
   ·have hne : k ≠ w.heap.size + 1 := fun e => hno ((eO k).2 (.inr e))
    rw [World.putObj_heap_other hne, hk.same k (by simpa using hlt) (fun h => hno ((eO k).2 (.inl h))), World.putObj_heap_other hne]
   ·rcases (hk.ext k hm).2 with h | h
    ·exact hO1 k h
    ·simp at h; omega
  rintro e a3 X3 hp
  cases e with
  | normal =>
   obtain ⟨O', hk, hi3⟩ := hp
   have hB3 := hB2.fr hk hO1
   exact ⟨_, _, fin none hB3, _, .inl ⟨rfl, O', fun _ => Iff.rfl, (keep O' X3 (.deferred none) hk).2, hI _ _ _ _ _ hM2 hi3 (Mut.put X3 (.inr (.inr rfl)) _), hB3.put _⟩, (keep O' X3 _ hk).1⟩
  | ret =>
   obtain ⟨O', hk, hi3⟩ := hp
   have hB3 := hB2.fr hk hO1
   exact ⟨_, _, fin (some .ret) hB3, _, .inr ⟨rfl, O', .ret, hIx _ _ _ _ _ hM2 hi3 (Mut.put X3 (.inr (.inr rfl)) _), hB3.put _⟩, (keep O' X3 _ hk).1⟩
  | exit i =>
   obtain ⟨O', hk, hi3⟩ := hp
   have hB3 := hB2.fr hk hO1
   exact ⟨_, _, fin (some (.exit i)) hB3, _, .inr ⟨rfl, O', .exit i, hIx _ _ _ _ _ hM2 hi3 (Mut.put X3 (.inr (.inr rfl)) _), hB3.put _⟩, (keep O' X3 _ hk).1⟩
  | goto t =>
   obtain ⟨O', hk, hi3⟩ := hp
   have hB3 := hB2.fr hk hO1
   exact ⟨_, _, fin (some (.goto t)) hB3, _, .inr ⟨rfl, O', .goto t, hIx _ _ _ _ _ hM2 hi3 (Mut.put X3 (.inr (.inr rfl)) _), hB3.put _⟩, (keep O' X3 _ hk).1⟩
  | panic ch => exact hp.elim
  | outgrown => exact hp.elim
 ·rintro e X2 ⟨⟨v, rfl⟩, (⟨O, M, s, hM, hMX, hOX, hE, O1, eO, hO1, hi, hB⟩ | ⟨O, M, hM, O1, c, hi, hB⟩)⟩
  ·have hM2 : ∀ k, M k -> w.heap.size + 2 <= k := fun k hk => hs0 ▸ hM k hk
   exact ⟨none, _, run_endLoop (P := P) hB.rec_ (by simp [lp]), hdone O1 M s _ hM2 (fun k hk => by simpa using hMX k hk) (fun k hk => ⟨by simpa using hOX k ((eO k).2 (.inl hk)), hO1 k hk⟩) (by have := (aE.1 hB.rec_).1; simpa using this) hE (hI _ _ _ _ _ hM2 hi (Mut.put X2 (.inr (.inr rfl)) _)) (hB.put _).defs⟩
  ·have hM2 : ∀ k, M k -> w.heap.size + 2 <= k := fun k hk => hs0 ▸ hM k hk
   exact ⟨some c, _, run_endLoop (P := P) hB.rec_ (by simp [lp]), (wpIn_wide (n := 0)).2 (hstop c O1 M _ hM2 (hIx _ _ _ _ _ hM2 hi (Mut.put X2 (.inr (.inr rfl)) _)) (hB.put _).defs)⟩
end Go.Proofs.YtffheegeaghfjaaGreatDoor.Rf
namespace Go.Proofs.YtffheegeaghfjaaGreatDoor.Rgt
open Go.RowKit
section
variable {P : Program} {md : Region.Mode} {ops : Array Oper} {Q : Exit -> Act -> World -> Prop} {S : World -> Prop} {T : Nat -> Bool}
variable {fuel : Nat} {listed : Array Bool} {a : Act} {w : World}
theorem readyT {i : Nat} {o : Oper} (hr : Region.ready md ops listed = [i]) (ht : T i = true) (ho : ops[i]? = some o) (hw : Region.wanted o (yielded ops a.tmps) = true)
    (h : ∀ K : Act -> World -> Prop, (∀ a' w', wpAnyT P md ops Q S T fuel (listed.setIfInBounds i true) a' w' -> K a' w') -> o.wp P a w K Q) : wpAnyT P md ops Q S T (fuel + 1) listed a w :=
 ⟨fun h0 => (by rw [hr] at h0; cases h0), fun j hj => by
  rw [hr] at hj
  obtain rfl : j = i := by simpa using hj
  exact op_of ho hw (h _ fun a' w' h2 => ⟨fun h0 => (by rw [ht] at h0; cases h0), h2⟩)⟩
theorem ready2 {i j : Nat} {o o' : Oper} (hr : Region.ready md ops listed = [i, j]) (ho : ops[i]? = some o) (ho' : ops[j]? = some o') (hw : Region.wanted o (yielded ops a.tmps) = true) (hw' : Region.wanted o' (yielded ops a.tmps) = true)
    (h : ∀ K : Act -> World -> Prop, (∀ a' w', S w' -> wpAnyT P md ops Q S T fuel (listed.setIfInBounds i true) a' w' -> K a' w') -> o.wp P a w K Q)
    (h' : ∀ K : Act -> World -> Prop, (∀ a' w', S w' -> wpAnyT P md ops Q S T fuel (listed.setIfInBounds j true) a' w' -> K a' w') -> o'.wp P a w K Q) : wpAnyT P md ops Q S T (fuel + 1) listed a w :=
 ⟨fun h0 => (by rw [hr] at h0; cases h0), fun k hk => by
  rw [hr] at hk
  rcases (by simpa using hk : k = i ∨ k = j) with rfl | rfl
  ·exact op_of ho hw (h _ fun a' w' h1 h2 => ⟨fun _ => h1, h2⟩)
  ·exact op_of ho' hw' (h' _ fun a' w' h1 h2 => ⟨fun _ => h1, h2⟩)⟩
theorem ready3 {i j k : Nat} {o o' o'' : Oper} (hr : Region.ready md ops listed = [i, j, k]) (ho : ops[i]? = some o) (ho' : ops[j]? = some o') (ho'' : ops[k]? = some o'') (hw : Region.wanted o (yielded ops a.tmps) = true) (hw' : Region.wanted o' (yielded ops a.tmps) = true) (hw'' : Region.wanted o'' (yielded ops a.tmps) = true)
    (h : ∀ K : Act -> World -> Prop, (∀ a' w', S w' -> wpAnyT P md ops Q S T fuel (listed.setIfInBounds i true) a' w' -> K a' w') -> o.wp P a w K Q)
    (h' : ∀ K : Act -> World -> Prop, (∀ a' w', S w' -> wpAnyT P md ops Q S T fuel (listed.setIfInBounds j true) a' w' -> K a' w') -> o'.wp P a w K Q)
    (h'' : ∀ K : Act -> World -> Prop, (∀ a' w', S w' -> wpAnyT P md ops Q S T fuel (listed.setIfInBounds k true) a' w' -> K a' w') -> o''.wp P a w K Q) : wpAnyT P md ops Q S T (fuel + 1) listed a w :=
 ⟨fun h0 => (by rw [hr] at h0; cases h0), fun l hl => by
  rw [hr] at hl
  rcases (by simpa using hl : l = i ∨ l = j ∨ l = k) with rfl | rfl | rfl
  ·exact op_of ho hw (h _ fun a' w' h1 h2 => ⟨fun _ => h1, h2⟩)
  ·exact op_of ho' hw' (h' _ fun a' w' h1 h2 => ⟨fun _ => h1, h2⟩)
  ·exact op_of ho'' hw'' (h'' _ fun a' w' h1 h2 => ⟨fun _ => h1, h2⟩)⟩
end
section
variable {P : Program} {ops : Array Oper} {Q : Exit -> Act -> World -> Prop} {a : Act} {w : World}
end
end Go.Proofs.YtffheegeaghfjaaGreatDoor.Rgt

namespace Go.Proofs.YtffheegeaghfjaaGreatDoor
open Go.RowKit
namespace St
theorem cell_lt {W : World} {g : Nat} {v : Value} (h : W.cell? ⟨g, 0, none⟩ = some v) : g < W.heap.size := by
 unfold World.cell? at h
 cases hh : W.heap[g]? with
 | none => simp [hh] at h
 | some o => exact (aE.1 hh).1
end St
end Go.Proofs.YtffheegeaghfjaaGreatDoor

namespace Go.Proofs.YtffheegeaghfjaaGreatDoor
open Go.RowKit
theorem exec_build {P : Program} {o : Oper} {a : Act} {T : TypeId} {Z : Array Value} (ho : o.op = .build T #[]) (hb : P.built T [] = some Z) (v : World) : (execOp a.eval o).run P v = .ok (.value (.agg Z)) v := by
 have e : (((#[] : Array (Nat × Operand)).map fun (i, x) => (i, a.eval x))) = #[] := by simp
 have h := run_build (P := P) v T #[] Z hb
 simp [execOp, ho, h, Result.andThen]
attribute [local go_sem] Oper.semAt_some
end Go.Proofs.YtffheegeaghfjaaGreatDoor

namespace Go.Proofs.YtffheegeaghfjaaGreatDoor.Da
def dpt (n : Nat) : Nat := if n < 2 then 0 else (n - 1).log2 + 1
theorem bitLen_log (x : Nat) (h : x < 2 ^ 64) : Lib.bitLen x = if x = 0 then 0 else x.log2 + 1 := by
 induction x using Nat.strongRecOn with
 | ind x ih =>
  by_cases h0 : x = 0
  ·subst h0; rfl
  ·rw [Lib.bitLen_half x h0 h, ih (x / 2) (by omega) (by omega), if_neg h0]
   by_cases h1 : x / 2 = 0
   ·obtain rfl : x = 1 := by omega
    rfl
   ·have e : x.log2 = (x / 2).log2 + 1 := by rw [Nat.log2_def x, if_pos (by omega)]
    rw [if_neg h1, e]; omega
theorem dpt_bits {n : Nat} (h : 2 <= n) (k : n <= 2 ^ 64) : dpt n = Lib.bitLen (n - 1) := by
 rw [bitLen_log _ (by omega), if_neg (by omega), dpt, if_neg (by omega)]
theorem spl_dpt {n : Nat} (h : 2 <= n) : spl n = 2 ^ (dpt n - 1) /\ 1 <= dpt n := by
 unfold spl dpt
 rw [if_neg (by omega), if_neg (by omega)]
 exact ⟨by simp, by omega⟩
theorem dpt_le {n : Nat} (h : n < 2 ^ 63) : dpt n <= 63 := by
 unfold dpt
 split
 ·omega
 ·have := (Nat.log2_lt (n := n - 1) (k := 63) (by omega)).2 (by omega)
  omega
theorem dpt_only {n d : Nat} (h : 2 <= n) (h1 : n <= 2 ^ d) (h2 : 2 ^ d < 2 * n) : dpt n = d := by
 unfold dpt
 rw [if_neg (by omega)]
 cases d with
 | zero => simp at h1; omega
 | succ d =>
  rw [Nat.pow_succ] at h1 h2
  have : (n - 1).log2 = d := by
   rw [Nat.log2_eq_iff (by omega), Nat.pow_succ]
   omega
  rw [this]
end Go.Proofs.YtffheegeaghfjaaGreatDoor.Da
namespace Go.Proofs.YtffheegeaghfjaaGreatDoor
open Go.RowKit
theorem tdepth_any (n : Int) (w : World) (h2 : n <= 9223372036854775807) (h1 : -9223372036854775808 <= n) :
    Calls Tryz.prog 156 #[.int .i64 n] w fun e w' => e = .returned (.int .i64 (Da.dpt n.toNat : Nat)) /\ w' = w := by
 by_cases h : n < 2
 ·have hd : decide (n < 2) = true := by simp; omega
  have e0 : Da.dpt n.toNat = 0 := by unfold Da.dpt; rw [if_pos (by omega)]
  go_enter Tryz.func156, Tryz.ntmps156
  go_wp2_with fail
  go_ret
  exact ⟨by rw [e0]; rfl, rfl⟩
 ·obtain ⟨N, rfl⟩ : ∃ N : Nat, n = (N : Int) := ⟨n.toNat, by omega⟩
  have hd : decide ((N : Int) < 2) = false := by simp; omega
  have LE := len_any ((N : Int) - 1) w (by omega) (by omega)
  rw [show ((N : Int) - 1).toNat = N - 1 by omega, <- Da.dpt_bits (n := N) (by omega) (by omega)] at LE
  have hw1 : IntKind.u64.wrap ((N : Int) - 1) = (N : Int) - 1 := by rw [IntKind.wrap_u64]; omega
  have HLE := Lh LE
  clear LE
  go_enter Tryz.func156, Tryz.ntmps156
  go_wp2_with fail
  refine HLE.out.mono ?_
  rintro e w' ⟨rfl, rfl⟩
  go_wp2_with fail
  go_ret
  exact ⟨by rw [Int.toNat_natCast]; rfl, rfl⟩
theorem shl_one (k : Nat) (h : k <= 62) (yk : IntKind) : Op.shift .shl .i64 1 yk (k : Int) = pure (.int .i64 ((2 ^ k : Nat) : Int)) := by
 have hb : 2 ^ k <= 2 ^ 62 := Nat.pow_le_pow_right (by omega) h
 have e : (1 : Int) * 2 ^ ((k : Int)).toNat = ((2 ^ k : Nat) : Int) := by
  rw [Int.toNat_natCast, Int.one_mul]; simp
 rw [Go.shift_shl .i64 yk 1 (k : Int) (by omega) (by show (k : Int) <= (64 : Nat); omega), e]
 obtain ⟨F, hF⟩ : ∃ F, 2 ^ k = F := ⟨_, rfl⟩
 rw [hF] at hb ⊢
 rw [show IntKind.i64.wrap (F : Int) = (F : Int) by rw [IntKind.wrap_i64]; omega]
theorem one_wrap (k : Nat) (h : k <= 62) : wrap64 (2 ^ k) = ((2 ^ k : Nat) : Int) := by
 have hb : 2 ^ k <= 2 ^ 62 := Nat.pow_le_pow_right (by omega) h
 have e : (2 : Int) ^ k = ((2 ^ k : Nat) : Int) := by simp
 rw [e]
 obtain ⟨F, hF⟩ : ∃ F, 2 ^ k = F := ⟨_, rfl⟩
 rw [hF] at hb ⊢
 exact IntWalk.wrap64_in _ ⟨by omega, by omega⟩
theorem tsplit_any (n : Int) (w : World) (h2 : n <= 9223372036854775807) (h1 : -9223372036854775808 <= n) :
    Calls Tryz.prog 135 #[.int .i64 n] w fun e w' => e = .returned (.int .i64 (Da.spl n.toNat : Nat)) /\ w' = w := by
 by_cases h : n < 2
 ·have hd : decide (n < 2) = true := by simp; omega
  have e0 : Da.spl n.toNat = 0 := by unfold Da.spl; rw [if_pos (by omega)]
  go_enter Tryz.func135, Tryz.ntmps135
  go_wp2_with fail
  go_ret
  exact ⟨by rw [e0]; rfl, rfl⟩
 ·obtain ⟨N, rfl⟩ : ∃ N : Nat, n = (N : Int) := ⟨n.toNat, by omega⟩
  have hd : decide ((N : Int) < 2) = false := by simp; omega
  have DE := tdepth_any (N : Int) w h2 h1
  obtain ⟨e1, e2⟩ := Da.spl_dpt (n := N) (by omega)
  have e3 := Da.dpt_le (n := N) (by omega)
  rw [Int.toNat_natCast] at DE
  obtain ⟨d, hdd⟩ : ∃ d, Da.dpt N = d + 1 := ⟨Da.dpt N - 1, by omega⟩
  rw [hdd] at DE e1 e3
  rw [show d + 1 - 1 = d by omega] at e1
  have HS := shl_one d (by omega) .i64
  have HW := one_wrap d (by omega)
  have hw1 : IntKind.i64.wrap (((d + 1 : Nat) : Int) - 1) = (d : Int) := by rw [IntKind.wrap_i64]; omega
  have HDE := Lh DE
  have HE1 := Lh e1
  clear DE e1 hdd
  obtain ⟨F, hF⟩ : ∃ F : Nat, 2 ^ d = F := ⟨_, rfl⟩
  rw [hF] at HS HW HE1
  clear hF
  go_enter Tryz.func135, Tryz.ntmps135
  go_wp2_with fail
  refine HDE.out.mono ?_
  rintro e w' ⟨rfl, rfl⟩
  go_wp2_with fail
  go_ret
  exact ⟨by rw [Int.toNat_natCast, HE1.out]; exact congrArg (fun v => Ending.returned (Value.int .i64 v)) HW, rfl⟩
theorem touter_any (b : List UInt8) (o : Option Addr) (c : Nat) (w : World) (hR : RowIs w o (bytesV b) c) (hl : b.length <= 9000) :
    Calls Tryz.prog 138 #[.slice o b.length c] w fun e w' => ∃ g cap, e = .returned (.slice (some ⟨g, 0, none⟩) (b.length + 1) cap) /\ w.heap.size <= g /\ Buf w' g cap (0 :: b) /\ Below w.heap.size w w' := by
 have hr1 := zrow12 0 w
 have hb1 := new12 w (.cells #[.int .u8 0] 5)
 obtain ⟨W1, hW1⟩ : ∃ W1, w.alloc (.cells #[.int .u8 0] 5) = W1 := ⟨_, rfl⟩
 rw [show (((0 : UInt8).toNat : Int)) = 0 from rfl, hW1] at hr1
 rw [hW1] at hb1
 have hp := two_parts hr1 (hR.later hb1)
 have hb2 := new12 W1 (.cells #[.slice (some ⟨w.heap.size, 0, none⟩) 1 1, .slice o b.length c] 22)
 rw [show ([0] : List UInt8).length = 1 from rfl] at hp
 obtain ⟨W2, hW2⟩ : ∃ W2, W1.alloc (.cells #[.slice (some ⟨w.heap.size, 0, none⟩) 1 1, .slice o b.length c] 22) = W2 := ⟨_, rfl⟩
 rw [hW2] at hp hb2
 have CA := cat12_any [[0], b] _ 2 2 W2 hp rfl (by simp) (by simp; omega) (by omega)
 rw [show ([[0], b] : List (List UInt8)).flatten = 0 :: b by simp, List.length_cons] at CA
 have HCA := Lh CA
 have HB2 := Lh (Ks hb1 hb2)
 have HW1 := Lh hW1
 have HW2 := Lh hW2
 obtain ⟨L, hL⟩ : ∃ L, b.length = L := ⟨_, rfl⟩
 rw [hL] at HCA HW2 ⊢
 clear CA hp hr1 hb1 hb2 hW1 hW2 hR hL hl
 go_enter Tryz.func138, Tryz.ntmps138
 go_upto_region 1 with fail
 apply wp_region_lit
 (refine wpList_plain rfl (fun K hK => ?_); go_simp; refine hK _ _ ?_; clear hK K)
 rw [HW1.out]
 iterate 2 (refine wpList_plain rfl (fun K hK => ?_); go_simp; refine hK _ _ ?_; clear hK K)
 rw [HW2.out]
 (refine wpList_plain rfl (fun K hK => ?_); go_simp)
 refine HCA.out.mono ?_
 rintro e W3 ⟨g, cap, rfl, hg, hbuf, hb3⟩
 refine hK _ _ ?_
 clear hK K
 have HBF := Lh hbuf
 have HG := Lh (Nat.le_trans HB2.out.size hg)
 have HB3 := Lh (Ks HB2.out hb3)
 clear hbuf hb3 hg HCA HW1 HW2 HB2
 go_wp2_with fail
 go_ret
 exact ⟨g, cap, rfl, HG.out, HBF.out, HB3.out⟩
end Go.Proofs.YtffheegeaghfjaaGreatDoor

namespace Go.Proofs.YtffheegeaghfjaaGreatDoor
namespace Gf
def oth (E d : List UInt8) : List (UInt8 × UInt8) := (pr d).filter fun q => q.1 != 0 && !(E.contains q.2)
end Gf
end Go.Proofs.YtffheegeaghfjaaGreatDoor
namespace Go.Proofs.YtffheegeaghfjaaGreatDoor
end Go.Proofs.YtffheegeaghfjaaGreatDoor
namespace Go.Proofs.YtffheegeaghfjaaGreatDoor
open Go.RowKit
section
variable {P : Program} {ops : Array Oper} {Q : Exit -> Act -> World -> Prop} {i : Nat} {o : Oper} {b : Act} {v v' : World} {x : Value} {K : Act -> World -> Prop}
end
end Go.Proofs.YtffheegeaghfjaaGreatDoor
namespace Go.Proofs.YtffheegeaghfjaaGreatDoor
open Go.RowKit
section
variable {b T : Nat} {Ct : Array Value} {vn vl vo vw va : Value} {w w' : World}
end
end Go.Proofs.YtffheegeaghfjaaGreatDoor
namespace Go.Proofs.YtffheegeaghfjaaGreatDoor
open Go.RowKit
attribute [local go_sem] Oper.semAt_some
end Go.Proofs.YtffheegeaghfjaaGreatDoor

namespace Go.Proofs.YtffheegeaghfjaaGreatDoor
open Go.RowKit
attribute [local go_sem] Oper.semAt_some
theorem values_of (Z : Array Value) (hZ : Z.size = 32) (hzs : ∀ w, Sem.run Tryz.prog (zeroValue 32) w = .ok (.agg Z) w) (ds : List (List UInt8)) (o : Option Addr) (c Q : Nat) :
    Gives 136 #[.pointer (some ⟨Q, 0, none⟩)] ds (fun X => Boxed X Q 70 (.slice o ds.length c) /\ DgIs X o ds c) := by
 intro l I B Bx w hI hA hBk hturn h0 hB
 refine (callsIn_wide (n := 0)).1 (callsIn_of_wp Tryz.func136 rfl trivial ?_ rfl)
 simp only [Tryz.ntmps136, List.size_toArray, List.length_cons, List.length_nil, Nat.reduceAdd, Nat.reduceSub, Array.replicate_succ, Array.replicate_zero, List.push_toArray, List.append_toArray, List.nil_append, List.cons_append]
 have hq := (hI _ _ h0).1.cell
 have hr0 := (hI _ _ h0).2
 have hn : ds.length <= 9223372036854775807 := by
  have h1 := hr0.le
  have h2 := hr0.cap
  unfold maxLen at h2
  omega
 obtain ⟨n, hnn⟩ : ∃ n, ds.length = n := ⟨_, rfl⟩
 have HN := Lh hnn
 have HI := Lh hI
 have HT := Lh hturn
 have HA := Lh hA
 have HBK := Lh hBk
 have HZ := Lh hZ
 rw [hnn] at hq hn
 clear hr0 hnn hI hturn hA hBk hZ
 gi_wp2
 gi_loopw [4, 7] (fun _ p wr => ∃ k : Nat, k <= n /\ p = .int .i64 (k : Int) /\ I k wr /\ B wr) (fun _ p wr => n - (intOf p).toNat)
 case atStart => exact ⟨0, Nat.zero_le _, rfl, h0, hB⟩
 case round =>
  obtain ⟨k, hk, rfl, hi, hb⟩ := hrel
  by_cases hlt : k < n
  ·have hr := (HI.out _ _ hi).2
   have hkd : k < ds.length := by rw [HN.out]; exact hlt
   obtain ⟨b1, off1, rfl, hb1, hrng⟩ := hr.at_ k hkd
   have hd := hr.all.at_ hkd
   have hm := hr.cap
   have hle := hr.le
   rw [HN.out] at hle
   unfold maxLen at hm
   have hrs : (Tryz.prog.info? 32).map (·.size) = some (bytesV (bi ds k)).length := by rw [dg_info]; simp [hd]
   obtain ⟨D, hD⟩ : ∃ D, (bytesV (bi ds k)).toArray = D := ⟨_, rfl⟩
   have HDS : Hid ((Tryz.prog.info? 32).map (·.size) = some D.size) := Lh (by rw [dg_info, <- hD]; simp [hd])
   have HDO : Hid (D.all (·.oneCell') = true) := Lh (by rw [<- hD]; exact all_oneCell_toArray (bytesV_one _))
   have HDZ : Hid (Z.size = D.size) := Lh (by rw [HZ.out, <- hD]; simp [hd])
   have hbw : Below wr.heap.size wr ((wr.alloc (.cells Z 32)).setRow wr.heap.size D) := (new12 wr _).trans (below_row (Nat.le_refl _))
   have HROW : Hid (((wr.alloc (.cells Z 32)).setRow wr.heap.size D).heap[wr.heap.size]? = some (.cells D 32 (0, 0))) := Lh (setRow_heap (wr.alloc (.cells Z 32)) wr.heap.size Z D 32 (0, 0) (World.alloc_heap_new wr _))
   have hi2 := HA.out _ _ _ hi hbw
   have hb2 := HBK.out _ _ hb (keeps_below hbw)
   have ht := HT.out k _ hi2 hb2 hkd
   rw [hD] at ht
   obtain ⟨fn, tmps, assign, body, hy, hR⟩ := ht
   have HRNG := Lh hrng
   have HRS := Lh hrs
   have HD := Lh hD
   clear hr hrng hbw hi2 hb2 hm hD hd hrs
   gi_upto_region 2 with fail
   refine wpIn_region_lit ?_
   (refine wpListIn_plain rfl (fun K hK => Rf.oper_wide ?_); go_simp; refine hK _ _ ?_; clear hK K)
   refine wpListIn_plain rfl (fun K hK => Rf.oper_wide (wp_load_mid 32 (.tmp 9) rfl b1 (off1 + k * 32) rfl (bytesV (bi ds k)) _ HRNG.out dg_under rfl HRS.out (hK _ _ ?_)))
   clear hK K
   rw [HD.out]
   (refine wpListIn_plain rfl (fun K hK => Rf.oper_wide ?_); go_simp; refine hK _ _ ?_; clear hK K)
   refine wpListIn_plain rfl (fun K hK => Rf.oper_wide (wp_store_row 32 (.tmp 4) (.tmp 10) rfl wr.heap.size D rfl rfl 32 Z (World.alloc_heap_new wr _) HDS.out HDZ.out HDO.out (hK _ _ ?_)))
   clear hK K
   obtain ⟨X2, hX2⟩ : ∃ X2, (wr.alloc (.cells Z 32)).setRow wr.heap.size D = X2 := ⟨_, rfl⟩
   rw [hX2] at HROW hy hR ⊢
   clear hX2
   refine wpListIn_nil ?_
   gi_upto_region 3 with fail
   refine wpIn_region_lit ?_
   refine wpListIn_plain rfl (fun K hK => Rf.oper_wide ?_)
   go_simp
   refine hK _ _ ?_
   clear hK K
   refine wpListIn_plain rfl (fun K hK => Rf.oper_wide (wp_load_row 32 (.tmp 4) rfl wr.heap.size rfl 32 D (0, 0) _ HROW.out dg_under rfl HDS.out (hK _ _ ?_)))
   clear hK K
   gi_wp2
   refine ⟨rfl, hR.mono ?_⟩
   rintro e W3 (⟨rfl, hi3, hb3⟩ | ⟨rfl, hx3⟩)
   ·gi_wp2
    go_roundw
    case rel => exact ⟨k + 1, by omega, by go_num, hi3, hb3⟩
    case measure => simp [intOf]; omega
   ·gi_wp2
    refine bodyPost_ret (results_none rfl _ _ _) rfl ?_
    exact ⟨⟨_, rfl⟩, .inr hx3⟩
  ·obtain rfl : k = n := by omega
   gi_wp2
   go_end0
   exact ⟨⟨_, rfl⟩, .inl ⟨by rw [HN.out]; exact hi, hb⟩⟩
theorem values_gives (ds : List (List UInt8)) (o : Option Addr) (c Q : Nat) :
    Gives 136 #[.pointer (some ⟨Q, 0, none⟩)] ds (fun X => Boxed X Q 70 (.slice o ds.length c) /\ DgIs X o ds c) :=
 values_of _ (by simp) dg_zero ds o c Q
theorem mvalues_any (o : Option Addr) (n c : Nat) (w : World) :
    Calls Tryz.prog 108 #[.slice o n c] w fun e w' => e = .returned (.func (.func 136) #[] #[.pointer (some ⟨w.heap.size, 0, none⟩)]) /\ w' = w.alloc (.cells #[.slice o n c] 70) := by
 have hmf := @makes Tryz.prog
 go_enter Tryz.func108, Tryz.ntmps108
 go_wp2
 go_ret
 exact ⟨rfl, rfl⟩
end Go.Proofs.YtffheegeaghfjaaGreatDoor
namespace Go.Proofs.YtffheegeaghfjaaGreatDoor
open Go.RowKit
attribute [local go_sem] Oper.semAt_some
end Go.Proofs.YtffheegeaghfjaaGreatDoor
namespace Go.Proofs.YtffheegeaghfjaaGreatDoor
open Go.RowKit
attribute [local go_sem] Oper.semAt_some
end Go.Proofs.YtffheegeaghfjaaGreatDoor
namespace Go.Proofs.YtffheegeaghfjaaGreatDoor
open Go.RowKit
attribute [local go_sem] Oper.semAt_some
theorem tover_of (Z : Array Value) (hZ : Z = (bytesV (List.replicate 32 0)).toArray) (hzs : ∀ w, Sem.run Tryz.prog (zeroValue 32) w = .ok (.agg Z) w)
    (ds : List (List UInt8)) (o : Option Addr) (n c : Nat) (hn : ds.length = n) (w : World) (hR : DgIs w o ds c) (hV : Cds w) (hl : ds.length <= 100000) :
    Calls Tryz.prog 67 #[.slice o n c] w fun e w' => e = .returned (.agg (bytesV (Da.ov ds)).toArray) /\ Below w.heap.size w w' := by
 obtain ⟨g, hg⟩ : ∃ g, w.heap.size = g := ⟨_, rfl⟩
 obtain ⟨W1, hW1⟩ : ∃ W1, w.alloc (Obj.cells Z 32) = W1 := ⟨_, rfl⟩
 obtain ⟨W2, hW2⟩ : ∃ W2, W1.alloc (.cells #[.slice o n c] 70) = W2 := ⟨_, rfl⟩
 have hb1 : Below w.heap.size w W1 := by rw [<- hW1]; exact new12 _ _
 have hb2 : Below W1.heap.size W1 W2 := by rw [<- hW2]; exact new12 _ _
 have hA1 : Arr W1 g 32 Z.toList := by rw [<- hW1, <- hg]; exact Arr.made _ _ _
 have hX2 : Boxed W2 W1.heap.size 70 (.slice o n c) := by rw [<- hW2]; exact Boxed.new _ _ _
 have hB2 := Ks hb1 hb2
 have hal := hR.all
 have RO := rootOf_any 136 #[.pointer (some ⟨W1.heap.size, 0, none⟩)] ds _ (values_gives ds o c W1.heap.size) (enters_of Tryz.func136 (by kernel_rfl) rfl) W2
  (fun X hb => ⟨by rw [hn]; exact boxed_later hX2 hb, (hR.later hB2).later hb⟩) (hV.later hB2) hal hl
 have hol : (Da.ov ds).length = 32 := Da.ov_length hal
 obtain ⟨F, hF⟩ : ∃ F, (bytesV (Da.ov ds)).toArray = F := ⟨_, rfl⟩
 have HFS : Hid ((Tryz.prog.info? 32).map (·.size) = some F.size) := Lh (by rw [dg_info, <- hF]; simp [hol])
 have HFO : Hid (F.all (·.oneCell') = true) := Lh (by rw [<- hF]; exact all_oneCell_toArray (bytesV_one _))
 have HFZ : Hid (Z.size = F.size) := Lh (by rw [hZ, <- hF]; simp [hol])
 rw [hF] at RO ⊢
 have MK := Lh (mvalues_any o n c W1)
 rw [hW2] at MK
 have HRO := Lh RO
 have HA2 := Lh (hA1.later hb2 hA1.lt)
 have HB2 := Lh hB2
 have HW1 := Lh hW1
 have HG := Lh hg
 clear RO hb1 hb2 hA1 hX2 hB2 hW1 hW2 hF hol hZ hR hV hl hn hg 
 go_enter Tryz.func67, Tryz.ntmps67
 go_upto_region 1 with fail
 rw [HW1.out, HG.out]
 apply wp_region_lit
 (refine wpList_plain rfl (fun K hK => ?_); go_simp; refine hK _ _ ?_; clear hK K)
 (refine wpList_plain rfl (fun K hK => ?_); go_simp)
 refine MK.out.mono ?_
 rintro e w2 ⟨rfl, rfl⟩
 refine hK _ _ ?_
 clear hK K MK
 (refine wpList_plain rfl (fun K hK => ?_); go_simp)
 refine HRO.out.mono ?_
 rintro e W3 ⟨rfl, hb3⟩
 refine hK _ _ ?_
 clear hK K HRO
 have hA3 := HA2.out.later hb3 HA2.out.lt
 have HA3 : Hid (W3.heap[g]? = some (.cells Z 32 (0, 0))) := Lh hA3
 have HGW : Hid ((W3.setRow g F).heap[g]? = some (.cells F 32 (0, 0))) := Lh (setRow_heap _ _ _ _ _ _ hA3)
 have HBW : Hid (Below w.heap.size w (W3.setRow g F)) := Lh ((Ks HB2.out hb3).trans (below_row (Nat.le_of_eq HG.out)))
 clear hA3 hb3
 refine wpList_store_row rfl 32 (.tmp 2) (.tmp 5) rfl g F rfl rfl 32 Z HA3.out HFS.out HFZ.out HFO.out ?_
 go_wp2_with fail
 refine bodyPost_ret (results_cell_row rfl _ _ g 32 F (0, 0) _ rfl HGW.out dg_under rfl HFS.out) rfl ?_
 exact ⟨rfl, HBW.out⟩
theorem tover_any (ds : List (List UInt8)) (o : Option Addr) (n c : Nat) (hn : ds.length = n) (w : World) (hR : DgIs w o ds c) (hV : Cds w) (hl : ds.length <= 100000) :
    Calls Tryz.prog 67 #[.slice o n c] w fun e w' => e = .returned (.agg (bytesV (Da.ov ds)).toArray) /\ Below w.heap.size w w' := tover_of _ rfl dg_zero ds o n c hn w hR hV hl
structure LvI (ds : List (List UInt8)) (u : Value) (b : Nat) (w : World) (s : Nat) (v : Value) (X : World) : Prop where
 own : X.ownsRow w.heap.size 32 32 v s (bytesV (ds.take s).flatten)
 box : Boxed X b 70 v
 le : s <= ds.length
 ne : some b ≠ v.ownBlock
 xb : Boxed X (b + 1) 30 u
 ne2 : some (b + 1) ≠ v.ownBlock
 wb : w.heap.size <= b
 below : Below w.heap.size w X
theorem LvI.nc {ds : List (List UInt8)} {b s N : Nat} {w X X' : World} {u v : Value} (h : LvI ds u b w s v X) (k : Rf.NC N X X') (hB : w.heap.size <= N) : LvI ds u b w s v X' :=
 ⟨k.owns h.own, boxed_nc12 h.box k, h.le, h.ne, boxed_nc12 h.xb k, h.ne2, h.wb, h.below.trans (k.below hB h.below.size)⟩
theorem LvI.later {ds : List (List UInt8)} {b s : Nat} {w X X' : World} {u v : Value} (h : LvI ds u b w s v X) (hb : Below X.heap.size X X') : LvI ds u b w s v X' :=
 ⟨own_later12 h.own hb, boxed_later h.box hb, h.le, h.ne, boxed_later h.xb hb, h.ne2, h.wb, Ks h.below hb⟩
theorem LvI.push {ds : List (List UInt8)} {b s : Nat} {w X X1 X2 : World} {u v : Value} (h : LvI ds u b w s v X) (hls : s < ds.length) (hb : Below X.heap.size X X1) {g2 cap2 : Nat}
    (hown : X2.ownsRow w.heap.size 32 32 (.slice (some ⟨g2, 0, none⟩) (s + 1) cap2) (s + 1) (bytesV (ds.take s).flatten ++ bytesV (bi ds s))) (hg : X1.grownBy X2 v.ownBlock) (hat : some g2 = v.ownBlock ∨ g2 = X1.heap.size) :
    Boxed X2 b 70 v /\ LvI ds u b w (s + 1) (.slice (some ⟨g2, 0, none⟩) (s + 1) cap2) (X2.setCell ⟨b, 0, none⟩ (.slice (some ⟨g2, 0, none⟩) (s + 1) cap2)) /\ KeepsOthers X (X2.setCell ⟨b, 0, none⟩ (.slice (some ⟨g2, 0, none⟩) (s + 1) cap2)) := by
 have h1 := h.later hb
 have hbl := h1.box.lt
 have hn2 : b ≠ g2 := fun e => by
  rcases hat with h2 | h2
  ·exact h.ne (by rw [e]; exact h2)
  ·omega
 have hbox : Boxed X2 b 70 v := by
  have hx := h1.box
  unfold Boxed at *
  rw [hg.block b (aE.1 hx).1 h.ne]
  exact hx
 have k1 : X2.grownBy (X2.setCell ⟨b, 0, none⟩ (.slice (some ⟨g2, 0, none⟩) (s + 1) cap2)) (some b) := grownBy_setCell' _ _ _
 have hxl := h1.xb.lt
 have hn3 : b + 1 ≠ g2 := fun e => by
  rcases hat with h2 | h2
  ·exact h.ne2 (by rw [e]; exact h2)
  ·omega
 have hxb : Boxed X2 (b + 1) 30 u := by
  have hx := h1.xb
  unfold Boxed at *
  rw [hg.block (b + 1) (aE.1 hx).1 h.ne2]
  exact hx
 have hwb := h.wb
 have b2 : Below w.heap.size w X2 := Below.grown h1.below hg h1.below.size (fun k e => (own_blk h1.own k e).1)
 have e : (ds.take (s + 1)).flatten = (ds.take s).flatten ++ bi ds s := flat_step ds s hls
 refine ⟨hbox, ⟨?_, hbox.set _, hls, fun e => hn2 (by cases e; rfl), ?_, fun e => hn3 (by cases e; rfl), h.wb, b2.setCell (p := ⟨b, 0, none⟩) hwb _⟩, ?_⟩
 ·rw [e, bytesV_app]
  exact World.ownsRow.kept hown k1 (.inr (by simp [Value.ownBlock]; omega))
 ·unfold Boxed at *
  rw [k1.block _ (aE.1 hxb).1 (by simp)]
  exact hxb
 ·refine (keeps_below hb).trans ((KeepsOthers.of_grownBy hg fun k o e ho => ?_).trans (KeepsOthers.setCell _ _ _))
  obtain ⟨_, cur', h2⟩ := own_blk h1.own k e
  rw [h2] at ho
  cases ho
  rfl
theorem tleaves_of (Z : Array Value) (hZ : Z.size = 32) (hzs : ∀ w, Sem.run Tryz.prog (zeroValue 32) w = .ok (.agg Z) w)
    (bs : List (List UInt8)) (o : Option Addr) (n c : Nat) (hn : bs.length = n) (w : World) (hR : RbIs w o bs c) (hV : Cds w) (hl : n <= 100000) (hll : ∀ i, i < bs.length -> (bi bs i).length <= 800000) :
    Calls Tryz.prog 65 #[.slice o n c] w fun e w' => ∃ o' c', e = .returned (.slice o' n c') /\ DgIs w' o' (bs.map Da.lf) c' /\ Below w.heap.size w w' := by
 have HR := Lh hR
 have HV := Lh hV
 have HN := Lh hn
 have HLL := Lh hll
 have HZ := Lh hZ
 have hcl := hR.le.1
 have hca := hR.le.2
 rw [hn] at hcl
 obtain ⟨i0, hi, hz0, hz1, hz2⟩ := dgI_parts dgI_code
 refine Rf.calls_marks Tryz.func65 rfl ?_
 simp only [Tryz.ntmps65, List.size_toArray, List.length_cons, List.length_nil, Nat.reduceAdd, Nat.reduceSub, Array.replicate_succ, Array.replicate_zero, List.push_toArray, List.append_toArray, List.nil_append, List.cons_append]
 clear hR hV hn hll hZ
 unfold maxLen at hca
 go_upto_region 1 with fail
 apply wp_region_lit
 iterate 2 (refine wpList_plain rfl (fun K hK => ?_); go_simp; refine hK _ _ ?_; clear hK K)
 refine wpList_make_own _ rfl (.const (.int .i64 0)) (.tmp 6) 70 rfl w.heap.size 32 i0 _ 32 Tryz.underlying70 hi hz0 hz1 .i64 .i64 (n : Int) n rfl rfl rfl (by rw [hz2]; omega) (by unfold maxLen; omega) (Nat.le_refl _) ?_
 intro W1 hown hgr
 have hb1 : Below w.heap.size w W1 := ⟨hgr.os, hgr.tape, hgr.output, hgr.size, fun k hk => hgr.block k hk (by simp)⟩
 have hlt : w.heap.size < W1.heap.size := (own_blk hown w.heap.size rfl).2.elim fun cur h => (aE.1 h).1
 obtain ⟨W2, hW2⟩ : ∃ W2, W1.alloc (.cells #[.slice (some ⟨w.heap.size, 0, none⟩) 0 n] 70) = W2 := ⟨_, rfl⟩
 have hb2 : Below W1.heap.size W1 W2 := by rw [<- hW2]; exact new12 _ _
 have hX2 : Boxed W2 W1.heap.size 70 (.slice (some ⟨w.heap.size, 0, none⟩) 0 n) := by rw [<- hW2]; exact Boxed.new _ _ _
 have hs2 : W2.heap.size = W1.heap.size + 1 := by rw [<- hW2, World.size_alloc]
 obtain ⟨W3, hW3⟩ : ∃ W3, W2.alloc (.cells #[.slice o n c] 30) = W3 := ⟨_, rfl⟩
 have hb3 : Below W2.heap.size W2 W3 := by rw [<- hW3]; exact new12 _ _
 have hX3 : Boxed W3 W2.heap.size 30 (.slice o n c) := by rw [<- hW3]; exact Boxed.new _ _ _
 obtain ⟨b, hbb⟩ : ∃ b, W1.heap.size = b := ⟨_, rfl⟩
 have hB3 := Ks (Ks hb1 hb2) hb3
 have HI0 : Hid (LvI (bs.map Da.lf) (.slice o n c) b w 0 (.slice (some ⟨w.heap.size, 0, none⟩) 0 n) W3) := Lh ⟨own_later12 (own_later12 hown hb2) hb3, by rw [<- hbb]; exact boxed_later hX2 hb3, Nat.zero_le _, by simp [Value.ownBlock]; omega, by rw [<- hbb, <- hs2]; exact hX3, by simp [Value.ownBlock]; omega, by rw [<- hbb]; exact Nat.le_of_lt hlt, hB3⟩
 have HX3 := Lh hX3
 have HB3 := Lh hB3
 have hszw := hB3.size
 have HSZW := Lh hszw
 rw [hs2, hbb] at HX3
 rw [hbb] at hs2
 have MK := Lh (mdigests_any o n c W2)
 rw [hW3, hs2] at MK
 have HW2 := Lh hW2
 have HBB := Lh hbb
 have DG := Lh (digests_gives bs o c (b + 1) HLL.out)
 have hb0 : 0 < W3.heap.size := by have := hX3.lt; omega
 clear hown hgr hb1 hlt hb2 hX2 hs2 hb3 hX3 hB3 hW2 hW3 hbb hszw
 iterate 2 (refine wpList_plain rfl (fun K hK => ?_); go_simp; refine hK _ _ ?_; clear hK K)
 rw [HBB.out]
 go_wp2_with (first | rw [HW2.out] | fail)
 refine MK.out.mono ?_
 rintro e w3 ⟨rfl, rfl⟩
 rename World => W3
 clear MK
 go_wp2_with fail
 refine Rf.range_toldA (α := List UInt8) (σ := Nat) rfl (enters_of Tryz.func122 (by kernel_rfl) rfl) (fun x => #[.agg (bytesV x).toArray]) (fun _ => rfl)
  (fun s X => ∃ v, LvI (bs.map Da.lf) (.slice o n c) b w s v X)
  (fun c X => False)
  (fun s x s' X => s' = s + 1 /\ s < n /\ x = bi (bs.map Da.lf) s)
  0 (fun s => s = n) ?hI ?hIx ?hV ?h0 ?hseq ?round ?done ?stop
 case hI => exact fun s X X' ⟨v, h⟩ k => ⟨v, h.nc k HSZW.out⟩
 case hIx => exact fun c X X' h k => h
 case hV => exact fun s x s' X X' h k => h
 case h0 => exact ⟨_, HI0.out⟩
 case hseq =>
  intro l B Bx X hnc hi2 hB hk ht
  refine (DG.out l (fun s X => ∃ v, LvI (bs.map Da.lf) (.slice o n c) b w s v X) B Bx X ?_ ?_ hk ?_ hi2 hB).mono ?_
  ·exact fun i X ⟨v, h⟩ => ⟨by rw [HN.out]; exact h.xb, HR.out.later h.below, HV.out.later h.below⟩
  ·exact fun i X X' ⟨v, h⟩ hb => ⟨v, h.later hb⟩
  ·intro i X h hB hlt
   rw [List.length_map, HN.out] at hlt
   exact (ht i (bi (bs.map Da.lf) i) (i + 1) X h hB ⟨rfl, hlt, rfl⟩).mono fun e X' h => h.imp (fun h => ⟨h.1, h.2.1, h.2.2⟩) id
  ·rintro e X' ⟨hv, (⟨h, hB⟩ | hx)⟩
   ·exact ⟨hv, .inl ⟨_, by rw [List.length_map, HN.out], h, hB⟩⟩
   ·exact ⟨hv, .inr hx⟩
 case round =>
  rintro l s x s' X Z' To ⟨v, hI⟩ ⟨rfl, hlt, rfl⟩ hsz HN' HR' HE'
  have hsl : s < (bs.map Da.lf).length := by rw [List.length_map, HN.out]; exact hlt
  have hel := (Da.all32.lf bs).at_ hsl
  obtain ⟨e, he⟩ : ∃ e, bi (bs.map Da.lf) s = e := ⟨_, rfl⟩
  have HEQ := Lh he
  rw [he] at hel
  rw [he]
  obtain ⟨E, hE⟩ : ∃ E, (bytesV e).toArray = E := ⟨_, rfl⟩
  have hEs : E.size = 32 := by rw [<- hE]; simp [hel]
  have HES : Hid ((Tryz.prog.info? 32).map (·.size) = some E.size) := Lh (by rw [dg_info, hEs])
  have HEO : Hid (E.all (·.oneCell') = true) := Lh (by rw [<- hE]; exact all_oneCell_toArray (bytesV_one _))
  have HEZ : Hid (Z.size = E.size) := Lh (by rw [HZ.out, hEs])
  have HE := Lh hE
  have HSZ := Lh hsz
  have HII := Lh hI
  have HEL := Lh hel
  have HESZ := Lh hEs
  have HSL := Lh hsl
  rw [hE]
  clear hel he hE hsz hI hEs hsl
  gi_upto_region 3 with fail
  refine Rf.plain_round (by kernel_rfl) (by rintro ⟨a, w, h⟩; exact h) ?_
  (refine wpList_plain rfl (fun K hK => ?_); go_simp; refine hK _ _ ?_; clear hK K)
  refine wpList_store_row rfl 32 (.tmp 4) (.tmp 10) rfl Z'.heap.size E rfl rfl 32 Z (World.alloc_heap_new Z' _) HES.out HEZ.out HEO.out ?_
  refine wpList_nil ?_
  refine ⟨(new12 _ _).trans (below_row (Nat.le_refl _)), fun Y hY hnew hsy => ?_⟩
  rw [HSZ.out]
  obtain ⟨p, hp⟩ : ∃ p, X.heap.size = p := ⟨_, rfl⟩
  have HY4 : Hid (Y.heap[p]? = some (.cells E 32 (0, 0))) := Lh (by
   rw [<- hp, hnew _ (Nat.le_refl _), <- HSZ.out]
   exact setRow_heap _ _ _ _ _ _ (World.alloc_heap_new Z' _))
  have hJ := HII.out.later hY
  have hbs := dg_slice_run (tS := 70) Tryz.underlying70 dgI_code E HESZ.out Y
  have hba := new12 Y (.cells E 32)
  have hrow : (Y.alloc (.cells E 32)).rangeAt Y.heap.size 0 (bytesV e) := by rw [<- HE.out]; exact (Arr.made Y 32 (bytesV e)).rng
  obtain ⟨g2, cap2, Y2, hrun, hown2, hgr2, hat⟩ := dg_append_run (tS := 70) Tryz.underlying70 dgI_code 70 _ w.heap.size v s _ (own_later12 hJ.own hba) Y.heap.size e HEL.out hrow (by omega) (Nat.le_trans hJ.below.size hba.size)
  have hpu := hJ.push HSL.out hba (by rw [HEQ.out]; exact hown2) hgr2 hat
  obtain ⟨hbx, hLv, hKO⟩ := hpu
  have hc3 := hJ.box.cell
  have hc3' := hbx.cell
  have hf3' := hbx.frozen
  have HRUN := Lh hrun
  have HBS := Lh hbs
  have HFI : Hid (KeepsOthers X (Y2.setCell ⟨b, 0, none⟩ (.slice (some ⟨g2, 0, none⟩) (s + 1) cap2)) /\ ∃ v, LvI (bs.map Da.lf) (.slice o n c) b w (s + 1) v (Y2.setCell ⟨b, 0, none⟩ (.slice (some ⟨g2, 0, none⟩) (s + 1) cap2))) := Lh ⟨(keeps_below hY).trans hKO, _, hLv⟩
  rw [hp]
  clear hY hnew hsy hJ hbs hba hrow hrun hown2 hgr2 hat hbx hLv hKO hp
  gi_upto_region 4 with fail
  refine Rf.plain_round (by kernel_rfl) (by rintro ⟨a, w, h⟩; exact h) ?_
  (refine wpList_plain rfl (fun K hK => ?_); go_simp; refine hK _ _ ?_; clear hK K)
  refine wpList_load_row rfl 32 (.tmp 4) rfl p rfl 32 E (0, 0) _ HY4.out dg_under rfl HES.out ?_
  refine wpList_plain rfl (fun K hK => oper_slice 70 1 _ rfl #[(0, .agg E)] (by first | rfl | simp [Act.eval, Act.put]) _ _ HBS.out (hK _ _ ?_))
  clear hK K
  refine wpList_plain rfl (fun K hK => oper_append (.tmp 11) (.tmp 13) 70 rfl _ _ rfl rfl _ _ HRUN.out (hK _ _ ?_))
  clear hK K
  (refine wpList_plain rfl (fun K hK => ?_); go_simp; refine hK _ _ ?_; clear hK K)
  refine wpList_nil ?_
  exact HN'.out _ _ HFI.out.1 HFI.out.2
 case done =>
  rintro D' s X hD' hs ⟨v, hI⟩ hK'
  have hc3 := hI.box.cell
  have hown := hI.own
  rw [List.take_of_length_le (by rw [hs, List.length_map, HN.out]; exact Nat.le_refl _), hs] at hown
  have hk : Below w.heap.size X (X.putObj D' (.deferred none)) := belowK_b (w := w) (Nat.le_refl _) X D' _ _ (by have := HSZW.out; omega) hK' rfl rfl
  have hown2 : (X.putObj D' (.deferred none)).ownsRow w.heap.size 32 32 v n (bytesV (bs.map Da.lf).flatten) := (Rf.NC.put (B := 0) (.deferred none) (Nat.zero_le _) hK' rfl).owns hown
  obtain ⟨hnn, o', c', rfl, hdg⟩ := own_dg hown2 (Da.all32.lf bs)
  clear hnn
  have HDG := Lh hdg
  have HBW := Lh (hI.below.trans hk)
  clear hown hk hown2 hdg hI
  go_wp2_with fail
  refine Rf.leaves hK' (results_tmp rfl _ _ _) ?_
  exact ⟨o', c', rfl, HDG.out, HBW.out⟩
 case stop => exact fun D c X hD h => h.elim
theorem tleaves_any (bs : List (List UInt8)) (o : Option Addr) (n c : Nat) (hn : bs.length = n) (w : World) (hR : RbIs w o bs c) (hV : Cds w) (hl : n <= 100000) (hll : ∀ i, i < bs.length -> (bi bs i).length <= 800000) :
    Calls Tryz.prog 65 #[.slice o n c] w fun e w' => ∃ o' c', e = .returned (.slice o' n c') /\ DgIs w' o' (bs.map Da.lf) c' /\ Below w.heap.size w w' := tleaves_of _ (by simp) dg_zero bs o n c hn w hR hV hl hll
end Go.Proofs.YtffheegeaghfjaaGreatDoor

namespace Go.Proofs.YtffheegeaghfjaaGreatDoor
open Go.RowKit
theorem Da.tgd16_own (k : List UInt8) (q : Nat) (hq : q < 512) (b : List UInt8) (h8 : b.length = 8) : Da.tgd16 k (q : Int) (Da.tg16 k (q : Int) b) = true := by
 have hl := Da.tg16_length k (q : Int) b
 have ht : (Da.tg16 k (q : Int) b).take 8 = b := by
  unfold Da.tg16
  rw [List.take_append_of_le_length (by omega), List.take_of_length_le (by omega)]
 unfold Da.tgd16
 rw [ht]
 simp only [Bool.and_eq_true, decide_eq_true_eq]
 exact ⟨by omega, by omega, by omega, trivial⟩
theorem Da.tgd16_all (K : List UInt8) (N : Int) (F : List UInt8) (p : Pm15) (hn : Da.n16 p <= 512) (q : Nat) (hq : q < Da.n16 p) : Da.tgd16 (Da.key16 K N 3) (q : Int) (bi (Da.all16 K N F p) q) = true := by
 rw [Da.all16_at K N F p (by omega) q hq]
 exact Da.tgd16_own _ _ (by omega) _ (Da.raw16_length _ _ _ _ (by have := Da.fr16_lt (K := K) (N := N) (p := p) (by omega) hq; omega))
theorem Da.jat16_all (K : List UInt8) (N : Int) (F : List UInt8) (p : Pm15) (hR : Da.Right15 p) (hl : (allB F).length = Da.tot15 p.sz) (j : Int) (hj0 : 0 <= j) (hj1 : j < p.se) :
    Da.jat16 K N p j < Da.n16 p /\ bi (Da.all16 K N F p) (Da.jat16 K N p j) = Da.tg16 (Da.key16 K N 3) ((Da.jat16 K N p j : Nat) : Int) (Da.sb (Da.key16 K N 2) j) := by
 have hn := Da.n16_le2 hR
 have hi : Da.tot15 p.sz + j.toNat < Da.n16 p := by unfold Da.n16; omega
 have hlt := Da.to16_lt (K := K) (N := N) (p := p) (by omega) hi
 refine ⟨hlt, ?_⟩
 unfold Da.jat16
 rw [Da.all16_at K N F p (by omega) _ hlt, Da.fr_to16 (by omega) hi]
 unfold Da.raw16
 rw [if_neg (by omega), hl]
 congr 2
 omega
end Go.Proofs.YtffheegeaghfjaaGreatDoor

namespace Go.Proofs.YtffheegeaghfjaaGreatDoor
open Go.RowKit
theorem stored15_any (A : Nat -> Addr) (W0 : World) (p : Pm15) (hok : p.ok) (hE : E15 W0 A) :
    Calls Tryz.prog 30 #[.agg (pmA p)] W0 fun e w' => ∃ v, e = .returned (.tuple #[.int .i64 (if Da.bad15 p = 0 then (Da.tot15 p.sz : Int) + p.se else 0), v]) /\ WrV A p w' v /\ Below W0.heap.size W0 w' := by
 obtain ⟨g, hg⟩ : ∃ g, W0.heap.size = g := ⟨_, rfl⟩
 obtain ⟨W1, hW1⟩ : ∃ W1, W0.alloc (.cells (pmA p) 24) = W1 := ⟨_, rfl⟩
 have hA1 : Arr W1 g 24 (pmL p) := by rw [<- hW1, <- hg]; exact World.alloc_heap_new W0 _
 have hb1 : Below W0.heap.size W0 W1 := by rw [<- hW1]; exact new12 _ _
 have HCK := Lh (plain15_any A W1 p hok (hE.later hb1))
 have HA1 := Lh hA1
 have HB1 := Lh hb1
 have HW1 := Lh hW1
 have HG := Lh hg
 obtain ⟨TT, hTT⟩ : ∃ TT : Int, (if Da.bad15 p = 0 then (Da.tot15 p.sz : Int) + p.se else 0) = TT := ⟨_, rfl⟩
 rw [hTT]
 have HTT := Lh hTT
 clear hE hA1 hb1 hW1 hg hok hTT
 obtain ⟨P, hP⟩ : ∃ P, pmA p = P := ⟨_, rfl⟩
 rw [hP] at HCK HW1 ⊢
 have HP := Lh hP
 clear hP
 go_enter Tryz.func30, Tryz.ntmps30
 go_upto_region 1 with fail
 rw [HW1.out, HG.out]
 apply wp_region_lit
 refine wpList_load_row rfl 24 (.tmp 1) rfl g rfl 24 P (0, 0) _ (by rw [<- HP.out]; exact HA1.out) Tryz.underlying24 rfl (by rw [<- HP.out]; exact pm15c_info) ?_
 obtain ⟨PL, hPL⟩ : ∃ PL : Int, (if Da.bad15 p = 0 then (Da.tot15 p.sz : Int) else 0) = PL := ⟨_, rfl⟩
 rw [hPL] at HCK
 have HPL := Lh hPL
 clear hPL
 (refine wpList_plain rfl (fun K hK => ?_); go_simp)
 refine HCK.out.mono ?_
 rintro e W2 ⟨v, rfl, hv, hb2⟩
 refine hK _ _ ?_
 clear hK K HCK
 have HA2 := Lh (HA1.out.later hb2 HA1.out.lt)
 have HB2 := Lh (Ks HB1.out hb2)
 clear hb2
 repeat (refine wpList_plain rfl (fun K hK => ?_); go_simp; refine hK _ _ ?_; clear hK K)
 rcases hv with ⟨h0, rfl⟩ | ⟨h0, b, rfl, hw⟩
 ·have hr := Da.right15 h0
  have hc1 : W2.cell? ⟨g, 1, none⟩ = some (.int .i64 p.se) := by rw [HA2.out.cell]; rfl
  have hbd := totN_bd (nbk p.sz.toNat) (nbk_bd _ (by have := hr.s0; have := hr.s1; omega))
  have hs : IntKind.i64.wrap (PL + p.se) = TT := by
   have e1 : TT = PL + p.se := by rw [<- HTT.out, <- HPL.out, if_pos h0, if_pos h0]
   have e2 : PL = ((totN (nbk p.sz.toNat) : Nat) : Int) := by rw [<- HPL.out, if_pos h0]; rfl
   have e3 := hr.e0
   have e4 := hr.e1
   rw [IntKind.wrap_i64]
   omega
  have H0 := Lh h0
  have hq := neq_nil15
  clear h0 hr hbd
  go_wp2_with fail
  go_ret2
  exact ⟨_, rfl, .inl ⟨H0.out, rfl⟩, HB2.out⟩
 ·have HW := Lh hw
  have H0 := Lh h0
  have hT0 : TT = 0 := by rw [<- HTT.out, if_neg h0]
  have HT0 := Lh hT0
  have hq := neq_wr15 b
  unfold wr15 at hq ⊢
  clear hw h0 hT0
  go_wp2_with fail
  go_ret2
  rw [HT0.out]
  exact ⟨_, rfl, .inr ⟨H0.out, b, rfl, HW.out⟩, HB2.out⟩
end Go.Proofs.YtffheegeaghfjaaGreatDoor

namespace Go.Proofs.YtffheegeaghfjaaGreatDoor.Da
theorem dpt_spl {n : Nat} (h : 2 <= n) : dpt n = 1 + dpt (spl n) := by
 have e1 : dpt n = (n - 1).log2 + 1 := by unfold dpt; rw [if_neg (by omega)]
 have e2 : spl n = 2 ^ (n - 1).log2 := by unfold spl; rw [if_neg (by omega)]
 rw [e1, e2]
 generalize (n - 1).log2 = j
 cases j with
 | zero => rfl
 | succ j =>
  have hp : 0 < 2 ^ j := Nat.two_pow_pos _
  rw [dpt_only (n := 2 ^ (j + 1)) (d := j + 1) (by rw [Nat.pow_succ]; omega) (Nat.le_refl _) (by rw [Nat.pow_succ]; omega)]
  omega
end Go.Proofs.YtffheegeaghfjaaGreatDoor.Da
namespace Go.Proofs.YtffheegeaghfjaaGreatDoor
open Go.RowKit
theorem dgq_guard : Tryz.prog.eqGuardType Tryz.prog.depth 32 = false := by kernel_rfl
section
variable {P : Program} {md : Region.Mode} {ops : Array Oper} {Q : Exit -> Act -> World -> Prop} {S : World -> Prop} {fuel : Nat} {listed : Array Bool} {a : Act} {w : World}
theorem exec_row {P : Program} {o : Oper} {a : Act} {w : World} {ty t : TypeId} {x : Operand} {g : Nat} {cs : Array Value} {fr : Nat × Nat} {d : TypeDesc} (ho : o.op = .load ty x) (hx : a.eval x = .pointer (some ⟨g, 0, none⟩)) (hg : w.heap[g]? = some (.cells cs t fr))
    (hu : P.underlying ty = some d) (hd : (match d with | .struct _ | .array _ _ => true | _ => false) = true) (hi : (P.info? ty).map (·.size) = some cs.size) : (execOp a.eval o).run P w = .ok (.value (.agg cs)) w := by
 unfold execOp
 simp only [ho, hx, Instr.loadAt, Instr.sureAddr, Sem.run_bind, Sem.run_pure, Result.andThen_ok, run_loadVar_row w g t ty cs fr d hg hu hd hi]
end
end Go.Proofs.YtffheegeaghfjaaGreatDoor

namespace Go.Proofs.YtffheegeaghfjaaGreatDoor.Da
def ups (n i : Nat) : List Bool :=
 if h : n < 2 then [] else if i < spl n then ups (spl n) i ++ [false] else ups (n - spl n) (i - spl n) ++ [true]
termination_by n
decreasing_by
 all_goals
  have := spl_lt (n := n) (by omega)
  omega
theorem ups_one {n : Nat} (i : Nat) (h : n < 2) : ups n i = [] := by rw [ups, dif_pos h]
theorem ups_left {n i : Nat} (h : 2 <= n) (k : i < spl n) : ups n i = ups (spl n) i ++ [false] := by rw [ups, dif_neg (by omega), if_pos k]
theorem ups_right {n i : Nat} (h : 2 <= n) (k : spl n <= i) : ups n i = ups (n - spl n) (i - spl n) ++ [true] := by rw [ups, dif_neg (by omega), if_neg (by omega)]
theorem trn_one {n : Nat} (f i : Nat) (h : n < 2) : trn f n i = [] := by rw [trn, dif_pos h]
theorem trn_left {n i : Nat} (f : Nat) (h : 2 <= n) (k : i < spl n) : trn f n i = trn f (spl n) i ++ [(f + spl n, f + n, false)] := by rw [trn, dif_neg (by omega), if_pos k]
theorem trn_right {n i : Nat} (f : Nat) (h : 2 <= n) (k : spl n <= i) : trn f n i = trn (f + spl n) (n - spl n) (i - spl n) ++ [(f, f + spl n, true)] := by rw [trn, dif_neg (by omega), if_neg (by omega)]
theorem pa_one {l : List (List UInt8)} (i : Nat) (h : l.length < 2) : pa l i = [] := by rw [pa, dif_pos h]
theorem pa_left {l : List (List UInt8)} {i : Nat} (h : 2 <= l.length) (k : i < spl l.length) : pa l i = pa (l.take (spl l.length)) i ++ [ov (l.drop (spl l.length))] := by rw [pa, dif_neg (by omega), if_pos k]
theorem pa_right {l : List (List UInt8)} {i : Nat} (h : 2 <= l.length) (k : spl l.length <= i) : pa l i = pa (l.drop (spl l.length)) (i - spl l.length) ++ [ov (l.take (spl l.length))] := by rw [pa, dif_neg (by omega), if_neg (by omega)]
theorem trn_ups (n : Nat) : ∀ f i, (trn f n i).map (·.2.2) = ups n i := by
 induction n using Nat.strongRecOn with
 | ind n ih =>
  intro f i
  by_cases h : n < 2
  ·rw [trn_one f i h, ups_one i h]; rfl
  obtain ⟨s1, s2, _⟩ := spl_lt (n := n) (by omega)
  by_cases k : i < spl n
  ·rw [trn_left f (by omega) k, ups_left (by omega) k, List.map_append, ih _ s2]; rfl
  ·rw [trn_right f (by omega) (by omega), ups_right (by omega) (by omega), List.map_append, ih _ (by omega)]; rfl
theorem trn_length (f n i : Nat) : (trn f n i).length = (ups n i).length := by rw [<- trn_ups n f i, List.length_map]
theorem trn_in (n : Nat) : ∀ f i t, i < n -> t ∈ trn f n i -> f <= t.1 /\ t.1 < t.2.1 /\ t.2.1 <= f + n := by
 induction n using Nat.strongRecOn with
 | ind n ih =>
  intro f i t hi ht
  by_cases h : n < 2
  ·rw [trn_one f i h] at ht; cases ht
  obtain ⟨s1, s2, _⟩ := spl_lt (n := n) (by omega)
  by_cases k : i < spl n
  ·rw [trn_left f (by omega) k, List.mem_append, List.mem_singleton] at ht
   rcases ht with ht | rfl
   ·have := ih _ s2 f i t k ht; omega
   ·dsimp only; omega
  ·rw [trn_right f (by omega) (by omega), List.mem_append, List.mem_singleton] at ht
   rcases ht with ht | rfl
   ·have := ih _ (by omega) _ _ t (by omega) ht; omega
   ·dsimp only; omega
def oth (l : List (List UInt8)) (t : Nat × Nat × Bool) : List UInt8 := ov ((l.take t.2.1).drop t.1)
theorem pa_trn (l : List (List UInt8)) : ∀ n f i, f + n <= l.length -> pa ((l.take (f + n)).drop f) i = (trn f n i).map (oth l) := by
 intro n
 induction n using Nat.strongRecOn with
 | ind n ih =>
  intro f i hf
  have hlen : ((l.take (f + n)).drop f).length = n := by simp; omega
  by_cases h : n < 2
  ·rw [trn_one f i h, pa_one i (by omega)]; rfl
  obtain ⟨s1, s2, _⟩ := spl_lt (n := n) (by omega)
  have e1 : ((l.take (f + n)).drop f).take (spl n) = (l.take (f + spl n)).drop f := by
   rw [List.take_drop, List.take_take, Nat.min_eq_left (by omega)]
  have e2 : ((l.take (f + n)).drop f).drop (spl n) = (l.take (f + n)).drop (f + spl n) := by rw [List.drop_drop]
  by_cases k : i < spl n
  ·rw [trn_left f (by omega) k, pa_left (by omega) (by rw [hlen]; exact k), hlen, List.map_append, e1, e2, ih _ s2 f i (by omega)]; rfl
  ·rw [trn_right f (by omega) (by omega), pa_right (by omega) (by rw [hlen]; omega), hlen, List.map_append, e1, e2]
   have := ih (n - spl n) (by omega) (f + spl n) (i - spl n) (by omega)
   rw [show f + spl n + (n - spl n) = f + n by omega] at this
   rw [this]; rfl
theorem pa_all (l : List (List UInt8)) (i : Nat) : pa l i = (trn 0 l.length i).map (oth l) := by
 have := pa_trn l l.length 0 i (by omega)
 rwa [Nat.zero_add, List.take_length, List.drop_zero] at this
theorem pa_length (l : List (List UInt8)) (i : Nat) : (pa l i).length = (ups l.length i).length := by rw [pa_all, List.length_map, trn_length]
theorem oth_length {l : List (List UInt8)} (h : all32 l) (t : Nat × Nat × Bool) : (oth l t).length = 32 := ov_length ((h.take _).drop _)
theorem pa_all32 {l : List (List UInt8)} (h : all32 l) (i : Nat) : all32 (pa l i) := by
 rw [pa_all]
 intro d hd
 obtain ⟨t, _, rfl⟩ := List.mem_map.1 hd
 exact oth_length h t
def inn (u : Bool) (own other : List UInt8) : List UInt8 := 1 :: (if u then other ++ own else own ++ other)
def mbs13 (b : List UInt8) (us : List Bool) (ps : List (List UInt8)) : Nat -> List UInt8
 | 0 => b
 | s + 1 => inn (us.getD s false) (sha (mbs13 b us ps s)) (bi ps s)
theorem sha_inn (u : Bool) (own other : List UInt8) : sha (inn u own other) = if u then nd other own else nd own other := by
 cases u <;> rfl
theorem sha_mb (b : List UInt8) (us : List Bool) (ps : List (List UInt8)) (s : Nat) : sha (mbs13 b us ps s) = fs (sha b) us ps s := by
 induction s with
 | zero => rfl
 | succ s ih => rw [mbs13, sha_inn, ih, fs]
theorem fs_congr {d : List UInt8} {us us' : List Bool} {ps ps' : List (List UInt8)} (m : Nat) (h1 : ∀ s, s < m -> us.getD s false = us'.getD s false) (h2 : ∀ s, s < m -> bi ps s = bi ps' s) : fs d us ps m = fs d us' ps' m := by
 induction m with
 | zero => rfl
 | succ m ih => rw [fs, fs, ih (fun s hs => h1 s (by omega)) (fun s hs => h2 s (by omega)), h1 m (by omega), h2 m (by omega)]
theorem bi_left {a b : List (List UInt8)} {s : Nat} (h : s < a.length) : bi (a ++ b) s = bi a s := by
 unfold bi
 rw [List.getD_eq_getElem?_getD, List.getD_eq_getElem?_getD, List.getElem?_append_left h]
theorem bi_snoc {a : List (List UInt8)} {p : List UInt8} {s : Nat} (h : s = a.length) : bi (a ++ [p]) s = p := by
 subst h
 simp [bi]
theorem getD_left {a b : List Bool} {s : Nat} (h : s < a.length) : (a ++ b).getD s false = a.getD s false := by
 rw [List.getD_eq_getElem?_getD, List.getD_eq_getElem?_getD, List.getElem?_append_left h]
theorem fs_snoc (d : List UInt8) (us : List Bool) (u : Bool) (ps : List (List UInt8)) (p : List UInt8) (h : ps.length = us.length) :
    fs d (us ++ [u]) (ps ++ [p]) (us.length + 1) = if u then nd p (fs d us ps us.length) else nd (fs d us ps us.length) p := by
 rw [fs, bi_snoc h.symm, fs_congr us.length (fun s hs => getD_left hs) (fun s hs => bi_left (by omega))]
 rw [show (us ++ [u]).getD us.length false = u by simp]
theorem fs_length {d : List UInt8} (hd : d.length = 32) (us : List Bool) (ps : List (List UInt8)) (s : Nat) : (fs d us ps s).length = 32 := by
 cases s with
 | zero => exact hd
 | succ s =>
  rw [fs]
  split <;> exact sha_length _
theorem pa_root (l : List (List UInt8)) : ∀ n i, l.length = n -> i < n -> fs (bi l i) (ups n i) (pa l i) (ups n i).length = ov l := by
 intro n
 induction n using Nat.strongRecOn generalizing l with
 | ind n ih =>
  intro i hn hi
  by_cases h : n < 2
  ·rw [ups_one i h]
   obtain rfl : i = 0 := by omega
   obtain ⟨d, rfl⟩ := List.length_eq_one_iff.1 (show l.length = 1 by omega)
   rw [ov_one]; rfl
  obtain ⟨s1, s2, _⟩ := spl_lt (n := n) (by omega)
  rw [ov_two (by omega), hn]
  have lt : (l.take (spl n)).length = spl n := by rw [List.length_take]; omega
  have ld : (l.drop (spl n)).length = n - spl n := by rw [List.length_drop]; omega
  by_cases k : i < spl n
  ·have hp := pa_left (l := l) (i := i) (by omega) (by rw [hn]; exact k)
   rw [hn] at hp
   rw [hp, ups_left (by omega) k, List.length_append, List.length_singleton, fs_snoc _ _ _ _ _ (by rw [pa_length, lt])]
   rw [if_neg (by simp)]
   have := ih _ s2 (l.take (spl n)) i lt k
   rw [show bi (l.take (spl n)) i = bi l i by simp [bi, List.getElem?_take, k]] at this
   rw [this]
  ·have hp := pa_right (l := l) (i := i) (by omega) (by rw [hn]; omega)
   rw [hn] at hp
   rw [hp, ups_right (by omega) (by omega), List.length_append, List.length_singleton, fs_snoc _ _ _ _ _ (by rw [pa_length, ld])]
   rw [if_pos rfl]
   have := ih _ (by omega) (l.drop (spl n)) (i - spl n) ld (by omega)
   rw [show bi (l.drop (spl n)) (i - spl n) = bi l i by simp [bi, List.getElem?_drop]; rw [show spl n + (i - spl n) = i by omega]] at this
   rw [this]
theorem log2_mono {a b : Nat} (h : a <= b) : a.log2 <= b.log2 := by
 by_cases h0 : a = 0
 ·subst h0; simp
 ·rw [Nat.le_log2 (by omega)]
  exact Nat.le_trans (Nat.log2_self_le h0) h
theorem dpt_mono {a b : Nat} (h : a <= b) : dpt a <= dpt b := by
 unfold dpt
 have := log2_mono (a := a - 1) (b := b - 1) (by omega)
 split <;> split <;> omega
theorem ups_le (n : Nat) : ∀ i, (ups n i).length <= dpt n := by
 induction n using Nat.strongRecOn with
 | ind n ih =>
  intro i
  by_cases h : n < 2
  ·rw [ups_one i h]; exact Nat.zero_le _
  obtain ⟨s1, s2, s3⟩ := spl_lt (n := n) (by omega)
  rw [dpt_spl (by omega)]
  by_cases k : i < spl n
  ·rw [ups_left (by omega) k, List.length_append, List.length_singleton]
   have := ih _ s2 i; omega
  ·rw [ups_right (by omega) (by omega), List.length_append, List.length_singleton]
   have := ih (n - spl n) (by omega) (i - spl n)
   have := dpt_mono (a := n - spl n) (b := spl n) (by omega)
   omega
theorem ups_nine {n : Nat} (h : n <= 512) (i : Nat) : (ups n i).length <= 9 := by
 refine Nat.le_trans (ups_le n i) (Nat.le_trans (dpt_mono h) ?_)
 decide +kernel
end Go.Proofs.YtffheegeaghfjaaGreatDoor.Da
namespace Go.Proofs.YtffheegeaghfjaaGreatDoor
open Go.RowKit
attribute [local go_sem] Oper.semAt_some
def tnD (t : Nat × Nat × Bool) : Array Value := #[.int .i64 (t.1 : Int), .int .i64 (t.2.1 : Int), .bool t.2.2]
def tnV (t : Nat × Nat × Bool) : Value := .agg (tnD t)
theorem climb_any (l : Nat) (J : List (Nat × Nat × Bool) -> World -> Prop) (Bx : World -> Prop) (W : List (Nat × Nat × Bool))
    (hY : ∀ p x X, p ++ [x] <+: W -> J p X -> YieldAt Fence.wide 0 Tryz.prog l #[tnV x] X fun e X' => (e = .returned (.bool true) /\ J (p ++ [x]) X') ∨ (e = .returned (.bool false) /\ Bx X')) :
    ∀ (n f i T A : Nat) (p : List (Nat × Nat × Bool)) (w : World), T = f + n -> A = f + i -> i < n -> T <= 1000000 -> p ++ Da.trn f n i <+: W -> J p w ->
      Calls Tryz.prog 107 #[.int .i64 (f : Int), .int .i64 (T : Int), .int .i64 (A : Int), .func (.yield l) #[] #[]] w fun e X =>
        (e = .returned (.bool true) /\ J (p ++ Da.trn f n i) X) ∨ (e = .returned (.bool false) /\ Bx X) := by
 intro n
 induction n using Nat.strongRecOn with
 | ind n ih =>
  intro f i T A p w hT hA hi hf hp hJ
  have hw1 : (T : Int) - (f : Int) = (n : Int) := by omega
  by_cases h : n < 2
  ·rw [Da.trn_one f i h, List.append_nil]
   have hd : decide ((n : Int) < 2) = true := by simp; omega
   clear hp
   have HJ := Lh hJ
   have HT := Lh hT
   have HA := Lh hA
   clear hJ hY ih hT hA
   refine (callsIn_wide (n := 0)).1 (callsIn_of_wp Tryz.func107 rfl trivial ?_ rfl)
   simp only [Tryz.ntmps107, List.size_toArray, List.length_cons, List.length_nil, Nat.reduceAdd, Nat.reduceSub, Array.replicate_succ, Array.replicate_zero, List.push_toArray, List.append_toArray, List.nil_append, List.cons_append]
   gi_wp2
   go_ret
   exact .inl ⟨rfl, HJ.out⟩
  have hd : decide ((n : Int) < 2) = false := by simp; omega
  have SP := tsplit_any (n : Int) w (by omega) (by omega)
  rw [Int.toNat_natCast] at SP
  obtain ⟨s1, s2, _⟩ := Da.spl_lt (n := n) (by omega)
  obtain ⟨k, hk⟩ : ∃ k, Da.spl n = k := ⟨_, rfl⟩
  rw [hk] at SP s1 s2
  obtain ⟨K, hK⟩ : ∃ K, f + k = K := ⟨_, rfl⟩
  have hw2 : (f : Int) + (k : Int) = (K : Int) := by omega
  by_cases hik : i < k
  ·have ht := Da.trn_left (n := n) (i := i) f (by omega) (by rw [hk]; exact hik)
   rw [hk, hK, <- hT] at ht
   have hd2 : decide (A < K) = true := decide_eq_true (by omega)
   rw [ht, <- List.append_assoc] at hp ⊢
   have hy2 := fun X hj => hY (p ++ Da.trn f k i) (K, T, false) X hp hj
   have CH := (ih k s2 f i K A p w hK.symm hA hik (by omega) ((List.prefix_append _ _).trans hp) hJ).mono (R' := fun e X => (e = .returned (.bool true) /\ YieldAt Fence.wide 0 Tryz.prog l #[tnV (K, T, false)] X fun e X' => (e = .returned (.bool true) /\ J (p ++ Da.trn f k i ++ [(K, T, false)]) X') ∨ (e = .returned (.bool false) /\ Bx X')) ∨ (e = .returned (.bool false) /\ Bx X))
    (fun e X h => h.imp (fun h => ⟨h.1, hy2 X h.2⟩) id)
   have HSP := Lh SP
   have HCH := Lh CH
   have HT := Lh hT
   have HA := Lh hA
   have HK := Lh hK
   clear ih hY hy2 SP CH hp hJ ht hk hT hA hK
   refine (callsIn_wide (n := 0)).1 (callsIn_of_wp Tryz.func107 rfl trivial ?_ rfl)
   simp only [Tryz.ntmps107, List.size_toArray, List.length_cons, List.length_nil, Nat.reduceAdd, Nat.reduceSub, Array.replicate_succ, Array.replicate_zero, List.push_toArray, List.append_toArray, List.nil_append, List.cons_append]
   gi_wp2
   refine ⟨trivial, rfl, ((callsIn_wide (n := 0)).2 HSP.out).mono ?_⟩
   rintro e w1 ⟨rfl, rfl⟩
   rename World => w
   gi_wp2
   refine ⟨trivial, rfl, ((callsIn_wide (n := 0)).2 HCH.out).mono ?_⟩
   rintro e W1 (⟨rfl, hy⟩ | ⟨rfl, hx⟩)
   ·obtain ⟨fn, tmps, assign, body, hy, hR⟩ := hy
    unfold tnV tnD at hy
    dsimp only at hy
    gi_wp2
    refine ⟨rfl, hR.mono ?_⟩
    rintro e W2 (⟨rfl, hJ2⟩ | ⟨rfl, hx⟩)
    ·gi_wp2
     go_ret
     exact .inl ⟨rfl, hJ2⟩
    ·gi_wp2
     go_ret
     exact .inr ⟨rfl, hx⟩
   ·gi_wp2
    refine ⟨fun _ h => (by cases h), ?_⟩
    gi_wp2
    go_ret
    exact .inr ⟨rfl, hx⟩
  ·have ht := Da.trn_right (n := n) (i := i) f (by omega) (by rw [hk]; omega)
   rw [hk, hK] at ht
   have hd2 : decide (A < K) = false := decide_eq_false (by omega)
   rw [ht, <- List.append_assoc] at hp ⊢
   have hy2 := fun X hj => hY (p ++ Da.trn K (n - k) (i - k)) (f, K, true) X hp hj
   have CH := (ih (n - k) (by omega) K (i - k) T A p w (by omega) (by omega) (by omega) hf ((List.prefix_append _ _).trans hp) hJ).mono (R' := fun e X => (e = .returned (.bool true) /\ YieldAt Fence.wide 0 Tryz.prog l #[tnV (f, K, true)] X fun e X' => (e = .returned (.bool true) /\ J (p ++ Da.trn K (n - k) (i - k) ++ [(f, K, true)]) X') ∨ (e = .returned (.bool false) /\ Bx X')) ∨ (e = .returned (.bool false) /\ Bx X))
    (fun e X h => h.imp (fun h => ⟨h.1, hy2 X h.2⟩) id)
   have HSP := Lh SP
   have HCH := Lh CH
   have HT := Lh hT
   have HA := Lh hA
   have HK := Lh hK
   clear ih hY hy2 SP CH hp hJ ht hk hT hA hK
   refine (callsIn_wide (n := 0)).1 (callsIn_of_wp Tryz.func107 rfl trivial ?_ rfl)
   simp only [Tryz.ntmps107, List.size_toArray, List.length_cons, List.length_nil, Nat.reduceAdd, Nat.reduceSub, Array.replicate_succ, Array.replicate_zero, List.push_toArray, List.append_toArray, List.nil_append, List.cons_append]
   gi_wp2
   refine ⟨trivial, rfl, ((callsIn_wide (n := 0)).2 HSP.out).mono ?_⟩
   rintro e w1 ⟨rfl, rfl⟩
   rename World => w
   gi_wp2
   refine ⟨trivial, rfl, ((callsIn_wide (n := 0)).2 HCH.out).mono ?_⟩
   rintro e W1 (⟨rfl, hy⟩ | ⟨rfl, hx⟩)
   ·obtain ⟨fn, tmps, assign, body, hy, hR⟩ := hy
    unfold tnV tnD at hy
    dsimp only at hy
    gi_wp2
    refine ⟨rfl, hR.mono ?_⟩
    rintro e W2 (⟨rfl, hJ2⟩ | ⟨rfl, hx⟩)
    ·gi_wp2
     go_ret
     exact .inl ⟨rfl, hJ2⟩
    ·gi_wp2
     go_ret
     exact .inr ⟨rfl, hx⟩
   ·gi_wp2
    refine ⟨fun _ h => (by cases h), ?_⟩
    gi_wp2
    go_ret
    exact .inr ⟨rfl, hx⟩
theorem mturns_any (n i : Int) (w : World) :
    Calls Tryz.prog 66 #[.int .i64 n, .int .i64 i] w fun e w' => e = .returned (.func (.func 106) #[] #[.pointer (some ⟨w.heap.size, 0, none⟩), .pointer (some ⟨w.heap.size + 1, 0, none⟩)]) /\ w' = (w.alloc (.cells #[.int .i64 n] 3)).alloc (.cells #[.int .i64 i] 3) := by
 have hmf := @makes Tryz.prog
 go_enter Tryz.func66, Tryz.ntmps66
 go_wp2
 go_ret
 simp
theorem turns_seq (n i q1 q2 : Nat) (hi : i < n) (hn : n <= 1000000) (l : Nat) (J : List (Nat × Nat × Bool) -> World -> Prop) (Bx : World -> Prop)
    (hY : ∀ p x X, p ++ [x] <+: Da.trn 0 n i -> J p X -> YieldAt Fence.wide 0 Tryz.prog l #[tnV x] X fun e X' => (e = .returned (.bool true) /\ J (p ++ [x]) X') ∨ (e = .returned (.bool false) /\ Bx X')) (w : World)
    (h1 : Boxed w q1 3 (.int .i64 (n : Int))) (h2 : Boxed w q2 3 (.int .i64 (i : Int))) (hJ : J [] w) :
    Calls Tryz.prog 106 #[.func (.yield l) #[] #[], .pointer (some ⟨q1, 0, none⟩), .pointer (some ⟨q2, 0, none⟩)] w fun e X => (∃ v, e = .returned v) /\ (J (Da.trn 0 n i) X ∨ Bx X) := by
 have CL := climb_any l J Bx (Da.trn 0 n i) hY n 0 i n i [] w (by omega) (by omega) hi hn (by simp) hJ
 rw [List.nil_append, show (((0 : Nat) : Int)) = 0 from rfl] at CL
 have hc1 := h1.cell
 have hc2 := h2.cell
 have HCL := Lh CL
 clear CL hY hJ h1 h2
 go_enter Tryz.func106, Tryz.ntmps106
 go_wp2_with fail
 refine HCL.out.mono ?_
 rintro e X (⟨rfl, h⟩ | ⟨rfl, h⟩)
 ·go_wp2_with fail
  go_end0
  exact ⟨⟨_, rfl⟩, .inl h⟩
 ·go_wp2_with fail
  go_end0
  exact ⟨⟨_, rfl⟩, .inr h⟩
theorem plen_bad (n i : Int) (h : ¬ (0 <= i /\ i < n /\ n <= 512)) (w : World) :
    Calls Tryz.prog 64 #[.int .i64 n, .int .i64 i] w fun e w' => e = .returned (.int .i64 (-1)) /\ w' = w := by
 by_cases h1 : i < 0
 ·have hd1 : decide (i < 0) = true := decide_eq_true (by omega)
  refine Rf.calls_marks Tryz.func64 rfl ?_
  simp only [Tryz.ntmps64, List.size_toArray, List.length_cons, List.length_nil, Nat.reduceAdd, Nat.reduceSub, Array.replicate_succ, Array.replicate_zero, List.push_toArray, List.append_toArray, List.nil_append, List.cons_append]
  go_wp2_with fail
  exact ⟨_, results_tmp rfl _ _ _, rfl, rfl⟩
 have hd1 : decide (i < 0) = false := decide_eq_false (by omega)
 by_cases h2 : n <= i
 ·have hd2 : decide (i >= n) = true := decide_eq_true (by omega)
  have hd3 : decide (n <= i) = true := decide_eq_true (by omega)
  refine Rf.calls_marks Tryz.func64 rfl ?_
  simp only [Tryz.ntmps64, List.size_toArray, List.length_cons, List.length_nil, Nat.reduceAdd, Nat.reduceSub, Array.replicate_succ, Array.replicate_zero, List.push_toArray, List.append_toArray, List.nil_append, List.cons_append]
  go_wp2_with fail
  exact ⟨_, results_tmp rfl _ _ _, rfl, rfl⟩
 have hd2 : decide (i >= n) = false := decide_eq_false (by omega)
 have hd3 : decide (n <= i) = false := decide_eq_false (by omega)
 ·have hd4 : decide (n > 512) = true := decide_eq_true (by omega)
  have hd5 : decide (512 < n) = true := decide_eq_true (by omega)
  refine Rf.calls_marks Tryz.func64 rfl ?_
  simp only [Tryz.ntmps64, List.size_toArray, List.length_cons, List.length_nil, Nat.reduceAdd, Nat.reduceSub, Array.replicate_succ, Array.replicate_zero, List.push_toArray, List.append_toArray, List.nil_append, List.cons_append]
  go_wp2_with fail
  exact ⟨_, results_tmp rfl _ _ _, rfl, rfl⟩
theorem plen_any (n i : Nat) (hi : i < n) (hn : n <= 512) (w : World) :
    Calls Tryz.prog 64 #[.int .i64 (n : Int), .int .i64 (i : Int)] w fun e w' => e = .returned (.int .i64 (((Da.ups n i).length : Nat) : Int)) /\ Below w.heap.size w w' := by
 obtain ⟨g, hg⟩ : ∃ g, w.heap.size = g := ⟨_, rfl⟩
 obtain ⟨W1, hW1⟩ : ∃ W1, w.alloc (.cells #[.int .i64 0] 3) = W1 := ⟨_, rfl⟩
 have hb1 : Below w.heap.size w W1 := by rw [<- hW1]; exact new12 _ _
 have hX1 : Boxed W1 g 3 (.int .i64 ((0 : Nat) : Int)) := by rw [<- hW1, <- hg]; exact Boxed.new _ _ _
 have hs1 : W1.heap.size = g + 1 := by rw [<- hW1, World.size_alloc, hg]
 obtain ⟨W2, hW2⟩ : ∃ W2, W1.alloc (.cells #[.int .i64 (n : Int)] 3) = W2 := ⟨_, rfl⟩
 obtain ⟨W3, hW3⟩ : ∃ W3, W2.alloc (.cells #[.int .i64 (i : Int)] 3) = W3 := ⟨_, rfl⟩
 have hb2 : Below W1.heap.size W1 W2 := by rw [<- hW2]; exact new12 _ _
 have hb3 : Below W2.heap.size W2 W3 := by rw [<- hW3]; exact new12 _ _
 have hX2 : Boxed W2 (g + 1) 3 (.int .i64 (n : Int)) := by rw [<- hW2, <- hs1]; exact Boxed.new _ _ _
 have hs2 : W2.heap.size = g + 1 + 1 := by rw [<- hW2, World.size_alloc, hs1]
 have hX3 : Boxed W3 (g + 1 + 1) 3 (.int .i64 (i : Int)) := by rw [<- hW3, <- hs2]; exact Boxed.new _ _ _
 have MT := mturns_any (n : Int) (i : Int) W1
 rw [hW2, hW3, hs1] at MT
 have HB1 := Lh hb1
 have HMT := Lh MT
 have HW1 := Lh hW1
 have HG := Lh hg
 have HI0 : Hid (Boxed W3 g 3 (.int .i64 ((0 : Nat) : Int)) /\ Boxed W3 (g + 1) 3 (.int .i64 (n : Int)) /\ Boxed W3 (g + 1 + 1) 3 (.int .i64 (i : Int)) /\ Below w.heap.size w W3) :=
  Lh ⟨boxed_later (boxed_later hX1 hb2) hb3, boxed_later hX2 hb3, hX3, Ks (Ks hb1 hb2) hb3⟩
 have hd1 : decide ((i : Int) < 0) = false := decide_eq_false (by omega)
 have hd2 : decide ((i : Int) >= (n : Int)) = false := decide_eq_false (by omega)
 have hd3 : decide (n <= i) = false := decide_eq_false (by omega)
 have hd4 : decide ((n : Int) > 512) = false := decide_eq_false (by omega)
 have hd5 : decide (512 < (n : Int)) = false := decide_eq_false (by omega)
 have hlen := Da.trn_length 0 n i
 have hle := Da.ups_nine hn i
 obtain ⟨m, hm⟩ : ∃ m, (Da.ups n i).length = m := ⟨_, rfl⟩
 rw [hm] at hlen hle ⊢
 have HLEN := Lh hlen
 have HLE := Lh hle
 have HII := Lh hi
 have HNN := Lh hn
 clear hb1 hX1 hs1 hb2 hb3 hX2 hs2 hX3 MT hW1 hW2 hW3 hlen hle hm hg hi hn
 refine Rf.calls_marks Tryz.func64 rfl ?_
 simp only [Tryz.ntmps64, List.size_toArray, List.length_cons, List.length_nil, Nat.reduceAdd, Nat.reduceSub, Array.replicate_succ, Array.replicate_zero, List.push_toArray, List.append_toArray, List.nil_append, List.cons_append]
 go_upto_region 4 with fail
 rw [HW1.out, HG.out]
 go_wp2_with fail
 refine HMT.out.mono ?_
 rintro e w3 ⟨rfl, rfl⟩
 rename World => W3
 go_wp2_with fail
 refine Rf.range_toldA (α := Nat × Nat × Bool) (σ := List (Nat × Nat × Bool)) rfl (enters_of Tryz.func106 (by kernel_rfl) rfl) (fun x => #[tnV x]) (fun _ => rfl)
  (fun p X => Boxed X g 3 (.int .i64 ((p.length : Nat) : Int)) /\ Boxed X (g + 1) 3 (.int .i64 (n : Int)) /\ Boxed X (g + 1 + 1) 3 (.int .i64 (i : Int)) /\ Below w.heap.size w X)
  (fun c X => False)
  (fun p x p' X => p' = p ++ [x] /\ p' <+: Da.trn 0 n i)
  [] (fun p => p = Da.trn 0 n i) ?hI ?hIx ?hV ?h0 ?hseq ?round ?done ?stop
 case hI => exact fun s X X' ⟨h1, h2, h3, h4⟩ k => ⟨boxed_nc12 h1 k, boxed_nc12 h2 k, boxed_nc12 h3 k, h4.trans (k.below HI0.out.2.2.2.size h4.size)⟩
 case hIx => exact fun c X X' h k => h
 case hV => exact fun s x s' X X' h k => h
 case h0 => exact HI0.out
 case hseq =>
  intro l B Bx X hnc hi2 hB hk ht
  refine (turns_seq n i (g + 1) (g + 1 + 1) HII.out (by have := HNN.out; omega) l (fun p X => (Boxed X g 3 (.int .i64 ((p.length : Nat) : Int)) /\ Boxed X (g + 1) 3 (.int .i64 (n : Int)) /\ Boxed X (g + 1 + 1) 3 (.int .i64 (i : Int)) /\ Below w.heap.size w X) /\ B X) Bx ?_ X hi2.2.1 hi2.2.2.1 ⟨hi2, hB⟩).mono ?_
  ·exact fun p x Y hp hY => (ht p x (p ++ [x]) Y hY.1 hY.2 ⟨rfl, hp⟩).mono fun e X' h => h.imp (fun h => ⟨h.1, h.2.1, h.2.2⟩) (fun h => ⟨h.1, h.2⟩)
  ·rintro e X' ⟨hv, (⟨h, hB⟩ | hx)⟩
   ·exact ⟨hv, .inl ⟨_, rfl, h, hB⟩⟩
   ·exact ⟨hv, .inr hx⟩
 case round =>
  rintro l p x p' X Z' To ⟨h1, h2, h3, h4⟩ ⟨rfl, hp⟩ hsz HN' HR' HE'
  have hpl := hp.length_le
  rw [List.length_append, List.length_singleton, HLEN.out] at hpl
  have HH := Lh (show Boxed X g 3 (.int .i64 ((p.length : Nat) : Int)) /\ Boxed X (g + 1) 3 (.int .i64 (n : Int)) /\ Boxed X (g + 1 + 1) 3 (.int .i64 (i : Int)) /\ Below w.heap.size w X from ⟨h1, h2, h3, h4⟩)
  obtain ⟨q, hq⟩ : ∃ q, p.length = q := ⟨_, rfl⟩
  have HQ := Lh hq
  rw [hq] at hpl
  have hq9 : q <= 9 := by have := HLE.out; omega
  clear h1 h2 h3 h4 hq hpl hp
  gi_wp2
  refine ⟨Below.refl _ _, fun Y hY hnew hsy => ?_⟩
  obtain ⟨h1, h2, h3, h4⟩ := HH.out
  rw [HQ.out] at h1
  have k1 := boxed_later h1 hY
  have hc := k1.cell
  have hf := k1.frozen
  have HFI : Hid (KeepsOthers X (Y.setCell ⟨g, 0, none⟩ (.int .i64 ((q : Int) + 1))) /\ Boxed (Y.setCell ⟨g, 0, none⟩ (.int .i64 ((q : Int) + 1))) g 3 (.int .i64 (((p ++ [x]).length : Nat) : Int)) /\ Boxed (Y.setCell ⟨g, 0, none⟩ (.int .i64 ((q : Int) + 1))) (g + 1) 3 (.int .i64 (n : Int)) /\ Boxed (Y.setCell ⟨g, 0, none⟩ (.int .i64 ((q : Int) + 1))) (g + 1 + 1) 3 (.int .i64 (i : Int)) /\ Below w.heap.size w (Y.setCell ⟨g, 0, none⟩ (.int .i64 ((q : Int) + 1)))) := Lh
   ⟨(keeps_below hY).trans (KeepsOthers.setCell _ _ _), by rw [List.length_append, HQ.out]; exact k1.set _, (boxed_later h2 hY).other (by omega) _, (boxed_later h3 hY).other (by omega) _,
    (Ks h4 hY).setCell (p := ⟨g, 0, none⟩) (Nat.le_of_eq HG.out) _⟩
  clear h1 h2 h3 h4 hY hnew hsy k1
  gi_wp2
  exact HN'.out _ _ HFI.out.1 HFI.out.2
 case done =>
  rintro D' p X hD' rfl ⟨h1, h2, h3, h4⟩ hK'
  rw [HLEN.out] at h1
  have hc := h1.cell
  have hk : Below w.heap.size X (X.putObj D' (.deferred none)) := belowK_b (w := w) (Nat.le_refl _) X D' _ _ (by have := HI0.out.2.2.2.size; omega) hK' rfl rfl
  have HBW := Lh (h4.trans hk)
  clear h1 h2 h3 h4 hk
  go_wp2_with fail
  refine Rf.leaves hK' (results_tmp rfl _ _ _) ?_
  exact ⟨rfl, HBW.out⟩
 case stop => exact fun D c X hD h => h.elim
end Go.Proofs.YtffheegeaghfjaaGreatDoor
namespace Go.Proofs.YtffheegeaghfjaaGreatDoor
open Go.RowKit
attribute [local go_sem] Oper.semAt_some
structure MkI (W : World) (g : Nat) (es : List (List UInt8)) (v : Value) (X : World) : Prop where
 own : X.ownsRow W.heap.size 32 32 v es.length (bytesV es.flatten)
 box : Boxed X g 70 v
 els : Rf.Mut (fun k => k = g) W X
 lt : g < W.heap.size
theorem MkI.ne {W : World} {g : Nat} {es : List (List UInt8)} {v : Value} {X : World} (h : MkI W g es v X) {k : Nat} (hk : k < W.heap.size) : some k ≠ v.ownBlock := fun e => by
 have := (own_blk h.own k e.symm).1
 omega
theorem MkI.later {W : World} {g : Nat} {es : List (List UInt8)} {v : Value} {X X' : World} (h : MkI W g es v X) (hb : Below X.heap.size X X') : MkI W g es v X' :=
 ⟨own_later12 h.own hb, boxed_later h.box hb, h.els.trans (.of_below hb), h.lt⟩
theorem MkI.nc {W : World} {g : Nat} {es : List (List UInt8)} {v : Value} {X X' : World} (h : MkI W g es v X) (k : Rf.NC W.heap.size X X') : MkI W g es v X' :=
 ⟨k.owns h.own, boxed_nc12 h.box k, ⟨k.os.trans h.els.os, k.tape.trans h.els.tape, k.output.trans h.els.output, Nat.le_trans h.els.size k.size, fun i hi hm => by
  have h1 := h.els.same i hi hm
  have hlt : i < X.heap.size := Nat.lt_of_lt_of_le hi h.els.size
  rw [Array.getElem?_eq_getElem hlt] at h1
  rw [k.same i _ (Array.getElem?_eq_getElem hlt) (.inr hi), h1]⟩, h.lt⟩
theorem MkI.boxed {W : World} {g : Nat} {es : List (List UInt8)} {v : Value} {X : World} (h : MkI W g es v X) {q : Nat} {t : TypeId} {u : Value} (hb : Boxed W q t u) (hq : q ≠ g) : Boxed X q t u := by
 unfold Boxed at *
 rw [h.els.same q (aE.1 hb).1 hq]
 exact hb
theorem MkI.push {W : World} {g : Nat} {es : List (List UInt8)} {v : Value} {X X1 X2 : World} (h : MkI W g es v X) (hb : Below X.heap.size X X1) {d : List UInt8} {g2 cap2 : Nat}
    (hown : X2.ownsRow W.heap.size 32 32 (.slice (some ⟨g2, 0, none⟩) (es.length + 1) cap2) (es.length + 1) (bytesV es.flatten ++ bytesV d)) (hg : X1.grownBy X2 v.ownBlock) :
    Boxed X2 g 70 v /\ MkI W g (es ++ [d]) (.slice (some ⟨g2, 0, none⟩) (es.length + 1) cap2) (X2.setCell ⟨g, 0, none⟩ (.slice (some ⟨g2, 0, none⟩) (es.length + 1) cap2)) /\ KeepsOthers X (X2.setCell ⟨g, 0, none⟩ (.slice (some ⟨g2, 0, none⟩) (es.length + 1) cap2)) := by
 have h1 := h.later hb
 have hlt := h.lt
 have hg2 := (own_blk hown g2 rfl).1
 have hbox : Boxed X2 g 70 v := h1.box.kept hg (h1.ne hlt)
 have k1 : X2.grownBy (X2.setCell ⟨g, 0, none⟩ (.slice (some ⟨g2, 0, none⟩) (es.length + 1) cap2)) (some g) := grownBy_setCell' _ _ _
 refine ⟨hbox, ⟨?_, hbox.set _, ?_, hlt⟩, ?_⟩
 ·rw [List.length_append, List.length_singleton, List.flatten_append, bytesV_app]
  rw [show ([d] : List (List UInt8)).flatten = d by simp]
  exact World.ownsRow.kept hown k1 (.inr (by simp [Value.ownBlock]; omega))
 ·refine Rf.Mut.trans ⟨hg.os.trans h1.els.os, hg.tape.trans h1.els.tape, hg.output.trans h1.els.output, Nat.le_trans h1.els.size hg.size, fun k hk hn => ?_⟩ (.grown k1 (fun k e => by cases e; rfl))
  exact (hg.block k (Nat.lt_of_lt_of_le hk h1.els.size) (h1.ne hk)).trans (h1.els.same k hk hn)
 ·refine (keeps_below hb).trans ((KeepsOthers.of_grownBy hg fun k o e ho => ?_).trans (KeepsOthers.setCell _ _ _))
  obtain ⟨_, cur', h2⟩ := own_blk h1.own k e
  rw [h2] at ho
  cases ho
  rfl
theorem DgIs.ne_box {W : World} {o : Option Addr} {ds : List (List UInt8)} {c : Nat} (h : DgIs W o ds c) (h0 : 0 < ds.length) {g : Nat} {t : TypeId} {v : Value} (hb : Boxed W g t v) : ∀ ad, o = some ad -> ad.block ≠ g := by
 intro ad e ebg
 obtain ⟨b, off, e2, hlt, hc⟩ := h.cells h0
 rw [e] at e2
 cases e2
 dsimp only at ebg
 subst ebg
 have hl := Da.flat_len h.all
 have h1 := hc 1 ((bytesV ds.flatten).getD 1 undef) (by rw [List.getD_eq_getElem?_getD, List.getElem?_eq_getElem (by rw [bytesV_length]; omega)]; rfl)
 unfold World.cell? at h1
 unfold Boxed at hb
 rw [hb] at h1
 simp at h1
theorem DgIs.moved {W X : World} {o : Option Addr} {ds : List (List UInt8)} {c g : Nat} (h : DgIs W o ds c) (hm : Rf.Mut (fun k => k = g) W X) (hne : 0 < ds.length -> ∀ ad, o = some ad -> ad.block ≠ g) : DgIs X o ds c :=
 ⟨h.le, h.cap, h.nil, h.all, fun h0 => by
  obtain ⟨b, off, e, hlt, hc⟩ := h.cells h0
  refine ⟨b, off, e, Nat.lt_of_lt_of_le hlt hm.size, fun j v hv => ?_⟩
  have := hc j v hv
  rw [<- this]
  exact World.cell?_of_block (hm.same b hlt (hne h0 _ e))⟩
theorem pmake_any (bs : List (List UInt8)) (o : Option Addr) (n c i : Nat) (hn : bs.length = n) (w : World) (hR : RbIs w o bs c) (hV : Cds w) (hi : i < n) (h5 : n <= 512) (hll : ∀ i, i < bs.length -> (bi bs i).length <= 800000) :
    Calls Tryz.prog 31 #[.slice o n c, .int .i64 (i : Int)] w fun e w' => ∃ o' c', e = .returned (.tuple #[.slice o' (Da.ups n i).length c', Value.nilIface]) /\ DgIs w' o' (Da.pa (bs.map Da.lf) i) c' /\ Below w.heap.size w w' := by
 have PL := plen_any n i hi h5 w
 have hle := Da.ups_nine h5 i
 have hlen := Da.trn_length 0 n i
 have hpa := Da.pa_all (bs.map Da.lf) i
 rw [List.length_map, hn] at hpa
 have hin := fun t => Da.trn_in n 0 i t hi
 obtain ⟨m, hm⟩ : ∃ m, (Da.ups n i).length = m := ⟨_, rfl⟩
 rw [hm] at PL hle hlen ⊢
 obtain ⟨ds, hds⟩ : ∃ ds, bs.map Da.lf = ds := ⟨_, rfl⟩
 have hdl : ds.length = n := by rw [<- hds, List.length_map, hn]
 have hall : Da.all32 ds := by rw [<- hds]; exact Da.all32.lf bs
 rw [hds] at hpa ⊢
 have HPL := Lh PL
 have HPA := Lh hpa
 have HIN := Lh hin
 have HLEN := Lh hlen
 have HDS := Lh hds
 have HDL := Lh hdl
 have HALL := Lh hall
 have HR := Lh hR
 have HV := Lh hV
 have HN := Lh hn
 have HI := Lh hi
 have HLL := Lh hll
 have hd1 : decide ((m : Int) < 0) = false := decide_eq_false (by omega)
 obtain ⟨i0, hi0, hz0, hz1, hz2⟩ := dgI_parts dgI_code
 clear PL hpa hin hlen hds hdl hall hR hV hn hi hll hm
 refine Rf.calls_marks Tryz.func31 rfl ?_
 simp only [Tryz.ntmps31, List.size_toArray, List.length_cons, List.length_nil, Nat.reduceAdd, Nat.reduceSub, Array.replicate_succ, Array.replicate_zero, List.push_toArray, List.append_toArray, List.nil_append, List.cons_append]
 go_wp2_with fail
 refine HPL.out.mono ?_
 rintro e W0 ⟨rfl, hb0⟩
 have HB0 := Lh hb0
 clear hb0 HPL
 obtain ⟨g, hg⟩ : ∃ g, W0.heap.size = g := ⟨_, rfl⟩
 obtain ⟨W1, hW1⟩ : ∃ W1, W0.alloc (.cells #[.slice none 0 0] 70) = W1 := ⟨_, rfl⟩
 have hb1 : Below W0.heap.size W0 W1 := by rw [<- hW1]; exact new12 _ _
 have hX1 : Boxed W1 g 70 (.slice none 0 0) := by rw [<- hW1, <- hg]; exact Boxed.new _ _ _
 have hB1 := Ks HB0.out hb1
 have LV := tleaves_any bs o n c HN.out W1 (HR.out.later hB1) (HV.out.later hB1) (by omega) HLL.out
 rw [HDS.out] at LV
 have HLV := Lh LV
 have HW1 := Lh hW1
 have HG := Lh hg
 have HB1 := Lh hB1
 have HX1 := Lh hX1
 clear hW1 hb1 hX1 hB1 LV hg
 go_upto_region 4 with fail
 rw [HW1.out, HG.out]
 clear HW1
 go_upto_region 5 with (first | (refine HLV.out.mono ?_; rintro e W2 ⟨ol, cl, rfl, hdg, hb2⟩) | fail)
 obtain ⟨q, hq⟩ : ∃ q, W2.heap.size = q := ⟨_, rfl⟩
 obtain ⟨W3, hW3⟩ : ∃ W3, W2.alloc (.cells #[.slice ol n cl] 70) = W3 := ⟨_, rfl⟩
 have hb3 : Below W2.heap.size W2 W3 := by rw [<- hW3]; exact new12 _ _
 have hs3 : W3.heap.size = q + 1 := by rw [<- hW3, World.size_alloc, hq]
 have hX3 : Boxed W3 q 70 (.slice ol n cl) := by rw [<- hW3, <- hq]; exact Boxed.new _ _ _
 obtain ⟨W4, hW4⟩ : ∃ W4, W3.alloc (.cells #[.int .i64 (n : Int)] 3) = W4 := ⟨_, rfl⟩
 have hb4 : Below W3.heap.size W3 W4 := by rw [<- hW4]; exact new12 _ _
 have hs4 : W4.heap.size = q + 1 + 1 := by rw [<- hW4, World.size_alloc, hs3]
 have hX4 : Boxed W4 (q + 1) 3 (.int .i64 (n : Int)) := by rw [<- hW4, <- hs3]; exact Boxed.new _ _ _
 obtain ⟨W5, hW5⟩ : ∃ W5, W4.alloc (.cells #[.int .i64 (i : Int)] 3) = W5 := ⟨_, rfl⟩
 have hb5 : Below W4.heap.size W4 W5 := by rw [<- hW5]; exact new12 _ _
 have hs5 : W5.heap.size = q + 1 + 1 + 1 := by rw [<- hW5, World.size_alloc, hs4]
 have hX5 : Boxed W5 (q + 1 + 1) 3 (.int .i64 (i : Int)) := by rw [<- hW5, <- hs4]; exact Boxed.new _ _ _
 have MT := mturns_any (n : Int) (i : Int) W3
 rw [hW4, hW5, hs3] at MT
 have hb25 := Ks (Ks hb3 hb4) hb5
 have hB5 := Ks (Ks HB1.out hb2) hb25
 have hgq : g < q := by
  have := HX1.out.lt
  have := hb2.size
  omega
 have hX15 := boxed_later (boxed_later HX1.out hb2) hb25
 have HNE : Hid (∀ ad, ol = some ad -> ad.block ≠ g) := Lh (hdg.ne_box (by rw [HDL.out]; have := HI.out; omega) (boxed_later HX1.out hb2))
 have HQ5 : Hid (Boxed W5 q 70 (.slice ol n cl) /\ Boxed W5 (q + 1) 3 (.int .i64 (n : Int)) /\ Boxed W5 (q + 1 + 1) 3 (.int .i64 (i : Int)) /\ DgIs W5 ol ds cl) := Lh ⟨boxed_later (boxed_later hX3 hb4) hb5, boxed_later hX4 hb5, hX5, hdg.later hb25⟩
 have HI0 : Hid (MkI W5 g [] (.slice none 0 0) W5) := Lh ⟨World.ownsRow_nil _ _ _ _, hX15, Rf.Mut.refl _ _, hX15.lt⟩
 have HV5 := Lh (HV.out.later hB5)
 have HB5 := Lh hB5
 have HW3 := Lh hW3
 have HMT := Lh MT
 have HS5 := Lh hs5
 have HGQ := Lh hgq
 have hclc := hdg.le
 rw [HDL.out] at hclc
 have hclm := hdg.cap
 unfold maxLen at hclm
 have HGW : Hid (w.heap.size <= g) := Lh (by have := HB0.out.size; have := HG.out; omega)
 have hW5p : 0 < W5.heap.size := by omega
 rw [hq]
 clear hq hW3 hb3 hs3 hX3 hW4 hb4 hs4 hX4 hW5 hb5 hs5 hX5 MT hb25 hB5 hX15 hb2 hdg hgq
 rw [HW3.out]
 go_wp2_with fail
 refine HMT.out.mono ?_
 rintro e w5 ⟨rfl, rfl⟩
 rename World => W5
 clear HMT HLV HW3
 go_wp2_with fail
 refine Rf.range_toldA (α := Nat × Nat × Bool) (σ := List (Nat × Nat × Bool)) rfl (enters_of Tryz.func106 (by kernel_rfl) rfl) (fun x => #[tnV x]) (fun _ => rfl)
  (fun p X => ∃ v, MkI W5 g (p.map (Da.oth ds)) v X)
  (fun c X => False)
  (fun p x p' X => p' = p ++ [x] /\ p' <+: Da.trn 0 n i)
  [] (fun p => p = Da.trn 0 n i) ?hI ?hIx ?hV ?h0 ?hseq ?round ?done ?stop
 case hI => exact fun s X X' ⟨v, h⟩ k => ⟨v, h.nc k⟩
 case hIx => exact fun c X X' h k => h
 case hV => exact fun s x s' X X' h k => h
 case h0 => exact ⟨_, HI0.out⟩
 case hseq =>
  intro l B Bx X hnc hi2 hB hk ht
  obtain ⟨v, hi2⟩ := hi2
  have hq5 := HQ5.out
  have hgq := HGQ.out
  refine (turns_seq n i (q + 1) (q + 1 + 1) HI.out (by omega) l (fun p X => (∃ v, MkI W5 g (p.map (Da.oth ds)) v X) /\ B X) Bx ?_ X (hi2.boxed hq5.2.1 (by omega)) (hi2.boxed hq5.2.2.1 (by omega)) ⟨⟨v, hi2⟩, hB⟩).mono ?_
  ·exact fun p x Y hp hY => (ht p x (p ++ [x]) Y hY.1 hY.2 ⟨rfl, hp⟩).mono fun e X' h => h.imp (fun h => ⟨h.1, h.2.1, h.2.2⟩) (fun h => ⟨h.1, h.2⟩)
  ·rintro e X' ⟨hv, (⟨h, hB⟩ | hx)⟩
   ·exact ⟨hv, .inl ⟨_, rfl, h, hB⟩⟩
   ·exact ⟨hv, .inr hx⟩
 case round =>
  rintro l p x p' X Z' To ⟨v, hI⟩ ⟨rfl, hp⟩ hsz HN' HR' HE'
  have hxin := HIN.out x (hp.subset (by simp))
  have hlen9 := hp.length_le
  rw [List.length_append, List.length_singleton, HLEN.out] at hlen9
  obtain ⟨tf, tt, tl⟩ := x
  dsimp only at hxin
  have HXO : Hid ((p ++ [(tf, tt, tl)]).map (Da.oth ds) = p.map (Da.oth ds) ++ [Da.oth ds (tf, tt, tl)]) := Lh (by simp)
  have HPL : Hid ((p.map (Da.oth ds)).length = p.length) := Lh (List.length_map _)
  have hel := Da.oth_length HALL.out (tf, tt, tl)
  have heq : Da.oth ds (tf, tt, tl) = Da.ov ((ds.drop tf).take (tt - tf)) := by unfold Da.oth; rw [List.drop_take]
  obtain ⟨e, he⟩ : ∃ e, Da.oth ds (tf, tt, tl) = e := ⟨_, rfl⟩
  rw [he] at HXO hel heq
  obtain ⟨E, hE⟩ : ∃ E, (bytesV e).toArray = E := ⟨_, rfl⟩
  have hEs : E.size = 32 := by rw [<- hE]; simp [hel]
  obtain ⟨D, hD⟩ : ∃ D, tnD (tf, tt, tl) = D := ⟨_, rfl⟩
  have hDs : D.size = 3 := by rw [<- hD]; rfl
  have HDS3 : Hid ((Tryz.prog.info? 127).map (·.size) = some D.size) := Lh (by rw [hDs]; kernel_rfl)
  have HDO : Hid (D.all (·.oneCell') = true) := Lh (by rw [<- hD]; simp [tnD, Value.oneCell'])
  have HDZ : Hid ((#[.int .i64 0, .int .i64 0, .bool false] : Array Value).size = D.size) := Lh (by rw [hDs]; rfl)
  have HD := Lh hD
  have HE := Lh hE
  have HEL := Lh hel
  have HEQ := Lh heq
  have HESZ := Lh hEs
  have HSZ := Lh hsz
  have HII := Lh hI
  have hpn : p.length <= 8 := by omega
  have hft : tf < tt := hxin.2.1
  have htn : tt <= n := by omega
  rw [show tnV (tf, tt, tl) = .agg D by unfold tnV; rw [hD]]
  clear hxin hlen9 hp hel heq he hE hEs hD hDs hsz hI
  gi_upto_region 6 with fail
  refine Rf.plain_round (by kernel_rfl) (by rintro ⟨a, w, h⟩; exact h) ?_
  (refine wpList_plain rfl (fun K hK => ?_); go_simp; refine hK _ _ ?_; clear hK K)
  refine wpList_store_row rfl 127 (.tmp 8) (.tmp 21) rfl Z'.heap.size D rfl rfl 127 #[.int .i64 0, .int .i64 0, .bool false] (World.alloc_heap_new Z' _) HDS3.out HDZ.out HDO.out ?_
  refine wpList_nil ?_
  refine ⟨(new12 _ _).trans (below_row (Nat.le_refl _)), fun Y hY hnew hsy => ?_⟩
  rw [HSZ.out]
  obtain ⟨pt, hpt⟩ : ∃ pt, X.heap.size = pt := ⟨_, rfl⟩
  have hY8 : Y.heap[pt]? = some (.cells D 127 (0, 0)) := by
   rw [<- hpt, hnew _ (Nat.le_refl _), <- HSZ.out]
   exact setRow_heap _ _ _ _ _ _ (World.alloc_heap_new Z' _)
  rw [hpt]
  have hJ := HII.out.later hY
  obtain ⟨hq5a, hq5b, hq5c, hdg5⟩ := HQ5.out
  have hgq := HGQ.out
  have hbq := hJ.boxed hq5a (by omega)
  have hbg := hJ.box
  have hdgY := hdg5.moved hJ.els (fun _ => HNE.out)
  have hBY := HB5.out.trans (hJ.els.below (n := w.heap.size) (fun k hk e => by have := HGW.out; omega) HB5.out.size)
  have hVY := HV.out.later hBY
  have hptY : pt < Y.heap.size := (aE.1 hY8).1
  have hd0 : Y.cell? ⟨pt, 0, none⟩ = some (.int .i64 (tf : Int)) := by unfold World.cell?; rw [hY8, <- HD.out]; rfl
  have hd1' : Y.cell? ⟨pt, 1, none⟩ = some (.int .i64 (tt : Int)) := by unfold World.cell?; rw [hY8, <- HD.out]; rfl
  have hlg := hJ.lt
  have hszY := hJ.els.size
  obtain ⟨C, hC⟩ : ∃ C : World -> Prop, (fun v : World => ∀ k, k = g ∨ k = q ∨ k = pt -> v.heap[k]? = Y.heap[k]?) = C := ⟨_, rfl⟩
  have HC1 : Hid (∀ w, (∀ k, k = g ∨ k = q ∨ k = pt -> w.heap[k]? = Y.heap[k]?) -> C w) := Lh fun w hw => by rw [<- hC]; exact hw
  have HC2 : Hid (∀ w, C w -> ∀ k, k = g ∨ k = q ∨ k = pt -> w.heap[k]? = Y.heap[k]?) := Lh fun w hw => by rw [<- hC] at hw; exact hw
  have HG6 : Hid (∀ w, C w -> w.cell? ⟨g, 0, none⟩ = some v) := Lh fun w hw => by rw [World.cell?_of_block (HC2.out w hw g (.inl rfl))]; exact hbg.cell
  have HG7 : Hid (∀ w, C w -> w.cell? ⟨q, 0, none⟩ = some (.slice ol n cl)) := Lh fun w hw => by rw [World.cell?_of_block (HC2.out w hw q (.inr (.inl rfl)))]; exact hbq.cell
  have HT0 : Hid (∀ w, C w -> w.cell? ⟨pt, 0, none⟩ = some (.int .i64 (tf : Int))) := Lh fun w hw => by rw [World.cell?_of_block (a := ⟨pt, 0, none⟩) (HC2.out w hw pt (.inr (.inr rfl)))]; exact hd0
  have HT1 : Hid (∀ w, C w -> w.cell? ⟨pt, 1, none⟩ = some (.int .i64 (tt : Int))) := Lh fun w hw => by rw [World.cell?_of_block (a := ⟨pt, 1, none⟩) (HC2.out w hw pt (.inr (.inr rfl)))]; exact hd1'
  obtain ⟨b1, off1, rfl, hb1lt, _⟩ := hdgY.at_ tf (by rw [HDL.out]; omega)
  have hpart := hdgY.part tf (tt - tf) (by rw [HDL.out]; omega) (cl - tf) (by omega) (by unfold maxLen; omega)
  have hdr : Below Y.heap.size Y Y.drew := Kit.dn' Y 1
  have OV := tover_any ((ds.drop tf).take (tt - tf)) _ (tt - tf) (cl - tf) (by rw [List.length_take, List.length_drop, HDL.out]; omega) Y.drew (hpart.later hdr) (hVY.later hdr) (by rw [List.length_take, List.length_drop, HDL.out]; omega)
  rw [<- HEQ.out, HE.out] at OV
  have hC0 : C Y.drew := HC1.out _ fun k hk => rfl
  have HJ := Lh hJ
  have HOV := Lh OV
  have HDR := Lh hdr
  have HY := Lh hY
  have HPT := Lh hptY
  have HXP := Lh hpt
  have hck : ¬ cl = tf := by omega
  have hlt2 : ¬ tt < tf := by omega
  have htc : tt <= cl := by omega
  clear hq5a hq5b hq5c hdg5 hgq hbq hbg hdgY hBY hVY hptY hd0 hd1' hlg hszY hC hb1lt hpart hdr OV hJ hY hnew hsy hY8 hpt
  gi_upto_region 7 with fail
  refine Rgt.round C (fun t => t == 10) (by kernel_rfl) (by kernel_rfl) (by rintro ⟨a, w, h⟩; exact h) ?_
  refine Rgt.take (i := 0) (x := v) rfl rfl (by kernel_rfl) (by kernel_rfl) (by kernel_rfl) (by kernel_rfl) (fun _ _ _ h => h) (Or.inl ⟨by kernel_rfl, fun w hw => by have hc := HG6.out w hw; (go_simp <;> with_reducible rfl)⟩) hC0 ?_
  go_simp
  refine Rgt.take (i := 1) (x := .slice (some ⟨b1, off1, none⟩) n cl) rfl rfl (by kernel_rfl) (by kernel_rfl) (by kernel_rfl) (by kernel_rfl) (fun _ _ _ h => h) (Or.inl ⟨by kernel_rfl, fun w hw => by have hc := HG7.out w hw; (go_simp <;> with_reducible rfl)⟩) hC0 ?_
  go_simp
  refine Rgt.take (i := 2) (x := .pointer (some ⟨pt, 0, none⟩)) rfl rfl (by kernel_rfl) (by kernel_rfl) (by kernel_rfl) (by kernel_rfl) (fun _ _ _ h => h) (Or.inl ⟨by kernel_rfl, fun w hw => by (go_simp <;> with_reducible rfl)⟩) hC0 ?_
  go_simp
  refine Rgt.take (i := 3) (x := .int .i64 (tf : Int)) rfl rfl (by kernel_rfl) (by kernel_rfl) (by kernel_rfl) (by kernel_rfl) (fun _ _ _ h => h) (Or.inl ⟨by kernel_rfl, fun w hw => by have hc := HT0.out w hw; (go_simp <;> with_reducible rfl)⟩) hC0 ?_
  go_simp
  refine Rgt.take (i := 4) (x := .pointer (some ⟨pt, 1, none⟩)) rfl rfl (by kernel_rfl) (by kernel_rfl) (by kernel_rfl) (by kernel_rfl) (fun _ _ _ h => h) (Or.inl ⟨by kernel_rfl, fun w hw => by (go_simp <;> with_reducible rfl)⟩) hC0 ?_
  go_simp
  refine Rgt.take (i := 5) (x := .int .i64 (tt : Int)) rfl rfl (by kernel_rfl) (by kernel_rfl) (by kernel_rfl) (by kernel_rfl) (fun _ _ _ h => h) (Or.inl ⟨by kernel_rfl, fun w hw => by have hc := HT1.out w hw; (go_simp <;> with_reducible rfl)⟩) hC0 ?_
  go_simp
  refine Rgt.take (i := 6) (x := .slice (some ⟨b1, off1 + tf * 32, none⟩) (tt - tf) (cl - tf)) rfl rfl (by kernel_rfl) (by kernel_rfl) (by kernel_rfl) (by kernel_rfl) (fun _ _ _ h => h) (Or.inl ⟨by kernel_rfl, fun w hw => by (go_simp <;> with_reducible rfl)⟩) hC0 ?_
  go_simp
  refine Rgt.ready (i := 7) (by kernel_rfl) rfl (by kernel_rfl) (fun K hK => ?_)
  go_simp
  refine HOV.out.mono ?_
  rintro e1 Y3 ⟨rfl, hb3⟩
  have hbY3 := Ks HDR.out hb3
  have hC3 : C Y3 := HC1.out _ fun k hk => hbY3.block k (by have := HPT.out; have := HJ.out.els.size; have := HJ.out.lt; have := HS5.out; omega)
  refine hK _ _ hC3 ?_
  clear hK K HOV
  have hbs := dg_slice_run (tS := 70) Tryz.underlying70 dgI_code E HESZ.out Y3
  have hba := new12 Y3 (.cells E 32)
  have hrow : (Y3.alloc (.cells E 32)).rangeAt Y3.heap.size 0 (bytesV e) := by rw [<- HE.out]; exact (Arr.made Y3 32 (bytesV e)).rng
  have hbY4 := Ks hbY3 hba
  have hJ4 := HJ.out.later hbY4
  obtain ⟨g2, cap2, Y5, hrun, hown2, hgr2, hat⟩ := dg_append_run (tS := 70) Tryz.underlying70 dgI_code 70 _ W5.heap.size v _ _ hJ4.own Y3.heap.size e HEL.out hrow (by rw [HPL.out]; omega) hJ4.els.size
  obtain ⟨hbx, hMk, hKO⟩ := HII.out.push (Ks HY.out hbY4) hown2 hgr2
  rw [HPL.out] at hrun hMk hKO
  rw [<- HXO.out] at hMk
  have hC4 : C (Y3.alloc (.cells E 32)) := HC1.out _ fun k hk => hbY4.block k (by have := HPT.out; have := HJ.out.els.size; have := HJ.out.lt; have := HS5.out; omega)
  have hC5 : C Y5 := HC1.out _ fun k hk => by
   have hk2 : k < Y.heap.size := by have := HPT.out; have := HJ.out.els.size; have := HJ.out.lt; have := HS5.out; omega
   rw [hgr2.block k (Nat.lt_of_lt_of_le hk2 hbY4.size) ?_]
   ·exact hbY4.block k hk2
   ·rcases hk with rfl | rfl | rfl
    ·exact hJ4.ne hJ4.lt
    ·exact hJ4.ne (by have := HS5.out; omega)
    ·intro e2
     obtain ⟨_, cur, h2⟩ := own_blk HII.out.own _ e2.symm
     have := (aE.1 h2).1
     have := HXP.out
     omega
  have hc3' := hbx.cell
  have hf3' := hbx.frozen
  have HRUN := Lh hrun
  have HBS := Lh hbs
  have HFI : Hid (KeepsOthers X (Y5.setCell ⟨g, 0, none⟩ (.slice (some ⟨g2, 0, none⟩) (p.length + 1) cap2)) /\ ∃ v, MkI W5 g ((p ++ [(tf, tt, tl)]).map (Da.oth ds)) v (Y5.setCell ⟨g, 0, none⟩ (.slice (some ⟨g2, 0, none⟩) (p.length + 1) cap2))) := Lh ⟨hKO, _, hMk⟩
  clear hb3 hbY3 hba hrow hbY4 hJ4 hrun hown2 hgr2 hat hbx hMk hKO hbs hC3
  refine Rgt.ready (i := 8) (by kernel_rfl) rfl (by kernel_rfl) (fun K hK => oper_slice 70 1 _ rfl #[(0, .agg E)] (by first | rfl | simp [Act.eval, Act.put]) _ _ HBS.out (hK _ _ hC4 ?_))
  clear hK K
  refine Rgt.ready (i := 9) (by kernel_rfl) rfl (by kernel_rfl) (fun K hK => oper_append (.tmp 22) (.tmp 30) 70 rfl _ _ rfl rfl _ _ HRUN.out (hK _ _ hC5 ?_))
  clear hK K
  go_simp
  refine Rgt.readyT (i := 10) (by kernel_rfl) rfl rfl (by kernel_rfl) (fun K hK => ?_)
  go_simp
  refine hK _ _ ?_
  clear hK K
  refine Rgt.done (by kernel_rfl) ?_ _
  exact HN'.out _ _ HFI.out.1 HFI.out.2
 case done =>
  rintro D' p X hD' rfl ⟨v, hI⟩ hK'
  have hown := hI.own
  rw [<- HPA.out, show ((Da.pa ds i).length) = m from (by rw [HPA.out, List.length_map, HLEN.out])] at hown
  have hc3 := hI.box.cell
  have hk : Below w.heap.size X (X.putObj D' (.deferred none)) := belowK_b (w := w) (Nat.le_refl _) X D' _ _ (by have := HB5.out.size; omega) hK' rfl rfl
  have hown2 : (X.putObj D' (.deferred none)).ownsRow W5.heap.size 32 32 v m (bytesV (Da.pa ds i).flatten) := (Rf.NC.put (B := 0) (.deferred none) (Nat.zero_le _) hK' rfl).owns hown
  obtain ⟨hnn, o', c', rfl, hdg⟩ := own_dg hown2 (Da.pa_all32 HALL.out i)
  clear hnn
  have HDG := Lh hdg
  have HBW := Lh ((HB5.out.trans (hI.els.below (n := w.heap.size) (fun k hk e => by have := HGW.out; omega) HB5.out.size)).trans hk)
  clear hown hk hown2 hdg hI
  go_wp2_with fail
  refine Rf.leaves hK' (results_tmp2 rfl _ _ _) ?_
  exact ⟨o', c', rfl, HDG.out, HBW.out⟩
 case stop => exact fun D c X hD h => h.elim
end Go.Proofs.YtffheegeaghfjaaGreatDoor
namespace Go.Proofs.YtffheegeaghfjaaGreatDoor
open Go.RowKit
attribute [local go_sem] Oper.semAt_some
theorem box_block {W W' : World} {g : Nat} {t : TypeId} {v : Value} (h : Boxed W g t v) (hk : W'.heap[g]? = W.heap[g]?) : Boxed W' g t v := by
 unfold Boxed at *
 rw [hk]
 exact h
theorem box_ne {W : World} {p q : Nat} {t u : TypeId} {v x : Value} (h : Boxed W p t v) (k : Boxed W q u x) (hne : t ≠ u) : p ≠ q := fun e => by
 subst e
 unfold Boxed at *
 rw [h] at k
 cases k
 exact hne rfl
theorem tinn_any (t : Nat × Nat × Bool) (own other : List UInt8) (ho : own.length = 32) (hd : other.length = 32) (w : World) :
    Calls Tryz.prog 139 #[tnV t, .agg (bytesV own).toArray, .agg (bytesV other).toArray] w fun e w' => ∃ g cap, e = .returned (.slice (some ⟨g, 0, none⟩) 65 cap) /\ w.heap.size <= g /\ Buf w' g cap (Da.inn t.2.2 own other) /\ Below w.heap.size w w' := by
 obtain ⟨tf, tt, tl⟩ := t
 obtain ⟨D, hD⟩ : ∃ D, tnD (tf, tt, tl) = D := ⟨_, rfl⟩
 obtain ⟨A, hA⟩ : ∃ A, (bytesV own).toArray = A := ⟨_, rfl⟩
 obtain ⟨B, hB⟩ : ∃ B, (bytesV other).toArray = B := ⟨_, rfl⟩
 obtain ⟨p, hp⟩ : ∃ p, w.heap.size = p := ⟨_, rfl⟩
 obtain ⟨W1, hW1⟩ : ∃ W1, w.alloc (.cells D 127) = W1 := ⟨_, rfl⟩
 have hs1 : W1.heap.size = p + 1 := by rw [<- hW1, World.size_alloc, hp]
 obtain ⟨W2, hW2⟩ : ∃ W2, W1.alloc (.cells A 32) = W2 := ⟨_, rfl⟩
 have hs2 : W2.heap.size = p + 1 + 1 := by rw [<- hW2, World.size_alloc, hs1]
 obtain ⟨W3, hW3⟩ : ∃ W3, W2.alloc (.cells B 32) = W3 := ⟨_, rfl⟩
 have hb1 : Below w.heap.size w W1 := by rw [<- hW1]; exact new12 _ _
 have hb2 : Below W1.heap.size W1 W2 := by rw [<- hW2]; exact new12 _ _
 have hb3 : Below W2.heap.size W2 W3 := by rw [<- hW3]; exact new12 _ _
 have h1 : W3.heap[p]? = some (.cells D 127 (0, 0)) := by
  rw [hb3.block p (by omega), hb2.block p (by omega), <- hW1, <- hp]
  exact World.alloc_heap_new w _
 have h2 : W3.heap[p + 1]? = some (.cells A 32 (0, 0)) := by
  rw [hb3.block (p + 1) (by omega), <- hW2, <- hs1]
  exact World.alloc_heap_new W1 _
 have h3 : W3.heap[p + 1 + 1]? = some (.cells B 32 (0, 0)) := by
  rw [<- hW3, <- hs2]
  exact World.alloc_heap_new W2 _
 have hAs : A.size = 32 := by rw [<- hA]; simp [ho]
 have hBs : B.size = 32 := by rw [<- hB]; simp [hd]
 have HAS : Hid ((Tryz.prog.info? 32).map (·.size) = some A.size) := Lh (by rw [dg_info, hAs])
 have HBS : Hid ((Tryz.prog.info? 32).map (·.size) = some B.size) := Lh (by rw [dg_info, hBs])
 have hc : W3.cell? ⟨p, 2, none⟩ = some (.bool tl) := by unfold World.cell?; rw [h1, <- hD]; rfl
 have HB3 := Lh (Ks (Ks hb1 hb2) hb3)
 have TL := tinner_any other own hd ho W3
 have TR := tinner_any own other ho hd W3
 rw [hA, hB] at TL TR ⊢
 have HTL := Lh TL
 have HTR := Lh TR
 have H2 := Lh h2
 have H3 := Lh h3
 have HW1 := Lh hW1
 have HW2 := Lh hW2
 have HW3 := Lh hW3
 have HP := Lh hp
 have HS1 := Lh hs1
 have HS2 := Lh hs2
 unfold tnV
 rw [hD]
 clear TL TR h1 h2 h3 hb1 hb2 hb3 hW1 hW2 hW3 hp hs1 hs2 hA hB hD hAs hBs
 go_enter Tryz.func139, Tryz.ntmps139
 go_upto_region 1 with fail
 rw [HW1.out, HW2.out, HW3.out, HP.out]
 clear HW1 HW2 HW3
 cases tl with
 | true =>
  go_upto_region 2 with fail
  apply wp_region_lit
  refine wpList_load_row rfl 32 (.tmp 5) rfl (p + 1 + 1) rfl 32 B (0, 0) _ H3.out dg_under rfl HBS.out ?_
  refine wpList_load_row rfl 32 (.tmp 4) rfl (p + 1) rfl 32 A (0, 0) _ H2.out dg_under rfl HAS.out ?_
  (refine wpList_plain rfl (fun K hK => ?_); go_simp)
  refine HTL.out.mono ?_
  rintro e W4 ⟨g, cap, rfl, hg, hbuf, hb4⟩
  refine hK _ _ ?_
  clear hK K
  have HBF := Lh hbuf
  have HG := Lh (Nat.le_trans HB3.out.size hg)
  have HB4 := Lh (Ks HB3.out hb4)
  clear hg hbuf hb4
  go_wp2_with fail
  go_ret
  exact ⟨g, cap, rfl, HG.out, HBF.out, HB4.out⟩
 | false =>
  go_upto_region 3 with fail
  apply wp_region_lit
  refine wpList_load_row rfl 32 (.tmp 4) rfl (p + 1) rfl 32 A (0, 0) _ H2.out dg_under rfl HAS.out ?_
  refine wpList_load_row rfl 32 (.tmp 5) rfl (p + 1 + 1) rfl 32 B (0, 0) _ H3.out dg_under rfl HBS.out ?_
  (refine wpList_plain rfl (fun K hK => ?_); go_simp)
  refine HTR.out.mono ?_
  rintro e W4 ⟨g, cap, rfl, hg, hbuf, hb4⟩
  refine hK _ _ ?_
  clear hK K
  have HBF := Lh hbuf
  have HG := Lh (Nat.le_trans HB3.out.size hg)
  have HB4 := Lh (Ks HB3.out hb4)
  clear hg hbuf hb4
  go_wp2_with fail
  go_ret
  exact ⟨g, cap, rfl, HG.out, HBF.out, HB4.out⟩
theorem mmade_any (n i : Int) (ol op : Option Addr) (L cl m cp : Nat) (w : World) :
    Calls Tryz.prog 109 #[.int .i64 n, .int .i64 i, .slice ol L cl, .slice op m cp] w fun e w' =>
      e = .returned (.func (.func 137) #[] #[.pointer (some ⟨w.heap.size + 1 + 1, 0, none⟩), .pointer (some ⟨w.heap.size + 1 + 1 + 1, 0, none⟩), .pointer (some ⟨w.heap.size, 0, none⟩), .pointer (some ⟨w.heap.size + 1, 0, none⟩)]) /\
      w' = (((w.alloc (.cells #[.int .i64 n] 3)).alloc (.cells #[.int .i64 i] 3)).alloc (.cells #[.slice ol L cl] 22)).alloc (.cells #[.slice op m cp] 70) := by
 have hmf := @makes Tryz.prog
 go_enter Tryz.func109, Tryz.ntmps109
 go_wp2
 go_ret
 simp
end Go.Proofs.YtffheegeaghfjaaGreatDoor
namespace Go.Proofs.YtffheegeaghfjaaGreatDoor
open Go.RowKit
attribute [local go_sem] Oper.semAt_some
theorem turns_gives (n i q1 q2 : Nat) (hi : i < n) (hn : n <= 1000000) : Rf.GivesM Tryz.prog 106 #[.pointer (some ⟨q1, 0, none⟩), .pointer (some ⟨q2, 0, none⟩)] (fun x => #[tnV x])
    (fun X => Boxed X q1 3 (.int .i64 (n : Int)) /\ Boxed X q2 3 (.int .i64 (i : Int))) (fun M p x p' X => p' = p ++ [x] /\ p' <+: Da.trn 0 n i) [] (fun p => p = Da.trn 0 n i) := by
 intro l X0 I Bx O0 hl hO hP hI hBx hT h0
 have h00 := h0 (fun _ => False) (fun k h => h.elim)
 have hp := hP _ _ _ _ h00
 refine (turns_seq n i q1 q2 hi hn l (fun p X => ∃ O, (∀ k, O k -> k < X.heap.size) /\ X0.heap.size <= X.heap.size /\ I O (fun _ => False) p X) (fun X => ∃ O, Bx O (fun _ => False) X) ?_ X0 hp.1 hp.2 ⟨O0, hO, Nat.le_refl _, h00⟩).mono ?_
 ·rintro p x X hpx ⟨O, hO, hs, hi⟩
  refine (hT O (fun _ => False) p x (p ++ [x]) X (fun k h => h.elim) (fun k h => h.elim) hO hs hi ⟨rfl, hpx⟩).mono ?_
  rintro e X' ⟨O', (⟨rfl, h⟩ | ⟨rfl, h⟩), hf⟩
  ·exact .inl ⟨rfl, O', fun k hk => (hf.ext k hk).1, Nat.le_trans hs hf.size, h⟩
  ·exact .inr ⟨rfl, O', h⟩
 ·rintro e X ⟨hv, (⟨O, hol, _, h⟩ | ⟨O, h⟩)⟩
  ·exact ⟨hv, .inl ⟨O, fun _ => False, _, fun k h => h.elim, fun k h => h.elim, hol, rfl, h⟩⟩
  ·exact ⟨hv, .inr ⟨O, fun _ => False, fun k h => h.elim, h⟩⟩
structure Md1 (W1 : World) (leaf : List UInt8) (vp : Value) (p6 p7 gb cb : Nat) (X : World) : Prop where
 b6 : Boxed X p6 22 (.slice (some ⟨gb, 0, none⟩) (leaf.length + 1) cb)
 b7 : Boxed X p7 70 vp
 buf : Buf X gb cb (0 :: leaf)
 below : Below W1.heap.size W1 X
 g6 : W1.heap.size <= p6
 g7 : W1.heap.size <= p7
 gg : W1.heap.size <= gb
structure MdE where
 leaf : List UInt8
 ps : List (List UInt8)
 us : List Bool
 p5 : Nat
 p6 : Nat
 p7 : Nat
 q : Nat
 D : Nat
 n : Nat
 i : Nat
 m : Nat
 cp : Nat
 op : Option Addr
 yf : Value
structure MdE.ok (E : MdE) : Prop where
 h6 : E.p5 < E.p6
 h7 : E.p5 < E.p7
 q6 : E.p6 < E.q
 q7 : E.p7 < E.q
 qd : E.q + 2 = E.D
def mo (E : MdE) (M : Rf.Blk) : Rf.Blk := fun k => M k ∨ k = E.p6 ∨ k = E.p7 ∨ k = E.D ∨ k = E.D + 1
theorem mo_new {E : MdE} (hE : E.ok) {M : Rf.Blk} {B : Nat} (hM : ∀ k, M k -> E.D + 2 <= k) (hB : B <= E.p5) : ∀ k, mo E M k -> B <= k := fun k hk => by
 have e1 := hE.h6
 have e2 := hE.h7
 have e3 := hE.q6
 have e5 := hE.qd
 rcases hk with h | h | h | h | h
 ·have := hM k h; omega
 ·omega
 ·omega
 ·omega
 ·omega
structure MdB (E : MdE) (O M : Rf.Blk) (s : Nat) (Oo : Rf.Blk) (gb cb : Nat) (o' : Option Addr) (c' : Nat) (X : World) : Prop where
 eo : ∀ k, O k ↔ Oo k ∨ k = E.p6 ∨ k = E.p7
 lo : ∀ k, Oo k -> k < E.p5 ∨ E.D + 2 <= k
 ol : ∀ k, Oo k -> k < X.heap.size
 b5 : Boxed X E.p5 177 E.yf
 b6 : Boxed X E.p6 22 (.slice (some ⟨gb, 0, none⟩) (Da.mbs13 (0 :: E.leaf) E.us E.ps s).length cb)
 b7 : Boxed X E.p7 70 (.slice o' (E.m - s) c')
 bn : Boxed X E.q 3 (.int .i64 (E.n : Int))
 bi : Boxed X (E.q + 1) 3 (.int .i64 (E.i : Int))
 buf : Buf X gb cb (Da.mbs13 (0 :: E.leaf) E.us E.ps s)
 og : ¬ Oo gb
 mg : ¬ mo E M gb
 rs : ∀ Y, DgIs Y E.op E.ps E.cp -> DgIs Y o' (E.ps.drop s) c'
theorem MdB.move {E : MdE} {O M O' : Rf.Blk} {s : Nat} {Oo Oo' : Rf.Blk} {gb cb c' : Nat} {o' : Option Addr} {X X' : World} (h : MdB E O M s Oo gb cb o' c' X) (hs : X.heap.size <= X'.heap.size)
    (hk : ∀ k, k = E.p5 ∨ k = E.p6 ∨ k = E.p7 ∨ k = E.q ∨ k = E.q + 1 ∨ k = gb -> X'.heap[k]? = X.heap[k]?) (eo : ∀ k, O' k ↔ Oo' k ∨ k = E.p6 ∨ k = E.p7) (lo : ∀ k, Oo' k -> k < E.p5 ∨ E.D + 2 <= k) (ol : ∀ k, Oo' k -> k < X'.heap.size) (og : ¬ Oo' gb) : MdB E O' M s Oo' gb cb o' c' X' :=
 ⟨eo, lo, ol, box_block h.b5 (hk _ (by simp)), box_block h.b6 (hk _ (by simp)), box_block h.b7 (hk _ (by simp)), box_block h.bn (hk _ (by simp)), box_block h.bi (hk _ (by simp)), h.buf.block (hk _ (by simp)), og, h.mg, h.rs⟩
theorem MdB.mut {E : MdE} (hE : E.ok) {O M : Rf.Blk} {s : Nat} {Oo : Rf.Blk} {gb cb c' : Nat} {o' : Option Addr} {X X' : World} (h : MdB E O M s Oo gb cb o' c' X) (hM : ∀ k, M k -> E.D + 2 <= k) (k : Rf.Mut (Rf.own2 E.D M) X X') : MdB E O M s Oo gb cb o' c' X' := by
 have e1 := hE.h6
 have e2 := hE.h7
 have e3 := hE.q6
 have e4 := hE.q7
 have e5 := hE.qd
 have hn : ∀ k, k < E.D -> ¬ Rf.own2 E.D M k := fun k hk hh => by
  rcases hh with h1 | h1 | h1
  ·have := hM k h1; omega
  ·omega
  ·omega
 refine h.move k.size (fun j hj => ?_) h.eo h.lo (fun j hj => Nat.lt_of_lt_of_le (h.ol j hj) k.size) h.og
 rcases hj with rfl | rfl | rfl | rfl | rfl | rfl
 ·exact k.same _ h.b5.lt (hn _ (by omega))
 ·exact k.same _ h.b6.lt (hn _ (by omega))
 ·exact k.same _ h.b7.lt (hn _ (by omega))
 ·exact k.same _ h.bn.lt (hn _ (by omega))
 ·exact k.same _ h.bi.lt (hn _ (by omega))
 ·refine k.same _ h.buf.lt fun hh => h.mg ?_
  rcases hh with h1 | h1 | h1
  ·exact .inl h1
  ·exact .inr (.inr (.inr (.inl h1)))
  ·exact .inr (.inr (.inr (.inr h1)))
theorem MdB.below {E : MdE} {O M : Rf.Blk} {s : Nat} {Oo : Rf.Blk} {gb cb c' : Nat} {o' : Option Addr} {X X' : World} (h : MdB E O M s Oo gb cb o' c' X) (hb : Below X.heap.size X X') : MdB E O M s Oo gb cb o' c' X' := by
 refine h.move hb.size (fun j hj => hb.block j ?_) h.eo h.lo (fun j hj => Nat.lt_of_lt_of_le (h.ol j hj) hb.size) h.og
 rcases hj with rfl | rfl | rfl | rfl | rfl | rfl
 ·exact h.b5.lt
 ·exact h.b6.lt
 ·exact h.b7.lt
 ·exact h.bn.lt
 ·exact h.bi.lt
 ·exact h.buf.lt
theorem MdB.fr {E : MdE} (hE : E.ok) {O M : Rf.Blk} {s : Nat} {Oo Oo' : Rf.Blk} {gb cb c' : Nat} {o' : Option Addr} {X X' : World} (h : MdB E O M s Oo gb cb o' c' X) (hD : E.D + 2 <= X.heap.size) (hf : Rf.Fr Oo X Oo' X') : MdB E (fun k => Oo' k ∨ k = E.p6 ∨ k = E.p7) M s Oo' gb cb o' c' X' := by
 have e1 := hE.h6
 have e2 := hE.h7
 have e3 := hE.q6
 have e4 := hE.q7
 have e5 := hE.qd
 have hn : ∀ k, E.p5 <= k -> k < E.D + 2 -> ¬ Oo k := fun k h1 h2 hh => by
  have := h.lo k hh
  omega
 refine h.move hf.size (fun j hj => ?_) (fun _ => Iff.rfl) (fun k hk => ?_) (fun k hk => (hf.ext k hk).1) (fun hk => ?_)
 ·rcases hj with rfl | rfl | rfl | rfl | rfl | rfl
  ·exact hf.same _ h.b5.lt (hn _ (by omega) (by omega))
  ·exact hf.same _ h.b6.lt (hn _ (by omega) (by omega))
  ·exact hf.same _ h.b7.lt (hn _ (by omega) (by omega))
  ·exact hf.same _ h.bn.lt (hn _ (by omega) (by omega))
  ·exact hf.same _ h.bi.lt (hn _ (by omega) (by omega))
  ·exact hf.same _ h.buf.lt h.og
 ·rcases (hf.ext k hk).2 with h1 | h1
  ·exact h.lo k h1
  ·exact .inr (by omega)
 ·rcases (hf.ext gb hk).2 with h1 | h1
  ·exact h.og h1
  ·have := h.buf.lt; omega
theorem Da.mbs13_len (b : List UInt8) (us : List Bool) (ps : List (List UInt8)) (s : Nat) (h : (bi ps s).length = 32) : (Da.mbs13 b us ps (s + 1)).length = 65 := by
 rw [Da.mbs13, Da.inn]
 split <;> simp [h, Da.sha_length]
theorem Md1.of {W1 V : World} {leaf : List UInt8} {vp : Value} {p6 p7 gb cb : Nat} (h6 : Boxed V p6 22 (.slice none 0 0)) (h7 : Boxed V p7 70 (.slice none 0 0)) (hb : Buf V gb cb (0 :: leaf)) (hB : Below W1.heap.size W1 V)
    (g6 : W1.heap.size <= p6) (g7 : W1.heap.size <= p7) (gg : W1.heap.size <= gb) :
    Boxed (V.setCell ⟨p6, 0, none⟩ (.slice (some ⟨gb, 0, none⟩) (leaf.length + 1) cb)) p7 70 (.slice none 0 0) /\
    Md1 W1 leaf vp p6 p7 gb cb ((V.setCell ⟨p6, 0, none⟩ (.slice (some ⟨gb, 0, none⟩) (leaf.length + 1) cb)).setCell ⟨p7, 0, none⟩ vp) := by
 have hne := box_ne h6 h7 (by decide)
 have hn6 := hb.ne h6 (by decide)
 have hn7 := hb.ne h7 (by decide)
 have k6 := h6.set (.slice (some ⟨gb, 0, none⟩) (leaf.length + 1) cb)
 have k7 := h7.other (B' := p6) (fun e => hne e.symm) (.slice (some ⟨gb, 0, none⟩) (leaf.length + 1) cb)
 have kb : Buf (V.setCell ⟨p6, 0, none⟩ (.slice (some ⟨gb, 0, none⟩) (leaf.length + 1) cb)) gb cb (0 :: leaf) := hb.block ((grownBy_setCell' V p6 _).block gb hb.lt (by simp; exact hn6))
 refine ⟨k7, k6.other hne _, k7.set _, kb.block ((grownBy_setCell' _ p7 _).block gb kb.lt (by simp; exact hn7)), ?_, g6, g7, gg⟩
 exact (hB.setCell (p := ⟨p6, 0, none⟩) g6 _).setCell (p := ⟨p7, 0, none⟩) g7 _
theorem made_gives (leaf : List UInt8) (ol : Option Addr) (cl : Nat) (ps : List (List UInt8)) (op : Option Addr) (m cp n i QL QP QN QI : Nat) (hm : ps.length = m) (hu : (Da.ups n i).length = m) (hi : i < n) (h5 : n <= 512) (hl5 : leaf.length <= 8900) :
    Rf.GivesM Tryz.prog 137 #[.pointer (some ⟨QL, 0, none⟩), .pointer (some ⟨QP, 0, none⟩), .pointer (some ⟨QN, 0, none⟩), .pointer (some ⟨QI, 0, none⟩)] (fun x : Nat × Nat × List UInt8 => #[.slice (some ⟨x.1, 0, none⟩) x.2.2.length x.2.1])
      (fun X => Boxed X QL 22 (.slice ol leaf.length cl) /\ Boxed X QP 70 (.slice op m cp) /\ Boxed X QN 3 (.int .i64 (n : Int)) /\ Boxed X QI 3 (.int .i64 (i : Int)) /\ RowIs X ol (bytesV leaf) cl /\ DgIs X op ps cp /\ Cds X)
      (fun M s x s' X => s' = s + 1 /\ s <= m /\ x.2.2 = Da.mbs13 (0 :: leaf) (Da.ups n i) ps s /\ Buf X x.1 x.2.1 x.2.2 /\ ¬ M x.1) 0 (fun s => s = m + 1) := by
 intro l X0 I Bx O0 hl hO hP hI hBx hT h0
 obtain ⟨p5, hp5⟩ : ∃ p, X0.heap.size = p := ⟨_, rfl⟩
 have hPre := hP _ _ _ _ (h0 (fun _ => False) (fun k h => h.elim))
 obtain ⟨W1, hW1⟩ : ∃ W1, X0.alloc (.cells #[.func (.yield l) #[] #[]] 177) = W1 := ⟨_, rfl⟩
 have hb1 : Below X0.heap.size X0 W1 := by rw [<- hW1]; exact new12 _ _
 have hX5 : Boxed W1 p5 177 (.func (.yield l) #[] #[]) := by rw [<- hW1, <- hp5]; exact Boxed.new _ _ _
 have hs1 : W1.heap.size = p5 + 1 := by rw [<- hW1, World.size_alloc, hp5]
 obtain ⟨hQL, hQP, hQN, hQI, hRL, hDP, hCd⟩ := hPre
 obtain ⟨L, hLL⟩ : ∃ L, leaf.length = L := ⟨_, rfl⟩
 obtain ⟨C, hC⟩ : ∃ C : World -> Prop, (fun v => Below W1.heap.size W1 v) = C := ⟨_, rfl⟩
 have HC1 : Hid (∀ v, Below W1.heap.size W1 v -> C v) := Lh fun v hv => by rw [<- hC]; exact hv
 have HC2 : Hid (∀ v, C v -> Below W1.heap.size W1 v) := Lh fun v hv => by rw [<- hC] at hv; exact hv
 have hQL1 := boxed_later hQL hb1
 have hQP1 := boxed_later hQP hb1
 have HCL : Hid (∀ w, C w -> w.cell? ⟨QL, 0, none⟩ = some (.slice ol L cl)) := Lh fun w hw => by rw [<- hLL]; exact (boxed_later hQL1 (HC2.out w hw)).cell
 have HCP : Hid (∀ w, C w -> w.cell? ⟨QP, 0, none⟩ = some (.slice op m cp)) := Lh fun w hw => (boxed_later hQP1 (HC2.out w hw)).cell
 have HOU : Hid (∀ v, Below W1.heap.size W1 v -> Calls Tryz.prog 138 #[.slice ol L cl] v fun e w' => ∃ g cap, e = .returned (.slice (some ⟨g, 0, none⟩) (L + 1) cap) /\ v.heap.size <= g /\ Buf w' g cap (0 :: leaf) /\ Below v.heap.size v w') := Lh fun v hv => by
  have := touter_any leaf ol cl v ((hRL.later hb1).later hv) (by omega)
  rw [hLL] at this
  exact this
 have HB1 := Lh hb1
 have HP5 := Lh hp5
 have HW1 := Lh hW1
 have HX5 := Lh hX5
 have HS1 := Lh hs1
 have HM := Lh hm
 have HU := Lh hu
 have HI' := Lh hi
 have HH5 := Lh h5
 have HLL := Lh hLL
 have HL := Lh hl
 have HO := Lh hO
 have HPP := Lh hP
 have HII := Lh hI
 have HBX := Lh hBx
 have HT := Lh hT
 have H00 := Lh h0
 have HQS := Lh (show QL < X0.heap.size /\ QP < X0.heap.size /\ QN < X0.heap.size /\ QI < X0.heap.size from ⟨hQL.lt, hQP.lt, hQN.lt, hQI.lt⟩)
 have hdm : m <= 9 := by rw [<- hu]; exact Da.ups_nine h5 i
 clear hb1 hp5 hW1 hX5 hs1 hm hu hi hLL hl hO hP hI hBx hT h0 hQL hQP hQN hQI hRL hDP hCd hQL1 hQP1 hC
 refine Rf.calls_marks Tryz.func137 rfl ?_
 simp only [Tryz.ntmps137, List.size_toArray, List.length_cons, List.length_nil, Nat.reduceAdd, Nat.reduceSub, Array.replicate_succ, Array.replicate_zero, List.push_toArray, List.append_toArray, List.nil_append, List.cons_append]
 go_upto_region 1 with fail
 rw [HW1.out, HP5.out]
 clear HW1
 refine Code.wp_mono (Q := fun e b' v => e = .normal /\ ∃ p6 p7 gb cb, Md1 W1 leaf (.slice op m cp) p6 p7 gb cb v /\ b' = { tmps := #[.func (.yield l) #[] #[], .pointer (some ⟨QL, 0, none⟩), .pointer (some ⟨QP, 0, none⟩), .pointer (some ⟨QN, 0, none⟩), .pointer (some ⟨QI, 0, none⟩), .pointer (some ⟨p5, 0, none⟩), .pointer (some ⟨p6, 0, none⟩), .pointer (some ⟨p7, 0, none⟩), undef, .slice ol L cl, .slice (some ⟨gb, 0, none⟩) (L + 1) cb, .slice op m cp, undef, undef, undef, undef, undef, undef, undef, undef, undef, undef, undef, undef, undef, undef, undef, undef, undef, undef, undef, undef, undef], defers := [] }) ?rest ?reg
 case reg =>
  refine Rgt.region C (fun _ => false) (by kernel_rfl) ?_
  have hC0 : C W1.drew := HC1.out _ (Kit.dn' W1 1)
  have HBL : Hid (Below W1.heap.size W1 W1.drew) := Lh (Kit.dn' W1 1)
  refine Rgt.take (i := 0) (x := .slice ol L cl) rfl rfl (by kernel_rfl) (by kernel_rfl) (by kernel_rfl) (by kernel_rfl) (fun _ _ _ h => (by cases h.1)) (Or.inl ⟨by kernel_rfl, fun w hw => by have hc := HCL.out w hw; (go_simp <;> with_reducible rfl)⟩) hC0 ?_
  go_simp
  refine Rgt.take (i := 2) (x := .slice op m cp) rfl rfl (by kernel_rfl) (by kernel_rfl) (by kernel_rfl) (by kernel_rfl) (fun _ _ _ h => (by cases h.1)) (Or.inl ⟨by kernel_rfl, fun w hw => by have hc := HCP.out w hw; (go_simp <;> with_reducible rfl)⟩) hC0 ?_
  go_simp
  obtain ⟨V0, hV⟩ : ∃ V, W1.drew = V := ⟨_, rfl⟩
  rw [hV] at HBL ⊢
  clear hV hC0
  refine Rgt.ready3 (i := 1) (j := 3) (k := 4) (by kernel_rfl) rfl rfl rfl (by kernel_rfl) (by kernel_rfl) (by kernel_rfl) (fun K hK => ?_) (fun K hK => ?_) (fun K hK => ?_)
  ·go_simp
   refine (HOU.out _ HBL.out).mono ?_
   rintro e V1 ⟨gb, cb, rfl, hgb, hbuf, hb⟩
   refine hK _ _ (HC1.out _ (Ks HBL.out hb)) ?_
   clear hK K
   have HGB := Lh (Nat.le_trans HBL.out.size hgb)
   have HBUF := Lh hbuf
   have HBL := Lh (Ks HBL.out hb)
   clear hb hbuf hgb
   refine Rgt.ready2 (i := 3) (j := 4) (by kernel_rfl) rfl rfl (by kernel_rfl) (by kernel_rfl) (fun K hK => ?_) (fun K hK => ?_)
   ·go_simp
    have hb := new12 V1 (.cells #[.slice none 0 0] 22)
    refine hK _ _ (HC1.out _ (Ks HBL.out hb)) ?_
    clear hK K
    obtain ⟨p6, hp6⟩ : ∃ p, V1.heap.size = p := ⟨_, rfl⟩
    have hx : Boxed (V1.alloc (.cells #[.slice none 0 0] 22)) p6 22 (.slice none 0 0) := by rw [<- hp6]; exact Boxed.new _ _ _
    have HG6 : Hid (W1.heap.size <= p6) := Lh (by rw [<- hp6]; exact HBL.out.size)
    obtain ⟨V2, hV2⟩ : ∃ U, V1.alloc (.cells #[.slice none 0 0] 22) = U := ⟨_, rfl⟩
    rw [hV2] at hb hx ⊢
    rw [hp6]
    have H6 := Lh hx
    have HBUF := Lh (HBUF.out.later hb)
    have HBL := Lh (Ks HBL.out hb)
    clear hb hx hV2 hp6
    refine Rgt.ready (i := 4) (by kernel_rfl) rfl (by kernel_rfl) (fun K hK => ?_)
    go_simp
    have hb := new12 V2 (.cells #[.slice none 0 0] 70)
    refine hK _ _ (HC1.out _ (Ks HBL.out hb)) ?_
    clear hK K
    obtain ⟨p7, hp7⟩ : ∃ p, V2.heap.size = p := ⟨_, rfl⟩
    have hx : Boxed (V2.alloc (.cells #[.slice none 0 0] 70)) p7 70 (.slice none 0 0) := by rw [<- hp7]; exact Boxed.new _ _ _
    have HG7 : Hid (W1.heap.size <= p7) := Lh (by rw [<- hp7]; exact HBL.out.size)
    obtain ⟨V3, hV2⟩ : ∃ U, V2.alloc (.cells #[.slice none 0 0] 70) = U := ⟨_, rfl⟩
    rw [hV2] at hb hx ⊢
    rw [hp7]
    have H7 := Lh hx
    have HBUF := Lh (HBUF.out.later hb)
    have H6 := Lh (boxed_later H6.out hb)
    have HBL := Lh (Ks HBL.out hb)
    clear hb hx hV2 hp7
    obtain ⟨k7, HM⟩ := Md1.of (vp := .slice op m cp) H6.out H7.out HBUF.out HBL.out HG6.out HG7.out HGB.out
    have hc6 := H6.out.cell
    have hf6 := H6.out.frozen
    have hc7 := k7.cell
    have hf7 := k7.frozen
    rw [HLL.out] at hc7 hf7 HM
    have HMM := Lh HM
    clear k7 HM
    refine Rgt.ready (i := 5) (by kernel_rfl) rfl (by kernel_rfl) (fun K hK => ?_)
    go_simp
    refine hK _ _ (HC1.out _ (HBL.out.setCell (p := ⟨p6, 0, none⟩) HG6.out _)) ?_
    clear hK K
    refine Rgt.ready (i := 6) (by kernel_rfl) rfl (by kernel_rfl) (fun K hK => ?_)
    go_simp
    refine hK _ _ (HC1.out _ HMM.out.below) ?_
    clear hK K
    refine Rgt.done (by kernel_rfl) ?_ _
    exact ⟨rfl, p6, p7, gb, cb, HMM.out, rfl⟩
   ·go_simp
    have hb := new12 V1 (.cells #[.slice none 0 0] 70)
    refine hK _ _ (HC1.out _ (Ks HBL.out hb)) ?_
    clear hK K
    obtain ⟨p7, hp7⟩ : ∃ p, V1.heap.size = p := ⟨_, rfl⟩
    have hx : Boxed (V1.alloc (.cells #[.slice none 0 0] 70)) p7 70 (.slice none 0 0) := by rw [<- hp7]; exact Boxed.new _ _ _
    have HG7 : Hid (W1.heap.size <= p7) := Lh (by rw [<- hp7]; exact HBL.out.size)
    obtain ⟨V2, hV2⟩ : ∃ U, V1.alloc (.cells #[.slice none 0 0] 70) = U := ⟨_, rfl⟩
    rw [hV2] at hb hx ⊢
    rw [hp7]
    have H7 := Lh hx
    have HBUF := Lh (HBUF.out.later hb)
    have HBL := Lh (Ks HBL.out hb)
    clear hb hx hV2 hp7
    refine Rgt.ready (i := 3) (by kernel_rfl) rfl (by kernel_rfl) (fun K hK => ?_)
    go_simp
    have hb := new12 V2 (.cells #[.slice none 0 0] 22)
    refine hK _ _ (HC1.out _ (Ks HBL.out hb)) ?_
    clear hK K
    obtain ⟨p6, hp6⟩ : ∃ p, V2.heap.size = p := ⟨_, rfl⟩
    have hx : Boxed (V2.alloc (.cells #[.slice none 0 0] 22)) p6 22 (.slice none 0 0) := by rw [<- hp6]; exact Boxed.new _ _ _
    have HG6 : Hid (W1.heap.size <= p6) := Lh (by rw [<- hp6]; exact HBL.out.size)
    obtain ⟨V3, hV2⟩ : ∃ U, V2.alloc (.cells #[.slice none 0 0] 22) = U := ⟨_, rfl⟩
    rw [hV2] at hb hx ⊢
    rw [hp6]
    have H6 := Lh hx
    have HBUF := Lh (HBUF.out.later hb)
    have H7 := Lh (boxed_later H7.out hb)
    have HBL := Lh (Ks HBL.out hb)
    clear hb hx hV2 hp6
    obtain ⟨k7, HM⟩ := Md1.of (vp := .slice op m cp) H6.out H7.out HBUF.out HBL.out HG6.out HG7.out HGB.out
    have hc6 := H6.out.cell
    have hf6 := H6.out.frozen
    have hc7 := k7.cell
    have hf7 := k7.frozen
    rw [HLL.out] at hc7 hf7 HM
    have HMM := Lh HM
    clear k7 HM
    refine Rgt.ready (i := 5) (by kernel_rfl) rfl (by kernel_rfl) (fun K hK => ?_)
    go_simp
    refine hK _ _ (HC1.out _ (HBL.out.setCell (p := ⟨p6, 0, none⟩) HG6.out _)) ?_
    clear hK K
    refine Rgt.ready (i := 6) (by kernel_rfl) rfl (by kernel_rfl) (fun K hK => ?_)
    go_simp
    refine hK _ _ (HC1.out _ HMM.out.below) ?_
    clear hK K
    refine Rgt.done (by kernel_rfl) ?_ _
    exact ⟨rfl, p6, p7, gb, cb, HMM.out, rfl⟩
  ·go_simp
   have hb := new12 V0 (.cells #[.slice none 0 0] 22)
   refine hK _ _ (HC1.out _ (Ks HBL.out hb)) ?_
   clear hK K
   obtain ⟨p6, hp6⟩ : ∃ p, V0.heap.size = p := ⟨_, rfl⟩
   have hx : Boxed (V0.alloc (.cells #[.slice none 0 0] 22)) p6 22 (.slice none 0 0) := by rw [<- hp6]; exact Boxed.new _ _ _
   have HG6 : Hid (W1.heap.size <= p6) := Lh (by rw [<- hp6]; exact HBL.out.size)
   obtain ⟨V1, hV2⟩ : ∃ U, V0.alloc (.cells #[.slice none 0 0] 22) = U := ⟨_, rfl⟩
   rw [hV2] at hb hx ⊢
   rw [hp6]
   have H6 := Lh hx
   have HBL := Lh (Ks HBL.out hb)
   clear hb hx hV2 hp6
   refine Rgt.ready2 (i := 1) (j := 4) (by kernel_rfl) rfl rfl (by kernel_rfl) (by kernel_rfl) (fun K hK => ?_) (fun K hK => ?_)
   ·go_simp
    refine (HOU.out _ HBL.out).mono ?_
    rintro e V2 ⟨gb, cb, rfl, hgb, hbuf, hb⟩
    refine hK _ _ (HC1.out _ (Ks HBL.out hb)) ?_
    clear hK K
    have HGB := Lh (Nat.le_trans HBL.out.size hgb)
    have HBUF := Lh hbuf
    have H6 := Lh (boxed_later H6.out hb)
    have HBL := Lh (Ks HBL.out hb)
    clear hb hbuf hgb
    refine Rgt.ready (i := 4) (by kernel_rfl) rfl (by kernel_rfl) (fun K hK => ?_)
    go_simp
    have hb := new12 V2 (.cells #[.slice none 0 0] 70)
    refine hK _ _ (HC1.out _ (Ks HBL.out hb)) ?_
    clear hK K
    obtain ⟨p7, hp7⟩ : ∃ p, V2.heap.size = p := ⟨_, rfl⟩
    have hx : Boxed (V2.alloc (.cells #[.slice none 0 0] 70)) p7 70 (.slice none 0 0) := by rw [<- hp7]; exact Boxed.new _ _ _
    have HG7 : Hid (W1.heap.size <= p7) := Lh (by rw [<- hp7]; exact HBL.out.size)
    obtain ⟨V3, hV2⟩ : ∃ U, V2.alloc (.cells #[.slice none 0 0] 70) = U := ⟨_, rfl⟩
    rw [hV2] at hb hx ⊢
    rw [hp7]
    have H7 := Lh hx
    have H6 := Lh (boxed_later H6.out hb)
    have HBUF := Lh (HBUF.out.later hb)
    have HBL := Lh (Ks HBL.out hb)
    clear hb hx hV2 hp7
    obtain ⟨k7, HM⟩ := Md1.of (vp := .slice op m cp) H6.out H7.out HBUF.out HBL.out HG6.out HG7.out HGB.out
    have hc6 := H6.out.cell
    have hf6 := H6.out.frozen
    have hc7 := k7.cell
    have hf7 := k7.frozen
    rw [HLL.out] at hc7 hf7 HM
    have HMM := Lh HM
    clear k7 HM
    refine Rgt.ready (i := 5) (by kernel_rfl) rfl (by kernel_rfl) (fun K hK => ?_)
    go_simp
    refine hK _ _ (HC1.out _ (HBL.out.setCell (p := ⟨p6, 0, none⟩) HG6.out _)) ?_
    clear hK K
    refine Rgt.ready (i := 6) (by kernel_rfl) rfl (by kernel_rfl) (fun K hK => ?_)
    go_simp
    refine hK _ _ (HC1.out _ HMM.out.below) ?_
    clear hK K
    refine Rgt.done (by kernel_rfl) ?_ _
    exact ⟨rfl, p6, p7, gb, cb, HMM.out, rfl⟩
   ·go_simp
    have hb := new12 V1 (.cells #[.slice none 0 0] 70)
    refine hK _ _ (HC1.out _ (Ks HBL.out hb)) ?_
    clear hK K
    obtain ⟨p7, hp7⟩ : ∃ p, V1.heap.size = p := ⟨_, rfl⟩
    have hx : Boxed (V1.alloc (.cells #[.slice none 0 0] 70)) p7 70 (.slice none 0 0) := by rw [<- hp7]; exact Boxed.new _ _ _
    have HG7 : Hid (W1.heap.size <= p7) := Lh (by rw [<- hp7]; exact HBL.out.size)
    obtain ⟨V2, hV2⟩ : ∃ U, V1.alloc (.cells #[.slice none 0 0] 70) = U := ⟨_, rfl⟩
    rw [hV2] at hb hx ⊢
    rw [hp7]
    have H7 := Lh hx
    have H6 := Lh (boxed_later H6.out hb)
    have HBL := Lh (Ks HBL.out hb)
    clear hb hx hV2 hp7
    refine Rgt.ready (i := 1) (by kernel_rfl) rfl (by kernel_rfl) (fun K hK => ?_)
    go_simp
    refine (HOU.out _ HBL.out).mono ?_
    rintro e V3 ⟨gb, cb, rfl, hgb, hbuf, hb⟩
    refine hK _ _ (HC1.out _ (Ks HBL.out hb)) ?_
    clear hK K
    have HGB := Lh (Nat.le_trans HBL.out.size hgb)
    have HBUF := Lh hbuf
    have H6 := Lh (boxed_later H6.out hb)
    have H7 := Lh (boxed_later H7.out hb)
    have HBL := Lh (Ks HBL.out hb)
    clear hb hbuf hgb
    obtain ⟨k7, HM⟩ := Md1.of (vp := .slice op m cp) H6.out H7.out HBUF.out HBL.out HG6.out HG7.out HGB.out
    have hc6 := H6.out.cell
    have hf6 := H6.out.frozen
    have hc7 := k7.cell
    have hf7 := k7.frozen
    rw [HLL.out] at hc7 hf7 HM
    have HMM := Lh HM
    clear k7 HM
    refine Rgt.ready (i := 5) (by kernel_rfl) rfl (by kernel_rfl) (fun K hK => ?_)
    go_simp
    refine hK _ _ (HC1.out _ (HBL.out.setCell (p := ⟨p6, 0, none⟩) HG6.out _)) ?_
    clear hK K
    refine Rgt.ready (i := 6) (by kernel_rfl) rfl (by kernel_rfl) (fun K hK => ?_)
    go_simp
    refine hK _ _ (HC1.out _ HMM.out.below) ?_
    clear hK K
    refine Rgt.done (by kernel_rfl) ?_ _
    exact ⟨rfl, p6, p7, gb, cb, HMM.out, rfl⟩
  ·go_simp
   have hb := new12 V0 (.cells #[.slice none 0 0] 70)
   refine hK _ _ (HC1.out _ (Ks HBL.out hb)) ?_
   clear hK K
   obtain ⟨p7, hp7⟩ : ∃ p, V0.heap.size = p := ⟨_, rfl⟩
   have hx : Boxed (V0.alloc (.cells #[.slice none 0 0] 70)) p7 70 (.slice none 0 0) := by rw [<- hp7]; exact Boxed.new _ _ _
   have HG7 : Hid (W1.heap.size <= p7) := Lh (by rw [<- hp7]; exact HBL.out.size)
   obtain ⟨V1, hV2⟩ : ∃ U, V0.alloc (.cells #[.slice none 0 0] 70) = U := ⟨_, rfl⟩
   rw [hV2] at hb hx ⊢
   rw [hp7]
   have H7 := Lh hx
   have HBL := Lh (Ks HBL.out hb)
   clear hb hx hV2 hp7
   refine Rgt.ready2 (i := 1) (j := 3) (by kernel_rfl) rfl rfl (by kernel_rfl) (by kernel_rfl) (fun K hK => ?_) (fun K hK => ?_)
   ·go_simp
    refine (HOU.out _ HBL.out).mono ?_
    rintro e V2 ⟨gb, cb, rfl, hgb, hbuf, hb⟩
    refine hK _ _ (HC1.out _ (Ks HBL.out hb)) ?_
    clear hK K
    have HGB := Lh (Nat.le_trans HBL.out.size hgb)
    have HBUF := Lh hbuf
    have H7 := Lh (boxed_later H7.out hb)
    have HBL := Lh (Ks HBL.out hb)
    clear hb hbuf hgb
    refine Rgt.ready (i := 3) (by kernel_rfl) rfl (by kernel_rfl) (fun K hK => ?_)
    go_simp
    have hb := new12 V2 (.cells #[.slice none 0 0] 22)
    refine hK _ _ (HC1.out _ (Ks HBL.out hb)) ?_
    clear hK K
    obtain ⟨p6, hp6⟩ : ∃ p, V2.heap.size = p := ⟨_, rfl⟩
    have hx : Boxed (V2.alloc (.cells #[.slice none 0 0] 22)) p6 22 (.slice none 0 0) := by rw [<- hp6]; exact Boxed.new _ _ _
    have HG6 : Hid (W1.heap.size <= p6) := Lh (by rw [<- hp6]; exact HBL.out.size)
    obtain ⟨V3, hV2⟩ : ∃ U, V2.alloc (.cells #[.slice none 0 0] 22) = U := ⟨_, rfl⟩
    rw [hV2] at hb hx ⊢
    rw [hp6]
    have H6 := Lh hx
    have H7 := Lh (boxed_later H7.out hb)
    have HBUF := Lh (HBUF.out.later hb)
    have HBL := Lh (Ks HBL.out hb)
    clear hb hx hV2 hp6
    obtain ⟨k7, HM⟩ := Md1.of (vp := .slice op m cp) H6.out H7.out HBUF.out HBL.out HG6.out HG7.out HGB.out
    have hc6 := H6.out.cell
    have hf6 := H6.out.frozen
    have hc7 := k7.cell
    have hf7 := k7.frozen
    rw [HLL.out] at hc7 hf7 HM
    have HMM := Lh HM
    clear k7 HM
    refine Rgt.ready (i := 5) (by kernel_rfl) rfl (by kernel_rfl) (fun K hK => ?_)
    go_simp
    refine hK _ _ (HC1.out _ (HBL.out.setCell (p := ⟨p6, 0, none⟩) HG6.out _)) ?_
    clear hK K
    refine Rgt.ready (i := 6) (by kernel_rfl) rfl (by kernel_rfl) (fun K hK => ?_)
    go_simp
    refine hK _ _ (HC1.out _ HMM.out.below) ?_
    clear hK K
    refine Rgt.done (by kernel_rfl) ?_ _
    exact ⟨rfl, p6, p7, gb, cb, HMM.out, rfl⟩
   ·go_simp
    have hb := new12 V1 (.cells #[.slice none 0 0] 22)
    refine hK _ _ (HC1.out _ (Ks HBL.out hb)) ?_
    clear hK K
    obtain ⟨p6, hp6⟩ : ∃ p, V1.heap.size = p := ⟨_, rfl⟩
    have hx : Boxed (V1.alloc (.cells #[.slice none 0 0] 22)) p6 22 (.slice none 0 0) := by rw [<- hp6]; exact Boxed.new _ _ _
    have HG6 : Hid (W1.heap.size <= p6) := Lh (by rw [<- hp6]; exact HBL.out.size)
    obtain ⟨V2, hV2⟩ : ∃ U, V1.alloc (.cells #[.slice none 0 0] 22) = U := ⟨_, rfl⟩
    rw [hV2] at hb hx ⊢
    rw [hp6]
    have H6 := Lh hx
    have H7 := Lh (boxed_later H7.out hb)
    have HBL := Lh (Ks HBL.out hb)
    clear hb hx hV2 hp6
    refine Rgt.ready (i := 1) (by kernel_rfl) rfl (by kernel_rfl) (fun K hK => ?_)
    go_simp
    refine (HOU.out _ HBL.out).mono ?_
    rintro e V3 ⟨gb, cb, rfl, hgb, hbuf, hb⟩
    refine hK _ _ (HC1.out _ (Ks HBL.out hb)) ?_
    clear hK K
    have HGB := Lh (Nat.le_trans HBL.out.size hgb)
    have HBUF := Lh hbuf
    have H7 := Lh (boxed_later H7.out hb)
    have H6 := Lh (boxed_later H6.out hb)
    have HBL := Lh (Ks HBL.out hb)
    clear hb hbuf hgb
    obtain ⟨k7, HM⟩ := Md1.of (vp := .slice op m cp) H6.out H7.out HBUF.out HBL.out HG6.out HG7.out HGB.out
    have hc6 := H6.out.cell
    have hf6 := H6.out.frozen
    have hc7 := k7.cell
    have hf7 := k7.frozen
    rw [HLL.out] at hc7 hf7 HM
    have HMM := Lh HM
    clear k7 HM
    refine Rgt.ready (i := 5) (by kernel_rfl) rfl (by kernel_rfl) (fun K hK => ?_)
    go_simp
    refine hK _ _ (HC1.out _ (HBL.out.setCell (p := ⟨p6, 0, none⟩) HG6.out _)) ?_
    clear hK K
    refine Rgt.ready (i := 6) (by kernel_rfl) rfl (by kernel_rfl) (fun K hK => ?_)
    go_simp
    refine hK _ _ (HC1.out _ HMM.out.below) ?_
    clear hK K
    refine Rgt.done (by kernel_rfl) ?_ _
    exact ⟨rfl, p6, p7, gb, cb, HMM.out, rfl⟩
 case rest =>
  rintro e a' X1 ⟨rfl, p6, p7, gb, cb, hM1, rfl⟩
  rename_i K0 hK0
  show K0 _ _
  refine hK0 _ _ ?_
  clear hK0 K0
  have hBX1 := Ks HB1.out hM1.below
  obtain ⟨hQL, hQP, hQN, hQI, hRL, hDP, hCd⟩ := HPP.out _ _ _ _ (H00.out (fun _ => False) (fun k h => h.elim))
  have hcn := (boxed_later hQN hBX1).cell
  have hci := (boxed_later hQI hBX1).cell
  obtain ⟨q, hq⟩ : ∃ q, X1.heap.size = q := ⟨_, rfl⟩
  obtain ⟨X2, hX2⟩ : ∃ X2, X1.alloc (.cells #[.int .i64 (n : Int)] 3) = X2 := ⟨_, rfl⟩
  have hb2 : Below X1.heap.size X1 X2 := by rw [<- hX2]; exact new12 _ _
  have hs2 : X2.heap.size = q + 1 := by rw [<- hX2, World.size_alloc, hq]
  have hxn : Boxed X2 q 3 (.int .i64 (n : Int)) := by rw [<- hX2, <- hq]; exact Boxed.new _ _ _
  obtain ⟨X3, hX3⟩ : ∃ X3, X2.alloc (.cells #[.int .i64 (i : Int)] 3) = X3 := ⟨_, rfl⟩
  have hb3 : Below X2.heap.size X2 X3 := by rw [<- hX3]; exact new12 _ _
  have hs3 : X3.heap.size = q + 2 := by rw [<- hX3, World.size_alloc, hs2]
  have hxi : Boxed X3 (q + 1) 3 (.int .i64 (i : Int)) := by rw [<- hX3, <- hs2]; exact Boxed.new _ _ _
  have MT := mturns_any (n : Int) (i : Int) X1
  rw [hX2, hX3, hq] at MT
  have hb13 := Ks hb2 hb3
  have hBX3 := Ks hBX1 hb13
  obtain ⟨E, hE⟩ : ∃ E : MdE, E = ⟨leaf, ps, Da.ups n i, p5, p6, p7, q, X3.heap.size, n, i, m, cp, op, .func (.yield l) #[] #[]⟩ := ⟨_, rfl⟩
  have hg6 := hM1.g6
  have hg7 := hM1.g7
  have hgg := hM1.gg
  have hl6 := hM1.b6.lt
  have hl7 := hM1.b7.lt
  have hlb := hM1.buf.lt
  have hs1 := HS1.out
  have hp5 := HP5.out
  have hEok : E.ok := by rw [hE]; exact ⟨by dsimp only; omega, by dsimp only; omega, by dsimp only; omega, by dsimp only; omega, by dsimp only; omega⟩
  have hn6 := hM1.buf.ne hM1.b6 (by decide)
  have hn7 := hM1.buf.ne hM1.b7 (by decide)
  have hI0 : ∀ M : Rf.Blk, (∀ k, M k -> X3.heap.size + 2 <= k) -> MdB E (fun k => O0 k ∨ k = p6 ∨ k = p7) M 0 O0 gb cb op cp X3 := fun M hM => by
   refine ⟨fun k => by rw [hE], fun k hk => .inl (by rw [hE]; have := HO.out k hk; dsimp only; omega), fun k hk => Nat.lt_of_lt_of_le (HO.out k hk) hBX3.size, ?_, ?_, ?_, ?_, ?_, hM1.buf.later hb13 |> (fun h => by rw [hE]; exact h), fun hk => by have := HO.out gb hk; omega, fun hk => ?_, fun Y h => by rw [hE] at h ⊢; exact h⟩
   ·rw [hE]; exact boxed_later (boxed_later HX5.out hM1.below) hb13
   ·rw [hE]; exact boxed_later hM1.b6 hb13
   ·rw [hE]; exact boxed_later hM1.b7 hb13
   ·rw [hE]; exact boxed_later hxn hb3
   ·rw [hE]; exact hxi
   ·rw [hE] at hk
    rcases hk with h1 | h1 | h1 | h1 | h1
    ·have := hM gb h1; omega
    ·exact hn6 h1
    ·exact hn7 h1
    ·dsimp only at h1; omega
    ·dsimp only at h1; omega
  have HI0 := Lh hI0
  have HMT := Lh MT
  have HE := Lh hE
  have HEK := Lh hEok
  have HB3 := Lh hBX3
  have HS3 := Lh hs3
  have HLT : Hid (p5 < p6 /\ p5 < p7 /\ p6 < q /\ p7 < q /\ X0.heap.size = p5) := Lh (by omega)
  have TG := turns_gives n i q (q + 1) HI'.out (by omega)
  have HTG := Lh TG
  have HQ1 := Lh (boxed_later hxn hb3)
  have HQ2 := Lh hxi
  clear hBX1 hQL hQP hQN hQI hRL hDP hCd hq hX2 hb2 hs2 hxn hX3 hb3 hs3 hxi MT hb13 hBX3 hE hg6 hg7 hgg hl6 hl7 hlb hs1 hp5 hEok hn6 hn7 hI0 TG
  go_wp2_with fail
  refine HMT.out.mono ?_
  rintro e x3 ⟨rfl, rfl⟩
  rename World => X3
  clear HMT hcn hci
  go_wp2_with fail
  refine Rf.range_toldM (α := Nat × Nat × Bool) (σ := List (Nat × Nat × Bool)) rfl (enters_of Tryz.func106 (by kernel_rfl) rfl) (fun x => #[tnV x]) (fun _ => rfl) _ _ _ _ HTG.out
   (fun k => O0 k ∨ k = p6 ∨ k = p7)
   (fun O M p X => ∃ Oo gb cb o' c', MdB E O M p.length Oo gb cb o' c' X /\ I Oo (mo E M) p.length X)
   (fun c O M X => c = .ret /\ ∃ Oo, Bx Oo (mo E M) X)
   ?hO0 ?hI ?hIx ?hP ?hV ?h0 ?round ?done ?stop
  case hO0 =>
   intro k hk
   have h1 := HLT.out
   have h2 := HS3.out
   rcases hk with hk | rfl | rfl
   ·have := HO.out k hk; omega
   ·omega
   ·omega
  case hI =>
   rintro O M p X X' hM ⟨Oo, gb, cb, o', c', h, hi⟩ k
   have hd : E.D = X3.heap.size := by rw [HE.out]
   refine ⟨Oo, gb, cb, o', c', h.mut HEK.out (by rw [hd]; exact hM) (by rw [hd]; exact k), HII.out _ _ _ _ _ (mo_new HEK.out (by rw [hd]; exact hM) (by rw [HE.out]; exact Nat.le_of_eq HP5.out)) hi (k.mono fun j hj => ?_)⟩
   unfold mo
   rw [hd]
   rcases hj with h1 | h1 | h1
   ·exact .inl h1
   ·exact .inr (.inr (.inr (.inl h1)))
   ·exact .inr (.inr (.inr (.inr h1)))
  case hIx =>
   rintro c O M X X' hM ⟨hc, Oo, hi⟩ k
   have hd : E.D = X3.heap.size := by rw [HE.out]
   refine ⟨hc, Oo, HBX.out _ _ _ _ (mo_new HEK.out (by rw [hd]; exact hM) (by rw [HE.out]; exact Nat.le_of_eq HP5.out)) hi (k.mono fun j hj => ?_)⟩
   unfold mo
   rw [hd]
   rcases hj with h1 | h1 | h1
   ·exact .inl h1
   ·exact .inr (.inr (.inr (.inl h1)))
   ·exact .inr (.inr (.inr (.inr h1)))
  case hP =>
   rintro O M p X ⟨Oo, gb, cb, o', c', h, _⟩
   have h1 := h.bn
   have h2 := h.bi
   rw [HE.out] at h1 h2
   exact ⟨h1, h2⟩
  case hV => exact fun M s x s' X X' h k => h
  case h0 =>
   intro M hM
   have hd : E.D = X3.heap.size := by rw [HE.out]
   have hn := mo_new (B := X0.heap.size) HEK.out (by rw [hd]; exact hM) (by rw [HE.out]; exact Nat.le_of_eq HP5.out)
   exact ⟨O0, gb, cb, op, cp, HI0.out M hM, HII.out _ _ _ _ _ hn (H00.out _ hn) (.of_below HB3.out)⟩
  case round =>
   rintro l2 O M p x p' X Z' To hM hMX hOX hDX ⟨Oo, gb, cb, o', c', hJ, hio⟩ ⟨rfl, hp⟩ hsz hrec hdef HN' HR' HE'
   clear hrec hdef
   have hd : E.D = X3.heap.size := by rw [HE.out]
   have hlen := hp.length_le
   rw [List.length_append, List.length_singleton, Da.trn_length, HU.out] at hlen
   have hus : (Da.ups n i).getD p.length false = x.2.2 := by
    obtain ⟨r, hr⟩ := hp
    rw [<- Da.trn_ups n 0 i, <- hr]
    simp
   obtain ⟨s, hs⟩ : ∃ s, p.length = s := ⟨_, rfl⟩
   rw [hs] at hJ hio hlen hus
   obtain ⟨tf, tt, tl⟩ := x
   dsimp only at hus
   have HSS : Hid ((p ++ [(tf, tt, tl)]).length = s + 1) := Lh (by rw [List.length_append, hs]; rfl)
   obtain ⟨D, hD⟩ : ∃ D, tnD (tf, tt, tl) = D := ⟨_, rfl⟩
   have hDs : D.size = 3 := by rw [<- hD]; rfl
   have HDS3 : Hid ((Tryz.prog.info? 127).map (·.size) = some D.size) := Lh (by rw [hDs]; kernel_rfl)
   have HDO : Hid (D.all (·.oneCell') = true) := Lh (by rw [<- hD]; simp [tnD, Value.oneCell'])
   have HDZ : Hid ((#[.int .i64 0, .int .i64 0, .bool false] : Array Value).size = D.size) := Lh (by rw [hDs]; rfl)
   have HD := Lh hD
   have HSZ := Lh hsz
   have HJ := Lh hJ
   have HIO := Lh hio
   have HMN := Lh hM
   have HMX := Lh hMX
   have HOX := Lh hOX
   have HDX := Lh hDX
   have HUS := Lh hus
   have HDD := Lh hd
   rw [show tnV (tf, tt, tl) = .agg D by unfold tnV; rw [hD]]
   clear hd hus hs hp hD hDs hsz hJ hio hM hMX hOX hDX
   gi_upto_region 3 with fail
   refine Rf.plain_round (by kernel_rfl) (by rintro ⟨a, w, h⟩; exact h) ?_
   (refine wpList_plain rfl (fun K hK => ?_); go_simp; refine hK _ _ ?_; clear hK K)
   refine wpList_store_row rfl 127 (.tmp 8) (.tmp 15) rfl Z'.heap.size D rfl rfl 127 #[.int .i64 0, .int .i64 0, .bool false] (World.alloc_heap_new Z' _) HDS3.out HDZ.out HDO.out ?_
   refine wpList_nil ?_
   refine ⟨(new12 _ _).trans (below_row (Nat.le_refl _)), fun Y hY hnew hsy => ?_⟩
   rw [HSZ.out]
   obtain ⟨pt, hpt⟩ : ∃ pt, X.heap.size = pt := ⟨_, rfl⟩
   have hY8 : Y.heap[pt]? = some (.cells D 127 (0, 0)) := by
    rw [<- hpt, hnew _ (Nat.le_refl _), <- HSZ.out]
    exact setRow_heap _ _ _ _ _ _ (World.alloc_heap_new Z' _)
   rw [hpt]
   have hJY := HJ.out.below hY
   have hmn := mo_new (B := X0.heap.size) HEK.out (by rw [HDD.out]; exact HMN.out) (by rw [HE.out]; exact Nat.le_of_eq HP5.out)
   have hioY := HII.out _ _ _ _ _ hmn HIO.out (.of_below hY)
   have hszY : X3.heap.size + 2 <= Y.heap.size := by have := HDX.out; have := hY.size; omega
   have hmY : ∀ k, mo E M k -> k < Y.heap.size := fun k hk => by
    have h1 := HLT.out
    have h2 := HS3.out
    rw [HE.out] at hk
    rcases hk with h | h | h | h | h
    ·have := HMX.out k h; have := hY.size; omega
    ·dsimp only at h; omega
    ·dsimp only at h; omega
    ·dsimp only at h; omega
    ·dsimp only at h; omega
   have hxy : X0.heap.size <= Y.heap.size := by have := HB3.out.size; omega
   have ht := HT.out Oo (mo E M) s (gb, cb, Da.mbs13 (0 :: leaf) (Da.ups n i) ps s) (s + 1) Y hmn hmY hJY.ol hxy hioY ⟨rfl, by omega, rfl, by have := hJY.buf; rw [HE.out] at this; exact this, hJY.mg⟩
   dsimp only at ht
   obtain ⟨fn, tmps, assign, body, hy, hR⟩ := ht
   have hc5 := hJY.b5.cell
   have hc6 := hJY.b6.cell
   rw [HE.out] at hc5 hc6
   dsimp only at hc5 hc6
   have hR2 : RoundIn (Fence.wide.inRound l2) 0 Tryz.prog l fn tmps assign body Y _ := hR
   have HR2 := Lh hR2
   have HJY := Lh hJY
   have HY := Lh hY
   have HY8 := Lh hY8
   have HSZY := Lh hszY
   have HXP := Lh hpt
   clear hR hR2 hJY hY hnew hsy hY8 hpt hmn hioY hszY hmY hxy
   gi_upto_region 5 with fail
   refine ⟨rfl, HR2.out.mono ?_⟩
   rintro e Y2 ⟨Oo', hcase, hf⟩
   have hfX : Rf.Fr O X (fun k => Oo' k ∨ k = E.p6 ∨ k = E.p7) Y2 := (Rf.Fr.of_below HY.out (fun k hk => (HOX.out k hk).1)).trans (hf.more HJY.out.eo (fun _ => Iff.rfl) (fun k hk => by
    have h1 := HLT.out
    have h2 := HS3.out
    have h3 := HSZY.out
    rw [HE.out] at hk
    rcases hk with rfl | rfl <;> first | omega | (dsimp only; omega)))
   rcases hcase with ⟨rfl, hi2⟩ | ⟨rfl, hbx⟩
   ·have hJ2 := HJY.out.fr HEK.out (by rw [HDD.out]; exact HSZY.out) hf
    have hszY2 : X3.heap.size + 2 <= Y2.heap.size := Nat.le_trans HSZY.out hf.size
    obtain ⟨hQL, hQP, hQN, hQI, hRL, hDP, hCd⟩ := HPP.out _ _ _ _ hi2
    have hds := hJ2.rs Y2 (by rw [HE.out]; exact hDP)
    rw [HE.out] at hds
    dsimp only at hds
    have hdl : (ps.drop s).length = m - s := by rw [List.length_drop, HM.out]
    obtain ⟨b1, off1, rfl, hb1, hrng⟩ := hds.at_ 0 (by rw [hdl]; omega)
    rw [Nat.zero_mul, Nat.add_zero, show bi (ps.drop s) 0 = bi ps s by simp [bi]] at hrng
    have hpl : (bi ps s).length = 32 := hDP.all.at_ (by rw [HM.out]; omega)
    have hcl2 := hds.le
    rw [hdl] at hcl2
    have hclm := hds.cap
    have hpart : ∀ W', DgIs W' (some ⟨b1, off1, none⟩) (ps.drop s) c' -> DgIs W' (some ⟨b1, off1 + 32, none⟩) (ps.drop (s + 1)) (c' - 1) := fun W' hW => by
     have := hW.part 1 (m - s - 1) (by rw [hdl]; omega) (c' - 1) (by omega) (by unfold maxLen at hclm ⊢; omega)
     rw [Nat.one_mul, List.drop_drop, List.take_of_length_le (by rw [List.length_drop, HM.out]; omega)] at this
     exact this
    have hptY2 : Y2.heap[pt]? = some (.cells D 127 (0, 0)) := by
     rw [hf.same pt (aE.1 HY8.out).1 (fun h => by
      have h1 := (HOX.out pt ((HJY.out.eo pt).2 (.inl h))).1
      have := HXP.out
      omega)]
     exact HY8.out
    have hc6 := hJ2.b6
    have hc7 := hJ2.b7
    have hbf := hJ2.buf
    rw [HE.out] at hc6 hc7 hbf
    dsimp only at hc6 hc7 hbf
    obtain ⟨C, hC⟩ : ∃ C : World -> Prop, (fun v => Below Y2.heap.size Y2 v) = C := ⟨_, rfl⟩
    have HC1 : Hid (∀ v, Below Y2.heap.size Y2 v -> C v) := Lh fun v hv => by rw [<- hC]; exact hv
    have HC2 : Hid (∀ v, C v -> Below Y2.heap.size Y2 v) := Lh fun v hv => by rw [<- hC] at hv; exact hv
    obtain ⟨B, hB⟩ : ∃ B, Da.mbs13 (0 :: leaf) (Da.ups n i) ps s = B := ⟨_, rfl⟩
    have hBl : B.length <= 9000 := by
     rw [<- hB]
     cases s with
     | zero => show (0 :: leaf).length <= 9000; rw [List.length_cons]; omega
     | succ s' => rw [Da.mbs13_len _ _ _ _ (hDP.all.at_ (by rw [HM.out]; omega))]; omega
    have hBS : Da.mbs13 (0 :: leaf) (Da.ups n i) ps (s + 1) = Da.inn tl (Da.sha B) (bi ps s) := by rw [Da.mbs13, HUS.out, hB]
    rw [hB] at hc6 hbf
    have HC8 : Hid (∀ w, C w -> w.heap[pt]? = some (.cells D 127 (0, 0))) := Lh fun w hw => by rw [(HC2.out w hw).block pt (aE.1 hptY2).1]; exact hptY2
    have HC6 : Hid (∀ w, C w -> w.cell? ⟨p6, 0, none⟩ = some (.slice (some ⟨gb, 0, none⟩) B.length cb)) := Lh fun w hw => (boxed_later hc6 (HC2.out w hw)).cell
    have HC7 : Hid (∀ w, C w -> w.cell? ⟨p7, 0, none⟩ = some (.slice (some ⟨b1, off1, none⟩) (m - s) c')) := Lh fun w hw => (boxed_later hc7 (HC2.out w hw)).cell
    have HCR : Hid (∀ w, C w -> w.rangeAt b1 off1 (bytesV (bi ps s))) := Lh fun w hw => rangeAt_later hrng (HC2.out w hw) hb1
    have HRS : Hid ((Tryz.prog.info? 32).map (·.size) = some (bytesV (bi ps s)).length) := Lh (by rw [dg_info]; simp [hpl])
    have hdr : Below Y2.heap.size Y2 Y2.drew := Kit.dn' Y2 1
    have hC0 : C Y2.drew := HC1.out _ hdr
    have hba : Below Y2.drew.heap.size Y2.drew (Y2.alloc (.cells #[.slice (some ⟨gb, 0, none⟩) B.length cb] 22)).drew := new12 Y2.drew (.cells #[.slice (some ⟨gb, 0, none⟩) B.length cb] 22)
    have hone : RbIs (Y2.alloc (.cells #[.slice (some ⟨gb, 0, none⟩) B.length cb] 22)).drew (some ⟨Y2.heap.size, 0, none⟩) [B] 1 := one_part ((hbf.later hdr).row)
    obtain ⟨Y3, hY3⟩ : ∃ Y3, (Y2.alloc (.cells #[.slice (some ⟨gb, 0, none⟩) B.length cb] 22)).drew = Y3 := ⟨_, rfl⟩
    rw [hY3] at hone hba
    have hb23 := Ks hdr hba
    have SO := sof_any [B] _ 1 Y3 hone (hCd.later hb23) (by simp; omega) (by simp)
    rw [show ([B] : List (List UInt8)).flatten = B by simp, List.length_singleton] at SO
    have HC3 := Lh (HC1.out _ hb23)
    have TI : ∀ v, Calls Tryz.prog 139 #[.agg D, .agg (bytesV (Da.sha B)).toArray, .agg (bytesV (bi ps s)).toArray] v fun e w' => ∃ g cap, e = .returned (.slice (some ⟨g, 0, none⟩) 65 cap) /\ v.heap.size <= g /\ Buf w' g cap (Da.inn tl (Da.sha B) (bi ps s)) /\ Below v.heap.size v w' := fun v => by
     have := tinn_any (tf, tt, tl) (Da.sha B) (bi ps s) (Da.sha_length B) hpl v
     unfold tnV at this
     rw [HD.out] at this
     exact this
    obtain ⟨SA, hSA⟩ : ∃ SA, (bytesV (Da.sha B)).toArray = SA := ⟨_, rfl⟩
    obtain ⟨PA, hPA⟩ : ∃ PA, (bytesV (bi ps s)).toArray = PA := ⟨_, rfl⟩
    rw [hSA] at SO TI
    rw [hPA] at TI
    have hsn : s < m := by omega
    have hms : 0 < m - s := by omega
    have HSO := Lh SO
    have HTI := Lh TI
    have HJ2 := Lh hJ2
    have HI2 := Lh hi2
    have HFX := Lh hfX
    have HF := Lh hf
    have HB23 := Lh hb23
    have HY3 := Lh hY3
    have HPA := Lh hPA
    have HBS := Lh hBS
    have HPART := Lh hpart
    have HDS := Lh hds
    have HSZ2 := Lh hszY2
    have HBB := Lh hB
    have HK67 := Lh (show Boxed Y2 p6 22 (.slice (some ⟨gb, 0, none⟩) B.length cb) /\ Boxed Y2 p7 70 (.slice (some ⟨b1, off1, none⟩) (m - s) c') from ⟨hc6, hc7⟩)
    have HPL := Lh hpl
    clear hJ2 hi2 hfX hf hQL hQP hQN hQI hRL hDP hCd hds hb1 hrng hpl hpart hptY2 hc6 hc7 hbf hC hB hBS hba hone hY3 hb23 SO TI hSA hPA hszY2 hdl hdr HJY HR2 HY8
    gi_upto_region 5 with fail
    refine Rgt.round C (fun t => t == 8) (by kernel_rfl) (by kernel_rfl) (by rintro ⟨a, w, h⟩; exact h) ?_
    refine Rgt.take (i := 0) (x := .agg D) rfl rfl (by kernel_rfl) (by kernel_rfl) (by kernel_rfl) (by kernel_rfl) (fun _ _ _ h => h) (Or.inl ⟨by kernel_rfl, fun w hw => exec_row (t := 127) (fr := (0, 0)) rfl rfl (HC8.out w hw) Tryz.underlying127 rfl HDS3.out⟩) hC0 ?_
    go_simp
    refine Rgt.take (i := 1) (x := .slice (some ⟨gb, 0, none⟩) B.length cb) rfl rfl (by kernel_rfl) (by kernel_rfl) (by kernel_rfl) (by kernel_rfl) (fun _ _ _ h => h) (Or.inl ⟨by kernel_rfl, fun w hw => by have hc := HC6.out w hw; (go_simp <;> with_reducible rfl)⟩) hC0 ?_
    go_simp
    refine Rgt.take (i := 4) (x := .slice (some ⟨b1, off1, none⟩) (m - s) c') rfl rfl (by kernel_rfl) (by kernel_rfl) (by kernel_rfl) (by kernel_rfl) (fun _ _ _ h => h) (Or.inl ⟨by kernel_rfl, fun w hw => by have hc := HC7.out w hw; (go_simp <;> with_reducible rfl)⟩) hC0 ?_
    go_simp
    refine Rgt.take (i := 5) (x := .pointer (some ⟨b1, off1, none⟩)) rfl rfl (by kernel_rfl) (by kernel_rfl) (by kernel_rfl) (by kernel_rfl) (fun _ _ _ h => h) (Or.inl ⟨by kernel_rfl, fun w hw => by (go_simp <;> with_reducible rfl)⟩) hC0 ?_
    go_simp
    refine Rgt.take (i := 6) (x := .agg PA) rfl rfl (by kernel_rfl) (by kernel_rfl) (by kernel_rfl) (by kernel_rfl) (fun _ _ _ h => h) (Or.inl ⟨by kernel_rfl, fun w hw => by rw [<- HPA.out]; exact St.exec_load rfl rfl (bytesV (bi ps s)) _ (HCR.out w hw) dg_under rfl HRS.out⟩) hC0 ?_
    go_simp
    have HBL : Hid (B.length = B.length) := Lh rfl
    refine Rgt.ready (i := 2) (by kernel_rfl) rfl (by kernel_rfl) (fun K hK => ?_)
    go_simp
    rw [HY3.out]
    refine hK _ _ HC3.out ?_
    clear hK K
    refine Rgt.ready (i := 3) (by kernel_rfl) rfl (by kernel_rfl) (fun K hK => ?_)
    go_simp
    refine HSO.out.mono ?_
    rintro e4 Y4 ⟨rfl, hb4⟩
    have HB24 := Lh (Ks HB23.out hb4)
    refine hK _ _ (HC1.out _ HB24.out) ?_
    clear hK K hb4 HSO
    refine Rgt.ready (i := 7) (by kernel_rfl) rfl (by kernel_rfl) (fun K hK => ?_)
    go_simp
    refine (HTI.out Y4).mono ?_
    rintro e5 Y5 ⟨g2, cap2, rfl, hg2, hbf5, hb5⟩
    have hb25 := Ks HB24.out hb5
    refine hK _ _ (HC1.out _ hb25) ?_
    clear hK K HTI
    have hg2s : Y2.heap.size <= g2 := Nat.le_trans HB24.out.size hg2
    have hJ5 := HJ2.out.below hb25
    have h65 := boxed_later HK67.out.1 hb25
    have h75 := boxed_later HK67.out.2 hb25
    have hn6 := hbf5.ne h65 (by decide)
    have hn7 := hbf5.ne h75 (by decide)
    have hne67 := box_ne h65 h75 (by decide)
    obtain ⟨Y6, hY6⟩ : ∃ Y6, Y5.setCell ⟨p6, 0, none⟩ (.slice (some ⟨g2, 0, none⟩) 65 cap2) = Y6 := ⟨_, rfl⟩
    have h66 : Boxed Y6 p6 22 (.slice (some ⟨g2, 0, none⟩) 65 cap2) := by rw [<- hY6]; exact h65.set _
    have h76 : Boxed Y6 p7 70 (.slice (some ⟨b1, off1, none⟩) (m - s) c') := by rw [<- hY6]; exact h75.other (fun e => hne67 e.symm) _
    have hgr6 : Y5.grownBy Y6 (some p6) := by rw [<- hY6]; exact grownBy_setCell' _ _ _
    have hc65 := h65.cell
    have hf65 := h65.frozen
    have hc76 := h76.cell
    have hf76 := h76.frozen
    have H66 := Lh h66
    have H76 := Lh h76
    have HY6 := Lh hY6
    have HGR6 := Lh hgr6
    have HB25 := Lh hb25
    have HBF5 := Lh hbf5
    have HG2S := Lh hg2s
    have HJ5 := Lh hJ5
    have HNS := Lh (show g2 ≠ p6 /\ g2 ≠ p7 /\ p6 ≠ p7 from ⟨hn6, hn7, hne67⟩)
    have HSN := Lh hsn
    clear hb5 hb25 hg2 hg2s hbf5 hJ5 h65 h75 h66 h76 hn6 hn7 hne67 hY6 hgr6
    refine Rgt.readyT (i := 8) (by kernel_rfl) rfl rfl (by kernel_rfl) (fun K hK => ?_)
    go_simp
    rw [HY6.out]
    refine hK _ _ ?_
    clear hK K hc65 hf65 HY6
    refine Rgt.done (by kernel_rfl) ?_ _
    by_cases hc1 : c' = 1
    case' pos =>
     have hck : ¬ c' < 1 := by omega
     obtain ⟨A2, c2, hA2, hc2, hst⟩ : ∃ (A2 : Option Addr) (c2 : Nat), (some ⟨b1, off1, none⟩ : Option Addr) = A2 /\ c2 = c' - 1 /\ Y6.setCell ⟨p7, 0, none⟩ (.slice (some ⟨b1, off1, none⟩) (m - s - 1) 0) = Y6.setCell ⟨p7, 0, none⟩ (.slice A2 (m - s - 1) c2) := ⟨_, 0, rfl, by omega, rfl⟩
    case' neg =>
     have hck : ¬ c' < 1 := by omega
     obtain ⟨A2, c2, hA2, hc2, hst⟩ : ∃ (A2 : Option Addr) (c2 : Nat), (some ⟨b1, off1 + 32, none⟩ : Option Addr) = A2 /\ c2 = c' - 1 /\ Y6.setCell ⟨p7, 0, none⟩ (.slice (some ⟨b1, off1 + 32, none⟩) (m - s - 1) (c' - 1)) = Y6.setCell ⟨p7, 0, none⟩ (.slice A2 (m - s - 1) c2) := ⟨_, c' - 1, rfl, rfl, rfl⟩
    all_goals
     have hrs2 : ∀ Y, DgIs Y op ps cp -> DgIs Y A2 (ps.drop (s + 1)) c2 := fun Y hYd => by
      rw [hc2]
      have h0 := HJ5.out.rs Y (by rw [HE.out]; exact hYd)
      rw [HE.out] at h0
      have h1 := HPART.out Y h0
      first
       | (rw [<- hA2]; exact h1)
       | (have h2 := h1.le
          have h3 : (ps.drop (s + 1)).length = 0 := by omega
          rw [List.eq_nil_of_length_eq_zero h3]
          exact DgIs.empty _ _ (by unfold maxLen; omega) (fun e => by rw [<- hA2] at e; cases e))
     obtain ⟨Y7, hY7⟩ : ∃ Y7, Y6.setCell ⟨p7, 0, none⟩ (.slice A2 (m - s - 1) c2) = Y7 := ⟨_, rfl⟩
     have HFIN : Hid (Rf.Fr O X (fun k => Oo' k ∨ k = E.p6 ∨ k = E.p7) Y7 /\ ∃ Oo gb cb o' c', MdB E (fun k => Oo' k ∨ k = E.p6 ∨ k = E.p7) M (s + 1) Oo gb cb o' c' Y7 /\ I Oo (mo E M) (s + 1) Y7) := Lh (by
      have hgr7 : Y6.grownBy Y7 (some p7) := by rw [<- hY7]; exact grownBy_setCell' _ _ _
      have h67 : Boxed Y7 p6 22 (.slice (some ⟨g2, 0, none⟩) 65 cap2) := by rw [<- hY7]; exact H66.out.other HNS.out.2.2 _
      have h77 : Boxed Y7 p7 70 (.slice A2 (m - s - 1) c2) := by rw [<- hY7]; exact H76.out.set _
      have hbk : ∀ k, k < Y5.heap.size -> k ≠ p6 -> k ≠ p7 -> Y7.heap[k]? = Y5.heap[k]? := fun k hk h1 h2 => by
       rw [hgr7.block k (Nat.lt_of_lt_of_le hk HGR6.out.size) (by simp; omega), HGR6.out.block k hk (by simp; omega)]
      have e6 : E.p6 = p6 := by rw [HE.out]
      have e7 : E.p7 = p7 := by rw [HE.out]
      have hmut : Rf.Mut (fun k => k = p6 ∨ k = p7) Y5 Y7 := (Rf.Mut.grown HGR6.out (fun k e => by cases e; exact .inl rfl)).trans (Rf.Mut.grown hgr7 (fun k e => by cases e; exact .inr rfl))
      refine ⟨HFX.out.trans ((Rf.Fr.of_below HB25.out (fun k hk => ?_)).trans ((Rf.Fr.grown HGR6.out (fun k hk => ?_) (fun k e => by cases e; exact .inr (.inl e6.symm))).trans (Rf.Fr.grown hgr7 (fun k hk => ?_) (fun k e => by cases e; exact .inr (.inr e7.symm))))), Oo', g2, cap2, A2, c2, ?_, ?_⟩
      ·exact (HFX.out.ext k hk).1
      ·exact Nat.lt_of_lt_of_le (HFX.out.ext k hk).1 HB25.out.size
      ·exact Nat.lt_of_lt_of_le (HFX.out.ext k hk).1 (Nat.le_trans HB25.out.size HGR6.out.size)
      ·have hJ5 := HJ5.out
       have hq5 := HLT.out
       have hlen65 : (Da.mbs13 (0 :: leaf) (Da.ups n i) ps (s + 1)).length = 65 := Da.mbs13_len _ _ _ _ HPL.out
       refine ⟨fun _ => Iff.rfl, hJ5.lo, fun k hk => Nat.lt_of_lt_of_le (hJ5.ol k hk) hmut.size, box_block hJ5.b5 (hbk _ hJ5.b5.lt ?_ ?_), ?_, ?_, box_block hJ5.bn (hbk _ hJ5.bn.lt ?_ ?_), box_block hJ5.bi (hbk _ hJ5.bi.lt ?_ ?_), ?_, fun hk => ?_, fun hk => ?_, ?_⟩
       ·rw [HE.out]; dsimp only; omega
       ·rw [HE.out]; dsimp only; omega
       ·rw [HE.out]; dsimp only; rw [hlen65]; exact h67
       ·rw [HE.out]; dsimp only; rw [show m - (s + 1) = m - s - 1 by omega]; exact h77
       ·rw [HE.out]; dsimp only; omega
       ·rw [HE.out]; dsimp only; omega
       ·rw [HE.out]; dsimp only; omega
       ·rw [HE.out]; dsimp only; omega
       ·rw [HE.out]; dsimp only; rw [HBS.out]; exact HBF5.out.block (hbk g2 HBF5.out.lt HNS.out.1 HNS.out.2.1)
       ·have := (HF.out.ext g2 hk).1
        have := HG2S.out
        omega
       ·have h1 := HG2S.out
        have h2 := HSZ2.out
        rw [HE.out] at hk
        rcases hk with h | h | h | h | h
        ·have := HMX.out g2 h
         have := HFX.out.size
         omega
        ·exact HNS.out.1 h
        ·exact HNS.out.2.1 h
        ·dsimp only at h; omega
        ·dsimp only at h; omega
       ·rw [HE.out]; exact hrs2
      ·refine HII.out _ _ _ _ _ (mo_new HEK.out (by rw [HDD.out]; exact HMN.out) (by rw [HE.out]; exact Nat.le_of_eq HP5.out)) HI2.out ((Rf.Mut.of_below HB25.out).trans (hmut.mono fun k hk => ?_))
       unfold mo
       rcases hk with h | h
       ·exact .inr (.inl (h.trans e6.symm))
       ·exact .inr (.inr (.inl (h.trans e7.symm))))
     have HST := Lh hst
     have HY7 := Lh hY7
     have hm1 : 1 <= m - s := by omega
     clear hA2 hc2 hst hY7 hrs2 H66 H76 HBF5 HJ5 HGR6 HB25
     gi_upto_region 6 with fail
     gi_wp2
     rw [HST.out, HY7.out]
     exact HN'.out _ _ _ HFIN.out.1 (by rw [HSS.out]; exact HFIN.out.2)
   ·gi_wp2
    exact HR'.out _ _ _ hfX ⟨by simp, Oo', hbx⟩
  case done =>
   rintro O M p X hM hMX hOX hD1 rfl ⟨Oo, gb, cb, o', c', hJ, hio⟩ hK'
   rw [Da.trn_length, HU.out] at hJ hio
   have hd : E.D = X3.heap.size := by rw [HE.out]
   have hmn := mo_new (B := X0.heap.size) HEK.out (by rw [hd]; exact hM) (by rw [HE.out]; exact Nat.le_of_eq HP5.out)
   have hDX : X3.heap.size < X.heap.size := (aE.1 hK').1
   have hxx : X0.heap.size <= X.heap.size := by have := HB3.out.size; omega
   have hmXX : ∀ k, mo E M k -> k < X.heap.size := fun k hk => by
    have h1 := HLT.out
    have h2 := HS3.out
    have h3 := hJ.bi.lt
    rw [HE.out] at h3
    rw [HE.out] at hk
    rcases hk with h | h | h | h | h
    ·exact hMX k h
    ·dsimp only at h; omega
    ·dsimp only at h; omega
    ·dsimp only at h; omega
    ·dsimp only at h; omega
   have ht := HT.out Oo (mo E M) m (gb, cb, Da.mbs13 (0 :: leaf) (Da.ups n i) ps m) (m + 1) X hmn hmXX hJ.ol hxx hio ⟨rfl, Nat.le_refl _, rfl, by have := hJ.buf; rw [HE.out] at this; exact this, hJ.mg⟩
   dsimp only at ht
   obtain ⟨fn, tmps, assign, body, hy, hR⟩ := ht
   have hc5 := hJ.b5.cell
   have hc6 := hJ.b6.cell
   rw [HE.out] at hc5 hc6
   dsimp only at hc5 hc6
   have HRR := Lh hR
   have HMXX := Lh hmXX
   have HJ := Lh hJ
   have HMN := Lh hmn
   have HKK := Lh hK'
   have HDX := Lh hDX
   have HOX := Lh hOX
   clear hR hJ hmn hxx hio hMX hOX hDX hK' hmXX
   go_upto_region 7 with fail
   refine (wpIn_wide (n := 0)).1 ?_
   gi_wp2
   refine ⟨rfl, HRR.out.mono ?_⟩
   rintro e Y ⟨Oo', hcase, hf⟩
   have hno : ¬ Oo X3.heap.size := fun h => by
    have h1 := HJ.out.lo _ h
    have h2 := HLT.out
    have h3 := HS3.out
    rw [HE.out] at h1
    dsimp only at h1
    omega
   have hK2 : Y.heap[X3.heap.size]? = some (.deferred (some [])) := by rw [hf.same _ HDX.out hno]; exact HKK.out
   have hmut : Rf.Mut (mo E M) Y (Y.putObj X3.heap.size (.deferred none)) := Rf.Mut.put Y (by rw [<- hd]; exact .inr (.inr (.inr (.inl rfl)))) _
   have hmY : ∀ k, mo E M k -> k < Y.heap.size := fun k hk => Nat.lt_of_lt_of_le (HMXX.out k hk) hf.size
   rcases hcase with ⟨rfl, h2⟩ | ⟨rfl, h2⟩
   ·have hi2 := HII.out _ _ _ _ _ HMN.out h2 hmut
    have HFI : Hid ((∀ k, mo E M k -> k < (Y.putObj X3.heap.size (.deferred none)).heap.size) /\ (∀ k, Oo' k -> k < (Y.putObj X3.heap.size (.deferred none)).heap.size) /\ I Oo' (mo E M) (m + 1) (Y.putObj X3.heap.size (.deferred none))) := Lh ⟨fun k hk => by simpa using hmY k hk, fun k hk => by simpa using (hf.ext k hk).1, hi2⟩
    have HK2 := Lh hK2
    clear hi2 hno hmut hmY h2 hf hK2
    go_wp2_with fail
    refine Rf.leaves HK2.out (results_none rfl _ _ _) ?_
    exact ⟨⟨_, rfl⟩, .inl ⟨Oo', mo E M, m + 1, HMN.out, HFI.out.1, HFI.out.2.1, rfl, HFI.out.2.2⟩⟩
   ·have hi2 := HBX.out _ _ _ _ HMN.out h2 hmut
    have HFI := Lh hi2
    have HK2 := Lh hK2
    clear hi2 hno hmut hmY h2 hf hK2
    go_wp2_with fail
    refine Rf.leaves HK2.out (results_none rfl _ _ _) ?_
    exact ⟨⟨_, rfl⟩, .inr ⟨Oo', mo E M, HMN.out, HFI.out⟩⟩
  case stop =>
   rintro c O M X hM ⟨rfl, Oo, hbx⟩ hK'
   have hd : E.D = X3.heap.size := by rw [HE.out]
   have hmn := mo_new (B := X0.heap.size) HEK.out (by rw [hd]; exact hM) (by rw [HE.out]; exact Nat.le_of_eq HP5.out)
   have hb2 := HBX.out _ _ _ _ hmn hbx (Rf.Mut.put X (M := mo E M) (k := X3.heap.size) (by rw [<- hd]; exact .inr (.inr (.inr (.inl rfl)))) (.deferred none))
   go_wp2_with fail
   refine Rf.leaves hK' (results_none rfl _ _ _) ?_
   exact ⟨⟨_, rfl⟩, .inr ⟨Oo, mo E M, hmn, hb2⟩⟩
end Go.Proofs.YtffheegeaghfjaaGreatDoor
namespace Go.Proofs.YtffheegeaghfjaaGreatDoor
open Go.RowKit
attribute [local go_sem] Oper.semAt_some
def errP (A : Nat -> Addr) (b : Nat) : Value := if b = 0 then .nilIface else .iface 256 (.pointer (some (A (b - 1))))
structure E13 (W : World) (A : Nat -> Addr) : Prop where
 c0 : W.cell? ⟨1, 0, none⟩ = some (.iface 256 (.pointer (some (A 0))))
 c7 : W.cell? ⟨0, 0, none⟩ = some (.iface 256 (.pointer (some (A 7))))
 c14 : W.cell? ⟨14, 0, none⟩ = some (.iface 256 (.pointer (some (A 14))))
theorem E13.later {W W' : World} {A : Nat -> Addr} (h : E13 W A) (hb : Below W.heap.size W W') : E13 W' A := by
 have k : ∀ (g : Nat) (v : Value), W.cell? ⟨g, 0, none⟩ = some v -> W'.cell? ⟨g, 0, none⟩ = some v := fun g v hc => by
  rw [hb.cell (p := ⟨g, 0, none⟩) (St.cell_lt hc)]; exact hc
 exact ⟨k _ _ h.c0, k _ _ h.c7, k _ _ h.c14⟩
theorem made_world (n i : Int) (ol op : Option Addr) (L cl m cp : Nat) (w : World) (q : Nat) (hq : w.heap.size = q) : ∃ X,
    Calls Tryz.prog 109 #[.int .i64 n, .int .i64 i, .slice ol L cl, .slice op m cp] w (fun e w' =>
      e = .returned (.func (.func 137) #[] #[.pointer (some ⟨q + 2, 0, none⟩), .pointer (some ⟨q + 3, 0, none⟩), .pointer (some ⟨q, 0, none⟩), .pointer (some ⟨q + 1, 0, none⟩)]) /\ w' = X) /\
    Below w.heap.size w X /\ X.heap.size = q + 4 /\ Boxed X q 3 (.int .i64 n) /\ Boxed X (q + 1) 3 (.int .i64 i) /\ Boxed X (q + 2) 22 (.slice ol L cl) /\ Boxed X (q + 3) 70 (.slice op m cp) := by
 obtain ⟨W1, hW1⟩ : ∃ W1, w.alloc (.cells #[.int .i64 n] 3) = W1 := ⟨_, rfl⟩
 have hs1 : W1.heap.size = q + 1 := by rw [<- hW1, World.size_alloc, hq]
 obtain ⟨W2, hW2⟩ : ∃ W2, W1.alloc (.cells #[.int .i64 i] 3) = W2 := ⟨_, rfl⟩
 have hs2 : W2.heap.size = q + 2 := by rw [<- hW2, World.size_alloc, hs1]
 obtain ⟨W3, hW3⟩ : ∃ W3, W2.alloc (.cells #[.slice ol L cl] 22) = W3 := ⟨_, rfl⟩
 have hs3 : W3.heap.size = q + 3 := by rw [<- hW3, World.size_alloc, hs2]
 obtain ⟨W4, hW4⟩ : ∃ W4, W3.alloc (.cells #[.slice op m cp] 70) = W4 := ⟨_, rfl⟩
 have hs4 : W4.heap.size = q + 4 := by rw [<- hW4, World.size_alloc, hs3]
 have hb1 : Below w.heap.size w W1 := by rw [<- hW1]; exact new12 _ _
 have hb2 : Below W1.heap.size W1 W2 := by rw [<- hW2]; exact new12 _ _
 have hb3 : Below W2.heap.size W2 W3 := by rw [<- hW3]; exact new12 _ _
 have hb4 : Below W3.heap.size W3 W4 := by rw [<- hW4]; exact new12 _ _
 have x1 : Boxed W1 q 3 (.int .i64 n) := by rw [<- hW1, <- hq]; exact Boxed.new _ _ _
 have x2 : Boxed W2 (q + 1) 3 (.int .i64 i) := by rw [<- hW2, <- hs1]; exact Boxed.new _ _ _
 have x3 : Boxed W3 (q + 2) 22 (.slice ol L cl) := by rw [<- hW3, <- hs2]; exact Boxed.new _ _ _
 have x4 : Boxed W4 (q + 3) 70 (.slice op m cp) := by rw [<- hW4, <- hs3]; exact Boxed.new _ _ _
 have MM := mmade_any n i ol op L cl m cp w
 rw [hW1, hW2, hW3, hW4, hq] at MM
 exact ⟨W4, MM, Ks (Ks (Ks hb1 hb2) hb3) hb4, hs4, boxed_later (boxed_later (boxed_later x1 hb2) hb3) hb4, boxed_later (boxed_later x2 hb3) hb4, boxed_later x3 hb4, x4⟩
structure FoI (bb : Nat -> List UInt8) (g : Nat) (W : World) (M : Rf.Blk) (s : Nat) (v : Value) (X : World) : Prop where
 box : Boxed X g 22 v
 els : Rf.Mut (fun k => k = g) W X
 val : s = 0 ∨ ∃ gb cb, v = .slice (some ⟨gb, 0, none⟩) (bb (s - 1)).length cb /\ Buf X gb cb (bb (s - 1)) /\ ¬ M gb /\ gb ≠ W.heap.size /\ gb ≠ W.heap.size + 1
 lt : g < W.heap.size
theorem FoI.mut {bb : Nat -> List UInt8} {g : Nat} {W : World} {M : Rf.Blk} {s : Nat} {v : Value} {X X' : World} (h : FoI bb g W M s v X) (hM : ∀ k, M k -> W.heap.size + 2 <= k) (k : Rf.Mut (Rf.own2 W.heap.size M) X X') : FoI bb g W M s v X' := by
 have hn : ∀ k, k < W.heap.size -> ¬ Rf.own2 W.heap.size M k := fun k hk hh => by
  rcases hh with h1 | h1 | h1
  ·have := hM k h1; omega
  ·omega
  ·omega
 refine ⟨box_block h.box (k.same _ h.box.lt (hn _ h.lt)), ⟨k.os.trans h.els.os, k.tape.trans h.els.tape, k.output.trans h.els.output, Nat.le_trans h.els.size k.size, fun i hi hng => (k.same i (Nat.lt_of_lt_of_le hi h.els.size) (hn i hi)).trans (h.els.same i hi hng)⟩, ?_, h.lt⟩
 rcases h.val with h0 | ⟨gb, cb, e, hb, h1, h2, h3⟩
 ·exact .inl h0
 ·refine .inr ⟨gb, cb, e, hb.block (k.same gb hb.lt fun hh => ?_), h1, h2, h3⟩
  rcases hh with h4 | h4 | h4
  ·exact h1 h4
  ·exact h2 h4
  ·exact h3 h4
theorem FoI.keep {bb : Nat -> List UInt8} {g : Nat} {W : World} {M : Rf.Blk} {s : Nat} {v : Value} {X : World} (h : FoI bb g W M s v X) {q : Nat} {t : TypeId} {u : Value} (hb : Boxed W q t u) (hq : q ≠ g) : Boxed X q t u := box_block hb (h.els.same q hb.lt hq)
theorem pfold_of (Z : Array Value) (hZ : Z = (bytesV (List.replicate 32 0)).toArray) (hzs : ∀ w, Sem.run Tryz.prog (zeroValue 32) w = .ok (.agg Z) w)
    (leaf : List UInt8) (ol : Option Addr) (cl : Nat) (ps : List (List UInt8)) (op : Option Addr) (m cp n i : Nat) (hm : ps.length = m) (hu : (Da.ups n i).length = m) (hi : i < n) (h5 : n <= 512) (hl5 : leaf.length <= 8900) (w : World)
    (hR : RowIs w ol (bytesV leaf) cl) (hP : DgIs w op ps cp) (hV : Cds w) :
    Calls Tryz.prog 68 #[.int .i64 (n : Int), .int .i64 (i : Int), .slice ol leaf.length cl, .slice op m cp] w fun e w' => e = .returned (.tuple #[.agg (bytesV (Da.fs (Da.lf leaf) (Da.ups n i) ps m)).toArray, .nilIface]) /\ Below w.heap.size w w' := by
 obtain ⟨g, hg⟩ : ∃ g, w.heap.size = g := ⟨_, rfl⟩
 obtain ⟨W1, hW1⟩ : ∃ W1, w.alloc (Obj.cells Z 32) = W1 := ⟨_, rfl⟩
 have hb1 : Below w.heap.size w W1 := by rw [<- hW1]; exact new12 _ _
 have hA1 : Arr W1 g 32 Z.toList := by rw [<- hW1, <- hg]; exact Arr.made _ _ _
 have PL := plen_any n i hi h5 W1
 rw [hu] at PL
 have hm9 : m <= 9 := by rw [<- hu]; exact Da.ups_nine h5 i
 have hfl := Da.fs_length (Da.lf_length leaf) (Da.ups n i) ps m
 have hsh := Da.sha_mb (0 :: leaf) (Da.ups n i) ps m
 rw [show Da.sha (0 :: leaf) = Da.lf leaf from rfl] at hsh
 obtain ⟨F, hF⟩ : ∃ F, (bytesV (Da.fs (Da.lf leaf) (Da.ups n i) ps m)).toArray = F := ⟨_, rfl⟩
 have HFS : Hid ((Tryz.prog.info? 32).map (·.size) = some F.size) := Lh (by rw [dg_info, <- hF]; simp [hfl])
 have HFO : Hid (F.all (·.oneCell') = true) := Lh (by rw [<- hF]; exact all_oneCell_toArray (bytesV_one _))
 have HFZ : Hid (Z.size = F.size) := Lh (by rw [hZ, <- hF]; simp [hfl])
 have hd1 : decide ((m : Int) < 0) = false := decide_eq_false (by omega)
 have MG := made_gives leaf ol cl ps op m cp n i
 obtain ⟨L, hL⟩ : ∃ L, leaf.length = L := ⟨_, rfl⟩
 have HMG := Lh (fun QL QP QN QI => MG QL QP QN QI hm hu hi h5 hl5)
 have HF := Lh hF
 have HL := Lh hL
 have HPL := Lh PL
 have HW1 := Lh hW1
 have HB1 := Lh hb1
 have HA1 := Lh hA1
 have HG := Lh hg
 have HSH := Lh hsh
 have HR := Lh (hR.later hb1)
 have HP := Lh (hP.later hb1)
 have HV := Lh (hV.later hb1)
 have HHM := Lh hm
 rw [HF.out, HL.out]
 clear MG hF hL PL hW1 hb1 hA1 hg hsh hfl hR hP hV hu hi hZ hm
 refine Rf.calls_marks Tryz.func68 rfl ?_
 simp only [Tryz.ntmps68, List.size_toArray, List.length_cons, List.length_nil, Nat.reduceAdd, Nat.reduceSub, Array.replicate_succ, Array.replicate_zero, List.push_toArray, List.append_toArray, List.nil_append, List.cons_append]
 go_upto_region 1 with fail
 rw [HW1.out, HG.out]
 go_wp2_with fail
 refine HPL.out.mono ?_
 rintro e W2 ⟨rfl, hb2⟩
 have HB2 := Lh hb2
 clear hb2 HPL
 go_upto_region 7 with fail
 obtain ⟨q, hq⟩ : ∃ q, W2.heap.size = q := ⟨_, rfl⟩
 obtain ⟨W3, hW3⟩ : ∃ W3, W2.alloc (.cells #[.slice none 0 0] 22) = W3 := ⟨_, rfl⟩
 have hb3 : Below W2.heap.size W2 W3 := by rw [<- hW3]; exact new12 _ _
 have hs3 : W3.heap.size = q + 1 := by rw [<- hW3, World.size_alloc, hq]
 have hx3 : Boxed W3 q 22 (.slice none 0 0) := by rw [<- hW3, <- hq]; exact Boxed.new _ _ _
 obtain ⟨W4, MM, hb4, hs4, hbn, hbi, hbl, hbp⟩ := made_world (n : Int) (i : Int) ol op L cl m cp W3 (q + 1) hs3
 have hB14 := Ks (Ks HB2.out hb3) hb4
 have hB4 := Ks HB1.out hB14
 have hA4 : Arr W4 g 32 Z.toList := HA1.out.later hB14 HA1.out.lt
 have hx4 := boxed_later hx3 hb4
 have HPRE : Hid (∀ X, Rf.Mut (fun k => k = q) W4 X -> Boxed X (q + 1 + 2) 22 (.slice ol leaf.length cl) /\ Boxed X (q + 1 + 3) 70 (.slice op m cp) /\ Boxed X (q + 1) 3 (.int .i64 (n : Int)) /\ Boxed X (q + 1 + 1) 3 (.int .i64 (i : Int)) /\ RowIs X ol (bytesV leaf) cl /\ DgIs X op ps cp /\ Cds X) := Lh fun X hX => by
  have hk : ∀ {b : Nat} {t : TypeId} {u : Value}, Boxed W4 b t u -> b ≠ q -> Boxed X b t u := fun hb hne => box_block hb (hX.same _ hb.lt hne)
  have hq1 : W1.heap.size <= q := by have := HB2.out.size; omega
  have hbx : Below W1.heap.size W1 X := hB14.trans (hX.below (fun k hk e => by omega) hB14.size)
  refine ⟨by rw [HL.out]; exact hk hbl (by omega), hk hbp (by omega), hk hbn (by omega), hk hbi (by omega), HR.out.later hbx, HP.out.later hbx, HV.out.later hbx⟩
 have HMM := Lh MM
 have HW3 := Lh hW3
 have HB14 := Lh hB14
 have HB4 := Lh hB4
 have HA4 := Lh hA4
 have HQ := Lh hq
 have hgq : g < q := by have := HA1.out.lt; have := HB2.out.size; omega
 have HGQ := Lh hgq
 have HS4 := Lh hs4
 have HI0 : Hid (∀ M, FoI (Da.mbs13 (0 :: leaf) (Da.ups n i) ps) q W4 M 0 (.slice none 0 0) W4) := Lh fun M => ⟨hx4, Rf.Mut.refl _ _, .inl rfl, hx4.lt⟩
 rw [hq]
 clear hq hW3 hb3 hs3 hx3 MM hb4 hs4 hbn hbi hbl hbp hB14 hB4 hA4 hx4 hgq
 rw [HW3.out]
 go_wp2_with fail
 refine HMM.out.mono ?_
 rintro e w4 ⟨rfl, rfl⟩
 rename World => W4
 clear HMM HW3
 go_wp2_with fail
 refine Rf.range_toldM (α := Nat × Nat × List UInt8) (σ := Nat) rfl (enters_of Tryz.func137 (by kernel_rfl) rfl) (fun x => #[.slice (some ⟨x.1, 0, none⟩) x.2.2.length x.2.1]) (fun _ => rfl) _ _ _ _ (HMG.out (q + 1 + 2) (q + 1 + 3) (q + 1) (q + 1 + 1))
  (fun k => k = q)
  (fun O M s X => (∀ k, O k ↔ k = q) /\ ∃ v, FoI (Da.mbs13 (0 :: leaf) (Da.ups n i) ps) q W4 M s v X)
  (fun c O M X => False)
  ?hO0 ?hI ?hIx ?hP ?hV ?h0 ?round ?done ?stop
 case hO0 =>
  rintro k rfl
  have := HS4.out
  omega
 case hI => exact fun O M s X X' hM ⟨hO, v, h⟩ k => ⟨hO, v, h.mut hM k⟩
 case hIx => exact fun c O M X X' hM h k => h
 case hP => exact fun O M s X ⟨_, v, h⟩ => HPRE.out X h.els
 case hV => exact fun M s x s' X X' h k => ⟨h.1, h.2.1, h.2.2.1, h.2.2.2.1.nc k, h.2.2.2.2⟩
 case h0 => exact fun M hM => ⟨fun _ => Iff.rfl, _, HI0.out M⟩
 case round =>
  rintro l O M s x s' X Z' To hM hMX hOX hDX ⟨hO, v, hI⟩ ⟨rfl, hsm, hx, hbuf, hnm⟩ hsz hrec hdef HN' HR' HE'
  obtain ⟨gb, cb, B⟩ := x
  dsimp only at hx hbuf hnm
  have HX := Lh hx
  have HBUF := Lh hbuf
  have HNM := Lh hnm
  have HII := Lh hI
  have HO := Lh hO
  have HOX := Lh hOX
  have HMX := Lh hMX
  have HDX := Lh hDX
  have HSZ := Lh hsz
  obtain ⟨cur, hcur⟩ := hbuf.cells
  have hg1 : gb ≠ W4.heap.size := fun e => by
   rw [e, hdef] at hcur
   cases hcur
  have hg2 : gb ≠ W4.heap.size + 1 := fun e => by
   obtain ⟨r, hr⟩ := hrec
   rw [e, hr] at hcur
   cases hcur
  have HGD := Lh (And.intro hg1 hg2)
  clear hg1 hg2
  clear hx hbuf hnm hI hO hOX hMX hDX hsz hM hrec hdef hcur cur
  gi_wp2
  refine ⟨Below.refl _ _, fun Y hY hnew hsy => ?_⟩
  have hbY := boxed_later HII.out.box hY
  have hc := hbY.cell
  have hf := hbY.frozen
  obtain ⟨Y2, hY2⟩ : ∃ Y2, Y.setCell ⟨q, 0, none⟩ (.slice (some ⟨gb, 0, none⟩) B.length cb) = Y2 := ⟨_, rfl⟩
  have hbufY := HBUF.out.later hY
  have hne := hbufY.ne hbY (by decide)
  have hgr : Y.grownBy Y2 (some q) := by rw [<- hY2]; exact grownBy_setCell' _ _ _
  have hOY : ∀ k, O k -> k < Y.heap.size := fun k hk => Nat.lt_of_lt_of_le (HOX.out k hk).1 hY.size
  have HFI : Hid (Rf.Fr O X O Y2 /\ ∃ v, FoI (Da.mbs13 (0 :: leaf) (Da.ups n i) ps) q W4 M (s + 1) v Y2) := Lh
   ⟨(Rf.Fr.of_below hY (fun k hk => (HOX.out k hk).1)).trans (Rf.Fr.grown hgr hOY (fun k e => by cases e; exact (HO.out _).2 rfl)), .slice (some ⟨gb, 0, none⟩) B.length cb,
    by rw [<- hY2]; exact hbY.set _, HII.out.els.trans ((Rf.Mut.of_below hY).trans (Rf.Mut.grown hgr (fun k e => by cases e; rfl))),
    .inr ⟨gb, cb, by rw [Nat.add_sub_cancel, <- HX.out], by rw [Nat.add_sub_cancel, <- HX.out]; exact hbufY.block (hgr.block gb hbufY.lt (by simp; exact hne)), HNM.out, HGD.out⟩, HII.out.lt⟩
  have HY2 := Lh hY2
  clear hbY hY2 hbufY hne hgr hOY hY hnew hsy
  gi_wp2
  rw [HY2.out]
  exact HN'.out _ _ _ HFI.out.1 ⟨HO.out, HFI.out.2⟩
 case done =>
  rintro O M s X hM hMX hOX hD1 rfl ⟨hO, v, hI⟩ hK'
  have hb4X := hI.els.below (n := g + 1) (fun k hk e => by have := HGQ.out; omega) (by have := HS4.out; have := HGQ.out; omega)
  rcases hI.val with h0 | ⟨gb, cb, hv, hbuf, hnm, hgd⟩
  ·cases h0
  rw [Nat.add_sub_cancel] at hv hbuf
  obtain ⟨B, hB⟩ : ∃ B, Da.mbs13 (0 :: leaf) (Da.ups n i) ps m = B := ⟨_, rfl⟩
  have hSB : Da.sha B = Da.fs (Da.lf leaf) (Da.ups n i) ps m := by rw [<- hB]; exact HSH.out
  rw [hB] at hv hbuf
  subst hv
  have hc := hI.box.cell
  have hpre := HPRE.out X hI.els
  have hBl : B.length <= 9000 := by
   rw [<- hB]
   cases m with
   | zero => show (0 :: leaf).length <= 9000; rw [List.length_cons]; omega
   | succ m' => rw [Da.mbs13_len _ _ _ _ (hpre.2.2.2.2.2.1.all.at_ (by rw [HHM.out]; omega))]; omega
  obtain ⟨X2, hX2⟩ : ∃ X2, X.alloc (.cells #[.slice (some ⟨gb, 0, none⟩) B.length cb] 22) = X2 := ⟨_, rfl⟩
  have hba := new12 X (.cells #[.slice (some ⟨gb, 0, none⟩) B.length cb] 22)
  have hone := one_part hbuf.row
  rw [hX2] at hone hba
  have SO := sof_any [B] _ 1 X2 hone (hpre.2.2.2.2.2.2.later hba) (by simp; omega) (by simp)
  rw [show ([B] : List (List UInt8)).flatten = B by simp, List.length_singleton, hSB, HF.out] at SO
  have hgW : W4.heap[g]? = some (.cells Z 32 (0, 0)) := HA4.out
  have hgX : X.heap[g]? = some (.cells Z 32 (0, 0)) := by rw [hb4X.block g (by omega)]; exact hgW
  have hgX2 : X2.heap[g]? = some (.cells Z 32 (0, 0)) := by rw [hba.block g (aE.1 hgX).1]; exact hgX
  have HGX2 := Lh hgX2
  have HSO := Lh SO
  have HX2 := Lh hX2
  have HBA := Lh hba
  have HKK := Lh hK'
  have HWX : Hid (Below w.heap.size w X) := Lh (HB4.out.trans (hb4X.mono (by have := HG.out; omega)))
  clear hI hO hb4X hbuf hgd hnm hB hSB hpre hone hX2 SO hgW hgX hgX2 hba hK' hMX hOX hM hD1
  go_upto_region 10 with fail
  apply wp_region_lit
  iterate 2 (refine wpList_plain rfl (fun K hK => ?_); go_simp; refine hK _ _ ?_; clear hK K)
  rw [HX2.out]
  (refine wpList_plain rfl (fun K hK => ?_); go_simp)
  refine HSO.out.mono ?_
  rintro e X3 ⟨rfl, hb3⟩
  refine hK _ _ ?_
  clear hK K HSO
  have hgX3 : X3.heap[g]? = some (.cells Z 32 (0, 0)) := by rw [hb3.block g (aE.1 HGX2.out).1]; exact HGX2.out
  have HGX3 := Lh hgX3
  have hbX3 := Ks HBA.out hb3
  have hlt4 : W4.heap.size < X.heap.size := (aE.1 HKK.out).1
  have hneg : W4.heap.size ≠ g := by have := HS4.out; have := HGQ.out; omega
  have hK3 : (X3.setRow g F).heap[W4.heap.size]? = some (.deferred (some [])) := by rw [setRow_other X3 g _ F (by omega), hbX3.block _ hlt4]; exact HKK.out
  have HK3 := Lh hK3
  have hg4 : ((X3.setRow g F).putObj W4.heap.size (.deferred none)).heap[g]? = some (.cells F 32 (0, 0)) := by
   rw [World.putObj_heap_other (by omega)]
   exact setRow_heap _ _ _ _ _ _ hgX3
  have HG4 := Lh hg4
  have HBW : Hid (Below w.heap.size w ((X3.setRow g F).putObj W4.heap.size (.deferred none))) := Lh
   (((Ks HWX.out hbX3).trans (below_row (Nat.le_of_eq HG.out))).trans (belowK_b (w := w) (Nat.le_refl _) (X3.setRow g F) W4.heap.size _ _ (by have := HB4.out.size; omega) hK3 rfl rfl))
  clear hb3 hgX3 hbX3 hlt4 hneg hK3 hg4
  refine wpList_store_row rfl 32 (.tmp 8) (.tmp 35) rfl g F rfl rfl 32 Z HGX3.out HFS.out HFZ.out HFO.out ?_
  go_wp2_with fail
  refine Rf.leaves HK3.out (results_cell_row2 rfl _ _ g 32 F (0, 0) _ rfl HG4.out dg_under rfl HFS.out) ?_
  exact ⟨rfl, HBW.out⟩
 case stop => exact fun c O M X hM h => h.elim
theorem pfold_any (leaf : List UInt8) (ol : Option Addr) (cl : Nat) (ps : List (List UInt8)) (op : Option Addr) (m cp n i : Nat) (hm : ps.length = m) (hu : (Da.ups n i).length = m) (hi : i < n) (h5 : n <= 512) (hl5 : leaf.length <= 8900) (w : World)
    (hR : RowIs w ol (bytesV leaf) cl) (hP : DgIs w op ps cp) (hV : Cds w) :
    Calls Tryz.prog 68 #[.int .i64 (n : Int), .int .i64 (i : Int), .slice ol leaf.length cl, .slice op m cp] w fun e w' => e = .returned (.tuple #[.agg (bytesV (Da.fs (Da.lf leaf) (Da.ups n i) ps m)).toArray, .nilIface]) /\ Below w.heap.size w w' :=
 pfold_of _ rfl dg_zero leaf ol cl ps op m cp n i hm hu hi h5 hl5 w hR hP hV
end Go.Proofs.YtffheegeaghfjaaGreatDoor
namespace Go.Proofs.YtffheegeaghfjaaGreatDoor
open Go.RowKit
theorem dgq_neq (xs ys : List UInt8) (hx : xs.length = 32) (hy : ys.length = 32) (w : World) : (binOp .neq 32 (.agg (bytesV xs).toArray) (.agg (bytesV ys).toArray)).run Tryz.prog w = .ok (.bool (!(xs == ys))) w := by
 have h := run_equalIn_bytes (P := Tryz.prog) w 9998 32 5 32 dg_under Tryz.underlying5 (fun w => by
  obtain ⟨i0, hi, _, hz1, _⟩ := info_parts info_u8
  simp [sizeOf, typeInfo, hi, hz1]) xs ys hx hy
 have h' : (Op.equalIn 10000 32 (.agg (bytesV xs).toArray) (.agg (bytesV ys).toArray)).run Tryz.prog w = .ok (xs == ys) w := h
 rw [run_neq_struct, h']
 rfl
theorem dg_built13 : Tryz.prog.built 32 [] = some (bytesV (List.replicate 32 0)).toArray := by kernel_rfl
theorem neq_nil13 (v : World) : (binOp .neq 36 .nilIface .nilIface).run Tryz.prog v = .ok (.bool false) v := by kernel_rfl
theorem pfold_range_of (Z : Array Value) (hZ : Z = (bytesV (List.replicate 32 0)).toArray) (hzs : ∀ w, Sem.run Tryz.prog (zeroValue 32) w = .ok (.agg Z) w) (hbu : Tryz.prog.built 32 [] = some Z)
    (n i : Int) (lv : Value) (op : Option Addr) (m cp : Nat) (hbad : ¬ (0 <= i /\ i < n /\ n <= 512)) (A : Nat -> Addr) (w : World) (hA : E13 w A) :
    Calls Tryz.prog 68 #[.int .i64 n, .int .i64 i, lv, .slice op m cp] w fun e w' => e = .returned (.tuple #[.agg Z, errP A 1]) /\ Below w.heap.size w w' := by
 obtain ⟨g, hg⟩ : ∃ g, w.heap.size = g := ⟨_, rfl⟩
 obtain ⟨W1, hW1⟩ : ∃ W1, w.alloc (Obj.cells Z 32) = W1 := ⟨_, rfl⟩
 have hb1 : Below w.heap.size w W1 := by rw [<- hW1]; exact new12 _ _
 have hA1 : Arr W1 g 32 Z.toList := by rw [<- hW1, <- hg]; exact Arr.made _ _ _
 have hE1 := hA.later hb1
 have hgne : (1 : Nat) ≠ g := by have := St.cell_lt hA.c0; omega
 have HGN := Lh hgne
 have PL := (plen_bad n i hbad W1).mono (R' := fun e w' => e = .returned (.int .i64 (-1)) /\ Below W1.heap.size W1 w') (fun e w' h => ⟨h.1, by rw [h.2]; exact Below.refl _ _⟩)
 have HPL := Lh PL
 clear PL
 have HZS : Hid (Z.size = Z.size) := Lh rfl
 have HZI : Hid ((Tryz.prog.info? 32).map (·.size) = some Z.size) := Lh (by rw [dg_info, hZ]; simp)
 have HZO : Hid (Z.all (·.oneCell') = true) := Lh (by rw [hZ]; exact all_oneCell_toArray (bytesV_one _))
 have HB1 := Lh hb1
 have HA1 := Lh hA1
 have HE1 := Lh hE1
 have HW1 := Lh hW1
 have HG := Lh hg
 have HBU := Lh hbu
 clear hb1 hA1 hE1 hW1 hg hZ hA hbu hgne
 go_enter Tryz.func68, Tryz.ntmps68
 go_upto_region 1 with fail
 rw [HW1.out, HG.out]
 clear HW1
 go_wp2_with fail
 refine HPL.out.mono ?_
 rintro e W2 ⟨rfl, hb2⟩
 have hA2 := HA1.out.later hb2 HA1.out.lt
 have hE2 := HE1.out.later hb2
 have HB2 := Lh (Ks HB1.out hb2)
 obtain ⟨C, hC⟩ : ∃ C : World -> Prop, (fun v : World => v.heap[g]? = some (.cells Z 32 (0, 0)) /\ v.cell? ⟨1, 0, none⟩ = some (.iface 256 (.pointer (some (A 0)))) /\ Below w.heap.size w v) = C := ⟨_, rfl⟩
 have HC2 : Hid (∀ v, C v -> v.heap[g]? = some (.cells Z 32 (0, 0)) /\ v.cell? ⟨1, 0, none⟩ = some (.iface 256 (.pointer (some (A 0)))) /\ Below w.heap.size w v) := Lh fun v hv => by rw [<- hC] at hv; exact hv
 have HC1 : Hid (∀ v, v.heap[g]? = some (.cells Z 32 (0, 0)) -> v.cell? ⟨1, 0, none⟩ = some (.iface 256 (.pointer (some (A 0)))) -> Below w.heap.size w v -> C v) := Lh fun v h1 h2 h3 => by rw [<- hC]; exact ⟨h1, h2, h3⟩
 have hC0 : C W2.drew := HC1.out _ hA2 hE2.c0 (Ks HB2.out (Kit.dn' W2 1))
 clear hC hA2 hE2 hb2 HPL
 go_upto_region 3 with fail
 refine Rgt.region C (fun _ => false) (by kernel_rfl) ?_
 refine Rgt.take (i := 0) (x := .agg Z) rfl rfl (by kernel_rfl) (by kernel_rfl) (by kernel_rfl) (by kernel_rfl) (fun _ _ _ h => h) (Or.inl ⟨by kernel_rfl, fun w hw => exec_build rfl HBU.out w⟩) hC0 ?_
 go_simp
 refine Rgt.take (i := 1) (x := .iface 256 (.pointer (some (A 0)))) rfl rfl (by kernel_rfl) (by kernel_rfl) (by kernel_rfl) (by kernel_rfl) (fun _ _ _ h => h) (Or.inl ⟨by kernel_rfl, fun w hw => by have hc := (HC2.out w hw).2.1; (go_simp <;> with_reducible rfl)⟩) hC0 ?_
 go_simp
 have hgw := (HC2.out _ hC0).1
 have hcw := (HC2.out _ hC0).2.1
 have hbw := (HC2.out _ hC0).2.2
 obtain ⟨W3, hW3⟩ : ∃ W3, W2.drew = W3 := ⟨_, rfl⟩
 rw [hW3] at hgw hcw hbw ⊢
 have hb4 : Below w.heap.size w (W3.setRow g Z) := hbw.trans (below_row (Nat.le_of_eq HG.out))
 have hg4 : (W3.setRow g Z).heap[g]? = some (.cells Z 32 (0, 0)) := setRow_heap _ _ _ _ _ _ hgw
 have hc4 : (W3.setRow g Z).cell? ⟨1, 0, none⟩ = some (.iface 256 (.pointer (some (A 0)))) := by
  rw [World.cell?_of_block (a := ⟨1, 0, none⟩) (setRow_other W3 g 1 Z HGN.out)]
  exact hcw
 have hC4 := HC1.out _ hg4 hc4 hb4
 have HG4 := Lh hg4
 have HB4 := Lh hb4
 clear hC0 hcw hbw hb4 hg4 hc4
 refine Rgt.ready (i := 2) (by kernel_rfl) rfl (by kernel_rfl) (fun K hK => ?_)
 refine wp_store_row 32 (.tmp 8) (.tmp 18) rfl g Z rfl rfl 32 Z hgw HZI.out rfl HZO.out (hK _ _ hC4 ?_)
 clear hK K hgw
 refine Rgt.ready (i := 3) (by kernel_rfl) rfl (by kernel_rfl) (fun K hK => ?_)
 go_simp
 refine hK _ _ hC4 ?_
 clear hK K
 refine Rgt.done (by kernel_rfl) ?_ _
 go_wp2_with fail
 refine bodyPost_ret (results_cell_row2 rfl _ _ g 32 Z (0, 0) _ rfl HG4.out dg_under rfl HZI.out) rfl ?_
 exact ⟨rfl, HB4.out⟩
theorem pfold_range_any (n i : Int) (lv : Value) (op : Option Addr) (m cp : Nat) (hbad : ¬ (0 <= i /\ i < n /\ n <= 512)) (A : Nat -> Addr) (w : World) (hA : E13 w A) :
    Calls Tryz.prog 68 #[.int .i64 n, .int .i64 i, lv, .slice op m cp] w fun e w' => e = .returned (.tuple #[.agg (bytesV (List.replicate 32 0)).toArray, errP A 1]) /\ Below w.heap.size w w' := pfold_range_of _ rfl dg_zero dg_built13 n i lv op m cp hbad A w hA
theorem pfold_size_of (Z : Array Value) (hZ : Z = (bytesV (List.replicate 32 0)).toArray) (hzs : ∀ w, Sem.run Tryz.prog (zeroValue 32) w = .ok (.agg Z) w) (hbu : Tryz.prog.built 32 [] = some Z)
    (n i : Int) (lv : Value) (op : Option Addr) (m cp : Nat) (hn0 : 0 <= n) (hi0 : 0 <= i) (hin : i < n) (hn5 : n <= 512) (hne : m ≠ (Da.ups n.toNat i.toNat).length) (hmm : m <= 1000000) (A : Nat -> Addr) (w : World) (hA : E13 w A) :
    Calls Tryz.prog 68 #[.int .i64 n, .int .i64 i, lv, .slice op m cp] w fun e w' => e = .returned (.tuple #[.agg Z, errP A 8]) /\ Below w.heap.size w w' := by
 obtain ⟨g, hg⟩ : ∃ g, w.heap.size = g := ⟨_, rfl⟩
 obtain ⟨W1, hW1⟩ : ∃ W1, w.alloc (Obj.cells Z 32) = W1 := ⟨_, rfl⟩
 have hb1 : Below w.heap.size w W1 := by rw [<- hW1]; exact new12 _ _
 have hA1 : Arr W1 g 32 Z.toList := by rw [<- hW1, <- hg]; exact Arr.made _ _ _
 have hE1 := hA.later hb1
 have hgne : (0 : Nat) ≠ g := by have := St.cell_lt hA.c7; omega
 have HGN := Lh hgne
 have PL := plen_any n.toNat i.toNat (by omega) (by omega) W1
 rw [show ((n.toNat : Nat) : Int) = n by omega, show ((i.toNat : Nat) : Int) = i by omega] at PL
 have h9 := Da.ups_nine (n := n.toNat) (by omega) i.toNat
 obtain ⟨u, hu⟩ : ∃ u, (Da.ups n.toNat i.toNat).length = u := ⟨_, rfl⟩
 rw [hu] at PL h9 hne
 have hd1 : decide ((u : Int) < 0) = false := decide_eq_false (by omega)
 have hd2 : decide ((m : Int) ≠ (u : Int)) = true := decide_eq_true (by omega)
 have hd3 : decide (m = u) = false := decide_eq_false hne
 have hd4 : ((m : Int) != (u : Int)) = true := by simp; omega
 have HNE := Lh hne
 have HPL := Lh PL
 clear PL hu hne
 have HZS : Hid (Z.size = Z.size) := Lh rfl
 have HZI : Hid ((Tryz.prog.info? 32).map (·.size) = some Z.size) := Lh (by rw [dg_info, hZ]; simp)
 have HZO : Hid (Z.all (·.oneCell') = true) := Lh (by rw [hZ]; exact all_oneCell_toArray (bytesV_one _))
 have HB1 := Lh hb1
 have HA1 := Lh hA1
 have HE1 := Lh hE1
 have HW1 := Lh hW1
 have HG := Lh hg
 have HBU := Lh hbu
 clear hb1 hA1 hE1 hW1 hg hZ hA hbu hgne
 go_enter Tryz.func68, Tryz.ntmps68
 go_upto_region 1 with fail
 rw [HW1.out, HG.out]
 clear HW1
 go_wp2_with fail
 refine HPL.out.mono ?_
 rintro e W2 ⟨rfl, hb2⟩
 have hA2 := HA1.out.later hb2 HA1.out.lt
 have hE2 := HE1.out.later hb2
 have HB2 := Lh (Ks HB1.out hb2)
 obtain ⟨C, hC⟩ : ∃ C : World -> Prop, (fun v : World => v.heap[g]? = some (.cells Z 32 (0, 0)) /\ v.cell? ⟨0, 0, none⟩ = some (.iface 256 (.pointer (some (A 7)))) /\ Below w.heap.size w v) = C := ⟨_, rfl⟩
 have HC2 : Hid (∀ v, C v -> v.heap[g]? = some (.cells Z 32 (0, 0)) /\ v.cell? ⟨0, 0, none⟩ = some (.iface 256 (.pointer (some (A 7)))) /\ Below w.heap.size w v) := Lh fun v hv => by rw [<- hC] at hv; exact hv
 have HC1 : Hid (∀ v, v.heap[g]? = some (.cells Z 32 (0, 0)) -> v.cell? ⟨0, 0, none⟩ = some (.iface 256 (.pointer (some (A 7)))) -> Below w.heap.size w v -> C v) := Lh fun v h1 h2 h3 => by rw [<- hC]; exact ⟨h1, h2, h3⟩
 have hC0 : C W2.drew := HC1.out _ hA2 hE2.c7 (Ks HB2.out (Kit.dn' W2 1))
 clear hC hA2 hE2 hb2 HPL
 go_upto_region 5 with fail
 refine Rgt.region C (fun _ => false) (by kernel_rfl) ?_
 refine Rgt.take (i := 0) (x := .agg Z) rfl rfl (by kernel_rfl) (by kernel_rfl) (by kernel_rfl) (by kernel_rfl) (fun _ _ _ h => h) (Or.inl ⟨by kernel_rfl, fun w hw => exec_build rfl HBU.out w⟩) hC0 ?_
 go_simp
 refine Rgt.take (i := 1) (x := .iface 256 (.pointer (some (A 7)))) rfl rfl (by kernel_rfl) (by kernel_rfl) (by kernel_rfl) (by kernel_rfl) (fun _ _ _ h => h) (Or.inl ⟨by kernel_rfl, fun w hw => by have hc := (HC2.out w hw).2.1; (go_simp <;> with_reducible rfl)⟩) hC0 ?_
 go_simp
 have hgw := (HC2.out _ hC0).1
 have hcw := (HC2.out _ hC0).2.1
 have hbw := (HC2.out _ hC0).2.2
 obtain ⟨W3, hW3⟩ : ∃ W3, W2.drew = W3 := ⟨_, rfl⟩
 rw [hW3] at hgw hcw hbw ⊢
 have hb4 : Below w.heap.size w (W3.setRow g Z) := hbw.trans (below_row (Nat.le_of_eq HG.out))
 have hg4 : (W3.setRow g Z).heap[g]? = some (.cells Z 32 (0, 0)) := setRow_heap _ _ _ _ _ _ hgw
 have hc4 : (W3.setRow g Z).cell? ⟨0, 0, none⟩ = some (.iface 256 (.pointer (some (A 7)))) := by
  rw [World.cell?_of_block (a := ⟨0, 0, none⟩) (setRow_other W3 g 0 Z HGN.out)]
  exact hcw
 have hC4 := HC1.out _ hg4 hc4 hb4
 have HG4 := Lh hg4
 have HB4 := Lh hb4
 clear hC0 hcw hbw hb4 hg4 hc4
 refine Rgt.ready (i := 2) (by kernel_rfl) rfl (by kernel_rfl) (fun K hK => ?_)
 refine wp_store_row 32 (.tmp 8) (.tmp 24) rfl g Z rfl rfl 32 Z hgw HZI.out rfl HZO.out (hK _ _ hC4 ?_)
 clear hK K hgw
 refine Rgt.ready (i := 3) (by kernel_rfl) rfl (by kernel_rfl) (fun K hK => ?_)
 go_simp
 refine hK _ _ hC4 ?_
 clear hK K
 refine Rgt.done (by kernel_rfl) ?_ _
 go_wp2_with fail
 refine bodyPost_ret (results_cell_row2 rfl _ _ g 32 Z (0, 0) _ rfl HG4.out dg_under rfl HZI.out) rfl ?_
 exact ⟨rfl, HB4.out⟩
theorem pfold_size_any (n i : Int) (lv : Value) (op : Option Addr) (m cp : Nat) (hn0 : 0 <= n) (hi0 : 0 <= i) (hin : i < n) (hn5 : n <= 512) (hne : m ≠ (Da.ups n.toNat i.toNat).length) (hmm : m <= 1000000) (A : Nat -> Addr) (w : World) (hA : E13 w A) :
    Calls Tryz.prog 68 #[.int .i64 n, .int .i64 i, lv, .slice op m cp] w fun e w' => e = .returned (.tuple #[.agg (bytesV (List.replicate 32 0)).toArray, errP A 8]) /\ Below w.heap.size w w' := pfold_size_of _ rfl dg_zero dg_built13 n i lv op m cp hn0 hi0 hin hn5 hne hmm A w hA
theorem pcheck_of (Z : Array Value) (hZ : Z = (bytesV (List.replicate 32 0)).toArray) (hzs : ∀ w, Sem.run Tryz.prog (zeroValue 32) w = .ok (.agg Z) w)
    (root d : List UInt8) (hr : root.length = 32) (hd : d.length = 32) (n i : Int) (lv pv : Value) (A : Nat -> Addr) (k : Nat) (w : World) (hA : E13 w A)
    (hF : ∀ W, Below w.heap.size w W -> Calls Tryz.prog 68 #[.int .i64 n, .int .i64 i, lv, pv] W fun e w' => e = .returned (.tuple #[.agg (bytesV d).toArray, errP A k]) /\ Below W.heap.size W w') :
    Calls Tryz.prog 32 #[.agg (bytesV root).toArray, .int .i64 n, .int .i64 i, lv, pv] w fun e w' => e = .returned (errP A (if k = 0 then (if d = root then 0 else 15) else k)) /\ Below w.heap.size w w' := by
 obtain ⟨r, hrr⟩ : ∃ r, (if k = 0 then (if d = root then 0 else 15) else k) = r := ⟨_, rfl⟩
 rw [hrr]
 have HRR := Lh hrr
 clear hrr
 obtain ⟨R, hR⟩ : ∃ R, (bytesV root).toArray = R := ⟨_, rfl⟩
 obtain ⟨D, hD⟩ : ∃ D, (bytesV d).toArray = D := ⟨_, rfl⟩
 obtain ⟨g, hg⟩ : ∃ g, w.heap.size = g := ⟨_, rfl⟩
 obtain ⟨W1, hW1⟩ : ∃ W1, w.alloc (.cells R 32) = W1 := ⟨_, rfl⟩
 have hb1 : Below w.heap.size w W1 := by rw [<- hW1]; exact new12 _ _
 have hg1 : W1.heap[g]? = some (.cells R 32 (0, 0)) := by rw [<- hW1, <- hg]; exact World.alloc_heap_new w _
 have FO := hF W1 hb1
 have hne := fun W => dgq_neq d root hd hr W
 rw [hD] at FO hne
 rw [hR] at hne
 have HRS : Hid ((Tryz.prog.info? 32).map (·.size) = some R.size) := Lh (by rw [dg_info, <- hR]; simp [hr])
 have HDS : Hid ((Tryz.prog.info? 32).map (·.size) = some D.size) := Lh (by rw [dg_info, <- hD]; simp [hd])
 have HDO : Hid (D.all (·.oneCell') = true) := Lh (by rw [<- hD]; exact all_oneCell_toArray (bytesV_one _))
 have HDZ : Hid (Z.size = D.size) := Lh (by rw [hZ, <- hD]; simp [hd])
 have HFO := Lh FO
 have HW1 := Lh hW1
 have HB1 := Lh hb1
 have HG1 := Lh hg1
 have HG := Lh hg
 have HE1 := Lh (hA.later hb1)
 rw [hR]
 have hn0 := neq_nil13
 have hgd := dgq_guard
 clear FO hW1 hb1 hg1 hg hF hR hD hd hr hA hZ
 go_enter Tryz.func32, Tryz.ntmps32
 go_upto_region 1 with fail
 rw [HW1.out, HG.out]
 apply wp_region_lit
 iterate 4 (refine wpList_plain rfl (fun K hK => ?_); go_simp; refine hK _ _ ?_; clear hK K)
 (refine wpList_plain rfl (fun K hK => ?_); go_simp)
 refine HFO.out.mono ?_
 rintro e W2 ⟨rfl, hb2⟩
 refine hK _ _ ?_
 clear hK K HFO
 obtain ⟨W3, hW3⟩ : ∃ W3, W2.alloc (.cells Z 32) = W3 := ⟨_, rfl⟩
 obtain ⟨p, hp⟩ : ∃ p, W2.heap.size = p := ⟨_, rfl⟩
 obtain ⟨W4, hW4⟩ : ∃ W4, W3.setRow p D = W4 := ⟨_, rfl⟩
 have hA3 : W3.heap[p]? = some (.cells Z 32 (0, 0)) := by rw [<- hW3, <- hp]; exact World.alloc_heap_new W2 _
 have hA4 : W4.heap[p]? = some (.cells D 32 (0, 0)) := by rw [<- hW4]; exact setRow_heap _ _ _ _ _ _ hA3
 have hb4 : Below W2.heap.size W2 W4 := by rw [<- hW4, <- hW3]; exact (new12 _ _).trans (below_row (Nat.le_of_eq hp))
 have hB14 := Ks hb2 hb4
 have hB4 := Ks HB1.out hB14
 have hgr : W4.heap[g]? = some (.cells R 32 (0, 0)) := by rw [hB14.block g (aE.1 HG1.out).1]; exact HG1.out
 have hE4 := HE1.out.later hB14
 have hc14 := hE4.c14
 have HA3 := Lh hA3
 have HA4 := Lh hA4
 have HGR := Lh hgr
 have HB4 := Lh hB4
 have HW3 := Lh hW3
 have HW4 := Lh hW4
 have HP := Lh hp
 clear hW3 hp hW4 hA3 hA4 hb4 hB14 hB4 hgr hE4 hb2
 iterate 4 (refine wpList_plain rfl (fun K hK => ?_); go_simp; refine hK _ _ ?_; clear hK K)
 rw [HW3.out, HP.out]
 refine wpList_store_row rfl 32 (.tmp 11) (.tmp 19) rfl p D rfl rfl 32 Z HA3.out HDS.out HDZ.out HDO.out ?_
 rw [HW4.out]
 clear HW3 HW4 HA3
 by_cases hk0 : k = 0
 ·subst hk0
  have e0 : errP A 0 = .nilIface := rfl
  rw [e0]
  clear e0
  go_upto_region 4 with fail
  apply wp_region_lit
  refine wpList_load_row rfl 32 (.tmp 11) rfl p rfl 32 D (0, 0) _ HA4.out dg_under rfl HDS.out ?_
  refine wpList_load_row rfl 32 (.tmp 5) rfl g rfl 32 R (0, 0) _ HGR.out dg_under rfl HRS.out ?_
  by_cases hdr : d = root
  ·have hq : (d == root) = true := by rw [hdr]; exact beq_self_eq_true _
   have hne2 : ∀ W, (binOp .neq 32 (.agg D) (.agg R)).run Tryz.prog W = .ok (.bool false) W := fun W => by rw [hne W, hq]; rfl
   have HDR := Lh hdr
   clear hne hq hdr
   go_wp2_with fail
   go_ret
   exact ⟨by rw [<- HRR.out, if_pos trivial, if_pos HDR.out]; rfl, HB4.out⟩
  ·have hq : (d == root) = false := by simpa using hdr
   have hne2 : ∀ W, (binOp .neq 32 (.agg D) (.agg R)).run Tryz.prog W = .ok (.bool true) W := fun W => by rw [hne W, hq]; rfl
   have HDR := Lh hdr
   clear hne hq hdr
   go_wp2_with fail
   go_ret
   exact ⟨by rw [<- HRR.out, if_pos trivial, if_neg HDR.out]; rfl, HB4.out⟩
 ·have hev : errP A k = .iface 256 (.pointer (some (A (k - 1)))) := by unfold errP; rw [if_neg hk0]
  rw [hev]
  have HK0 := Lh hk0
  clear hne hc14 hev hk0
  go_wp2_with fail
  go_ret
  exact ⟨by rw [<- HRR.out, if_neg HK0.out]; unfold errP; rw [if_neg HK0.out]; rfl, HB4.out⟩
def Da.chkF (n i : Int) (m : Nat) : Nat := if 0 <= i /\ i < n /\ n <= 512 then (if m = (Da.ups n.toNat i.toNat).length then 0 else 8) else 1
def Da.fold13 (n i : Int) (leaf : List UInt8) (ps : List (List UInt8)) : List UInt8 := if Da.chkF n i ps.length = 0 then Da.fs (Da.lf leaf) (Da.ups n.toNat i.toNat) ps ps.length else List.replicate 32 0
def Da.chk13 (root : List UInt8) (n i : Int) (leaf : List UInt8) (ps : List (List UInt8)) : Nat := if Da.chkF n i ps.length = 0 then (if Da.fold13 n i leaf ps = root then 0 else 15) else Da.chkF n i ps.length
theorem Da.fold13_length (n i : Int) (leaf : List UInt8) (ps : List (List UInt8)) : (Da.fold13 n i leaf ps).length = 32 := by
 unfold Da.fold13
 split
 ·exact Da.fs_length (Da.lf_length leaf) _ _ _
 ·simp
theorem pfold_all (leaf : List UInt8) (ol : Option Addr) (cl : Nat) (ps : List (List UInt8)) (op : Option Addr) (cp : Nat) (n i : Int) (hl5 : leaf.length <= 8900) (hp5 : ps.length <= 1000000) (A : Nat -> Addr) (w : World)
    (hR : RowIs w ol (bytesV leaf) cl) (hP : DgIs w op ps cp) (hV : Cds w) (hA : E13 w A) :
    Calls Tryz.prog 68 #[.int .i64 n, .int .i64 i, .slice ol leaf.length cl, .slice op ps.length cp] w fun e w' => e = .returned (.tuple #[.agg (bytesV (Da.fold13 n i leaf ps)).toArray, errP A (Da.chkF n i ps.length)]) /\ Below w.heap.size w w' := by
 by_cases hr : 0 <= i /\ i < n /\ n <= 512
 ·by_cases hm : ps.length = (Da.ups n.toNat i.toNat).length
  ·have hk : Da.chkF n i ps.length = 0 := by unfold Da.chkF; rw [if_pos hr, if_pos hm]
   have := pfold_any leaf ol cl ps op ps.length cp n.toNat i.toNat rfl hm.symm (by omega) (by omega) hl5 w hR hP hV
   rw [show ((n.toNat : Nat) : Int) = n by omega, show ((i.toNat : Nat) : Int) = i by omega] at this
   unfold Da.fold13
   rw [hk, if_pos rfl]
   exact this
  ·have hk : Da.chkF n i ps.length = 8 := by unfold Da.chkF; rw [if_pos hr, if_neg hm]
   have := pfold_size_any n i (.slice ol leaf.length cl) op ps.length cp (by omega) hr.1 hr.2.1 hr.2.2 hm hp5 A w hA
   unfold Da.fold13
   rw [hk, if_neg (by omega)]
   exact this
 ·have hk : Da.chkF n i ps.length = 1 := by unfold Da.chkF; rw [if_neg hr]
  have := pfold_range_any n i (.slice ol leaf.length cl) op ps.length cp hr A w hA
  unfold Da.fold13
  rw [hk, if_neg (by omega)]
  exact this
theorem pcheck_all (root : List UInt8) (hr : root.length = 32) (leaf : List UInt8) (ol : Option Addr) (cl : Nat) (ps : List (List UInt8)) (op : Option Addr) (cp : Nat) (n i : Int) (hl5 : leaf.length <= 8900) (hp5 : ps.length <= 1000000) (A : Nat -> Addr) (w : World)
    (hR : RowIs w ol (bytesV leaf) cl) (hP : DgIs w op ps cp) (hV : Cds w) (hA : E13 w A) :
    Calls Tryz.prog 32 #[.agg (bytesV root).toArray, .int .i64 n, .int .i64 i, .slice ol leaf.length cl, .slice op ps.length cp] w fun e w' => e = .returned (errP A (Da.chk13 root n i leaf ps)) /\ Below w.heap.size w w' :=
 pcheck_of _ rfl dg_zero root (Da.fold13 n i leaf ps) hr (Da.fold13_length n i leaf ps) n i _ _ A (Da.chkF n i ps.length) w hA fun W hW => pfold_all leaf ol cl ps op cp n i hl5 hp5 A W (hR.later hW) (hP.later hW) (hV.later hW) (hA.later hW)
theorem Da.chk_own (bs : List (List UInt8)) (n i : Nat) (hn : bs.length = n) (hi : i < n) (h5 : n <= 512) : Da.chk13 (Da.mth bs) (n : Int) (i : Int) (bi bs i) (Da.pa (bs.map Da.lf) i) = 0 := by
 have hl := Da.pa_length (bs.map Da.lf) i
 rw [List.length_map, hn] at hl
 have hk : Da.chkF (n : Int) (i : Int) (Da.pa (bs.map Da.lf) i).length = 0 := by
  unfold Da.chkF
  rw [if_pos ⟨by omega, by omega, by omega⟩, if_pos (by rw [hl]; simp)]
 unfold Da.chk13
 rw [if_pos hk]
 have hr := Da.pa_root (bs.map Da.lf) n i (by rw [List.length_map]; exact hn) hi
 rw [bi_lf bs i (by omega)] at hr
 unfold Da.fold13
 rw [if_pos hk, hl]
 rw [show ((n : Int)).toNat = n by omega, show ((i : Int)).toNat = i by omega]
 rw [hr]
 exact if_pos rfl
end Go.Proofs.YtffheegeaghfjaaGreatDoor
