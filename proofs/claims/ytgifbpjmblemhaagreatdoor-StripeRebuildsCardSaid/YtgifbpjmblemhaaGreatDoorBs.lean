/- The code's split of a padded file into blocks: slices.Chunk walked, its round. -/
import Derived.Test.YtgifbpjmblemhaaGreatDoorBm
import Derived.Test.YtgifbpjmblemhaaGreatDoorTm
import Derived.Test.YtgifbpjmblemhaaGreatDoorRf
namespace Go.Proofs.YtgifbpjmblemhaaGreatDoor
open Go.RowKit Go.Shelf
set_option linter.unusedVariables false
set_option linter.unusedSimpArgs false
attribute [local go_sem] Oper.semAt_some
theorem blk_part (p : List UInt8) (s : Nat) (h : 8 * s + 8 ≤ p.length) : ((bytesV p).drop (8 * s)).take 8 = bytesV (blk p s) := by
  refine List.ext_getElem? fun i => ?_
  by_cases hi : i < 8
  · rw [List.getElem?_take_of_lt hi, List.getElem?_drop, bytesV_get p (8 * s + i) (by omega), bytesV_get _ i (by simpa using hi)]
    have := co_blk p s i hi
    unfold co at this
    rw [this]
  · rw [List.getElem?_eq_none (by simp; omega), List.getElem?_eq_none (by simp; omega)]
theorem opIn_append {P : Program} {ops : Array Oper} {Q : Exit → Act → World → Prop} {K : Act → World → Prop} {a : Act} {w : World} {o : Oper} (hg : o.guard = none) (s x : Operand) (t tn : TypeId)
    (hop : o.op = .call { callee := .builtin .append, args := #[s, x], argTypes := #[t, tn] }) (vs vx : Value) (hs : a.eval s = vs) (hx : a.eval x = vx) (v' : Value) (w' : World)
    (hr : (Builtin.append_ #[t, tn] o.type #[vs, vx]).run P w = .ok v' w') (h : K (a.put o.dst v') w') :
    if Region.wanted o (yielded ops a.tmps) = true then Oper.wpIn Fence.wide 0 P o a w K Q else (∀ f, o.about P w a.eval = some f → Fence.wide.fn f) ∧ K (a.put o.dst undef) w := by
  have hw : Region.wanted o (yielded ops a.tmps) = true := by simp [Region.wanted, hg]
  rw [if_pos hw]
  refine ⟨fun _ _ => trivial, ?_⟩
  rw [Fence.wide_round, Oper.semAt_none]
  unfold execOp
  simp only [hop, resolve, invoke, builtin, Sem.run_bind, Sem.run_pure, Result.andThen_ok, List.map_toArray, List.map_cons, List.map_nil, hs, hx, hr]
  exact h
/-- what lay below, but block b, lies as it lay -/
structure Rst (b : Nat) (w X : World) : Prop where
  os : X.os = w.os
  tape : X.tape = w.tape
  output : X.output = w.output
  size : w.heap.size ≤ X.heap.size
  same : ∀ k, k < w.heap.size → k ≠ b → X.heap[k]? = w.heap[k]?
theorem Rst.refl (b : Nat) (w : World) : Rst b w w := ⟨rfl, rfl, rfl, Nat.le_refl _, fun _ _ _ => rfl⟩
theorem Rst.nc {b : Nat} {w X X' : World} (h : Rst b w X) (k : Rf.NC w.heap.size X X') : Rst b w X' :=
  ⟨k.os.trans h.os, k.tape.trans h.tape, k.output.trans h.output, Nat.le_trans h.size k.size, fun i hi hne => by
    have h1 := h.same i hi hne
    rw [← h1]
    have hlt : i < X.heap.size := Nat.lt_of_lt_of_le hi h.size
    rw [Array.getElem?_eq_getElem hlt]
    exact k.same i _ (Array.getElem?_eq_getElem hlt) (.inr hi)⟩
theorem Rst.grown {b : Nat} {w X X' : World} {r : Option Nat} (h : Rst b w X) (hg : X.grownBy X' r) (hr : ∀ k, r = some k → k = b ∨ w.heap.size ≤ k) : Rst b w X' :=
  ⟨hg.os.trans h.os, hg.tape.trans h.tape, hg.output.trans h.output, Nat.le_trans h.size hg.size, fun i hi hne => by
    rw [← h.same i hi hne]
    exact hg.block i (Nat.lt_of_lt_of_le hi h.size) fun e => by
      rcases hr i e.symm with h1 | h1
      · exact hne h1
      · omega⟩
theorem Rst.later {b : Nat} {w X X' : World} (h : Rst b w X) (hb : Below X.heap.size X X') : Rst b w X' := h.grown (r := none) ⟨hb.os, hb.tape, hb.output, hb.size, fun k hk _ => hb.block k hk⟩ (fun k e => by cases e)
theorem Rst.boxed {b k : Nat} {t : TypeId} {v : Value} {w X : World} (h : Rst b w X) (hx : Boxed w k t v) (hne : k ≠ b) : Boxed X k t v := by
  unfold Boxed at *
  rw [h.same k (Array.getElem?_eq_some_iff.1 hx).1 hne]; exact hx
theorem Rst.row {b : Nat} {w X : World} (h : Rst b w X) {o : Option Addr} {vs : List Value} {c : Nat} (hr : RowIs w o vs c) (hne : 0 < vs.length → ∀ p, o = some p → p.block ≠ b) : RowIs X o vs c :=
  ⟨hr.le, hr.cap, hr.nil, fun h0 => by
    obtain ⟨p, off, e, hlt, hc⟩ := hr.cells h0
    refine ⟨p, off, e, Nat.lt_of_lt_of_le hlt h.size, fun i v hv => ?_⟩
    have := hc i v hv
    unfold World.cell? at *
    rw [h.same p hlt (hne h0 _ e)]
    exact this⟩
theorem Rst.below {b n : Nat} {w0 w X : World} (h : Rst b w X) (hb : Below n w0 w) (hn : n ≤ b) (hn2 : n ≤ w.heap.size) : Below n w0 X :=
  hb.trans ⟨h.os, h.tape, h.output, h.size, fun k hk => h.same k (by omega) (by omega)⟩
/-- the blocks that have been taken so far -/
structure SpI (b0 : Nat) (w : World) (p : List UInt8) (s : Nat) (v : Value) (xs : List Value) (X : World) : Prop where
  box : Boxed X b0 22 v
  own : X.ownsRow w.heap.size 24 1 v s xs
  els : ElsB 0 X (dat p 0 s) xs
  rst : Rst b0 w X
theorem ElsB.nc {B base : Nat} {X X' : World} {bs : List (List UInt8)} {xs : List Value} (h : ElsB base X bs xs) (k : Rf.NC B X X') : ElsB base X' bs xs :=
  ⟨⟨h.els.len, fun i x hx => by
    obtain ⟨o, c, e, hr⟩ := h.els.at_ i x hx
    exact ⟨o, c, e, hr.nc k⟩⟩, fun x hx ad l c e h0 => by
    rcases h.kind x hx ad l c e h0 with h1 | ⟨cur, h1⟩
    · exact .inl h1
    · exact .inr ⟨cur, k.cells h1⟩⟩
theorem SpI.nc {b0 : Nat} {w X X' : World} {p : List UInt8} {s : Nat} {v : Value} {xs : List Value} (h : SpI b0 w p s v xs X) (k : Rf.NC w.heap.size X X') : SpI b0 w p s v xs X' :=
  ⟨k.cells h.box, k.owns h.own, h.els.nc k, h.rst.nc k⟩
theorem SpI.later {b0 : Nat} {w X X' : World} {p : List UInt8} {s : Nat} {v : Value} {xs : List Value} (h : SpI b0 w p s v xs X) (hb : Below X.heap.size X X') : SpI b0 w p s v xs X' :=
  ⟨boxed_later h.box hb, World.ownsRow.kept (row := none) h.own ⟨hb.os, hb.tape, hb.output, hb.size, fun i hi _ => hb.block i hi⟩ (by cases v.ownBlock <;> simp), h.els.later hb, h.rst.later hb⟩
theorem SpI.step {b0 : Nat} {w X X3 : World} {p : List UInt8} {s g cap : Nat} {v v' : Value} {xs : List Value} (h : SpI b0 w p s v xs X) (hb0 : b0 < w.heap.size) (hbuf : Buf X g cap (blk p s))
    (hown : X3.ownsRow w.heap.size 24 1 v' (s + 1) (xs ++ [.slice (some ⟨g, 0, none⟩) 8 cap])) (hg : X.grownBy X3 v.ownBlock) :
    SpI b0 w p (s + 1) v' (xs ++ [.slice (some ⟨g, 0, none⟩) 8 cap]) (X3.setCell ⟨b0, 0, none⟩ v') ∧ KeepsOthers X (X3.setCell ⟨b0, 0, none⟩ v') := by
  have hlt := fun k (e : v.ownBlock = some k) => (World.ownsRow.lt h.own k e).1
  have hne : some b0 ≠ v.ownBlock := fun e => by
    have := hlt b0 e.symm
    omega
  have hbox3 : Boxed X3 b0 22 v := by
    unfold Boxed
    rw [hg.block b0 (Array.getElem?_eq_some_iff.1 h.box).1 hne]
    exact h.box
  have hst : X3.grownBy (X3.setCell ⟨b0, 0, none⟩ v') (some b0) := grownBy_setCell' _ _ _
  have hel : ElsB 0 X3 (dat p 0 (s + 1)) (xs ++ [.slice (some ⟨g, 0, none⟩) 8 cap]) := by
    have h1 : ElsB 0 X [blk p s] [.slice (some ⟨g, 0, none⟩) 8 cap] := ElsB.one ⟨_, cap, by rw [blk_length], hbuf.row⟩ (by
      have := hbuf.kind 0
      rwa [blk_length] at this)
    have h2 := (h.els.app h1).grown h.own hg (Nat.zero_le _)
    rw [dat_succ, Nat.zero_add]
    exact h2
  refine ⟨⟨hbox3.set _, World.ownsRow.kept hown hst (.inr fun e => ?_), hel.keep hst fun k e => ?_, ?_⟩, ?_⟩
  · have := (World.ownsRow.lt hown b0 e).1
    omega
  · cases e
    exact ⟨Nat.zero_le _, _, _, _, hbox3, by decide⟩
  · exact (h.rst.grown hg (fun k e => .inr (hlt k e))).grown hst fun k e => .inl (by cases e; rfl)
  · refine (KeepsOthers.of_grownBy hg fun j o e ho => ?_).trans (KeepsOthers.setCell _ _ _)
    obtain ⟨_, cur, T, f, h2, _⟩ := own_kind h.own (by decide) j e
    rw [h2] at ho
    cases ho
    rfl
end Go.Proofs.YtgifbpjmblemhaaGreatDoor
