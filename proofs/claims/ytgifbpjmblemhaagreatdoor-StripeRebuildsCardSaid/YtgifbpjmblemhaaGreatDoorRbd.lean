/- The code's Rebuild. -/
import Derived.Test.YtgifbpjmblemhaaGreatDoorMo
import Derived.Test.YtgifbpjmblemhaaGreatDoorBc
namespace Go.Proofs.YtgifbpjmblemhaaGreatDoor
open Go.RowKit
set_option linter.unusedVariables false
set_option linter.unusedSimpArgs false
def rdz : Value := .agg #[.slice none 0 0, .slice none 0 0, .slice none 0 0]
def rd_e (u : TypeId) (v : Value) : Ending := .returned (.tuple #[rdz, .iface u v])
theorem cell_in {w : World} {a : Addr} {v : Value} (h : w.cell? a = some v) : a.block < w.heap.size := by
  by_cases hh : a.block < w.heap.size
  · exact hh
  · have h0 : w.heap[a.block]? = none := Array.getElem?_eq_none (by omega)
    simp [World.cell?, h0] at h
theorem rd_size : (Tryz.prog.info? 27).map (·.size) = some 3 := by kernel_rfl
theorem rd_cells {w : World} {g : Nat} {a b c : Value} (h : w.heap[g]? = some (.cells #[a, b, c] 27 (0, 0))) : w.cell? ⟨g, 0, none⟩ = some a ∧ w.cell? ⟨g, 1, none⟩ = some b ∧ w.cell? ⟨g, 2, none⟩ = some c ∧ w.frozen? ⟨g, 0, none⟩ = false ∧ w.frozen? ⟨g, 1, none⟩ = false ∧ w.frozen? ⟨g, 2, none⟩ = false := by
  refine ⟨?_, ?_, ?_, ?_, ?_, ?_⟩
  all_goals first
    | (rw [cell_of_row _ _ _ _ _ _ h]; rfl)
    | (unfold World.frozen?; rw [h]; rfl)
theorem rd_keeps {w w' : World} {g : Nat} {fc : Array Value} (h : w.heap[g]? = some (.cells fc 27 (0, 0))) (hb : Below w.heap.size w w') : w'.heap[g]? = some (.cells fc 27 (0, 0)) := by
  rw [hb.block g (Array.getElem?_eq_some_iff.1 h).1]; exact h
theorem rd_set {w : World} {g : Nat} {a b c : Value} (h : w.heap[g]? = some (.cells #[a, b, c] 27 (0, 0))) (x y v : Value) : (((w.setCell ⟨g, 0, none⟩ x).setCell ⟨g, 1, none⟩ y).setCell ⟨g, 2, none⟩ v).heap[g]? = some (.cells #[x, y, v] 27 (0, 0)) := by
  have e1 := setCell_eq_setRow w g 0 _ _ _ x h
  have h1 := setRow_heap w g #[a, b, c] (#[a, b, c].setIfInBounds 0 x) _ _ h
  rw [← e1] at h1
  have e2 := setCell_eq_setRow _ g 1 _ _ _ y h1
  have h2 := setRow_heap _ g _ ((#[a, b, c].setIfInBounds 0 x).setIfInBounds 1 y) _ _ h1
  rw [← e2] at h2
  have e3 := setCell_eq_setRow _ g 2 _ _ _ v h2
  have h3 := setRow_heap _ g _ (((#[a, b, c].setIfInBounds 0 x).setIfInBounds 1 y).setIfInBounds 2 v) _ _ h2
  rw [← e3] at h3
  simpa using h3
/-- one field is written -/
theorem rd_put {w : World} {g : Nat} {C : Array Value} (h : w.heap[g]? = some (.cells C 27 (0, 0))) (i : Nat) (x : Value) : (w.setCell ⟨g, i, none⟩ x).heap[g]? = some (.cells (C.setIfInBounds i x) 27 (0, 0)) := by
  have e1 := setCell_eq_setRow w g i _ _ _ x h
  have h1 := setRow_heap w g C (C.setIfInBounds i x) _ _ h
  rw [← e1] at h1
  exact h1
theorem rebuild_bad (n : Int) (m c : Nat) (o : Option Addr) (w : World) (u : TypeId) (v : Value) (h : n < 0 ∨ 2000 < n) (hE : w.cell? ⟨8, 0, none⟩ = some (.iface u v)) :
    Calls Tryz.prog 5 #[.slice o m c, .int .i64 n] w fun e w' => e = rd_e u v ∧ Below w.heap.size w w' := by
  obtain ⟨w1, hw1⟩ : ∃ w1, w.alloc (.cells #[.slice none 0 0, .slice none 0 0, .slice none 0 0] 27) = w1 := ⟨_, rfl⟩
  have hb1 : Below w.heap.size w w1 := by rw [← hw1]; exact below_new _ _
  have hg1 : w1.heap[w.heap.size]? = some (.cells #[.slice none 0 0, .slice none 0 0, .slice none 0 0] 27 (0, 0)) := by rw [← hw1]; exact World.alloc_heap_new _ _
  have HG1 := Lib.hid hg1
  have HS := Lib.hid (shape_bad n w1 u v h (cell_laterB hb1 hE))
  have HB1 := Lib.hid hb1
  have HW1 := Lib.hid hw1
  clear h hE hb1 hw1 hg1
  go_enter Tryz.func5, Tryz.ntmps5
  go_wp2_with (rw [HW1.out])
  refine HS.out.mono ?_; rintro e w2 ⟨rfl, hb⟩
  have HB2 := Lib.hid (Kit.step HB1.out hb)
  have hg2 := rd_keeps HG1.out hb
  have hcc := rd_cells hg2
  clear hb HS
  go_wp2_with fail
  refine bodyPost_ret (results_cell_row2 rfl _ _ w.heap.size 27 #[.slice none 0 0, .slice none 0 0, .slice none 0 0] (0, 0) _ rfl (rd_set hg2 _ _ _) Tryz.underlying27 rfl rd_size) rfl ?_
  exact ⟨rfl, below_fx HB2.out (Nat.le_refl _) _ _ _⟩
theorem append_int_run (w : World) (ty : TypeId) (base : Nat) (v : Value) (n : Nat) (z : List Int) (hown : w.ownsRow base 3 1 v n (intsV z)) (g : Nat) (y : Int) (hg : w.cell? ⟨g, 0, none⟩ = some (.int .i64 y)) (hl : n ≤ 1000000) (hbase : base ≤ w.heap.size) :
    ∃ (o : Option Addr) (l c : Nat) (w' : World), (Builtin.append_ #[25, 25] ty #[v, .slice (some ⟨g, 0, none⟩) 1 1]).run Tryz.prog w = .ok (.slice o l c) w' ∧ w'.ownsRow base 3 1 (.slice o l c) (n + 1) (intsV (z ++ [y])) ∧ w.grownBy w' v.ownBlock ∧
      ((Value.slice o l c).ownBlock = v.ownBlock ∨ (Value.slice o l c).ownBlock = some w.heap.size) := by
  obtain ⟨i0, hi, hz0, hz1, hz2⟩ := info_parts info_int
  have hnews : ∀ (j : Nat) (u : Value), [Value.int .i64 y][j]? = some u → w.cell? ((⟨g, 0, none⟩ : Addr).add j) = some u := fun j u hj => by
    have h1 := (List.getElem?_eq_some_iff.1 hj).1
    simp at h1
    subst h1
    simp at hj
    subst hj
    exact hg
  have hone : ∀ u ∈ [Value.int .i64 y], u.oneCell' = true := fun u hu => by
    simp at hu
    subst hu
    rfl
  obtain ⟨v', w', hr, h2, h3, _⟩ := run_append_own_wide (P := Tryz.prog) w base 25 ty 3 i0 (.int .i64 0) 1 8 Tryz.underlying25 hi hz0 hz1 hz2 rfl (by decide) v n (intsV z) hown ⟨g, 0, none⟩ 1 1 [.int .i64 y] (by simp) hnews hone (by unfold maxLen; omega) (by omega) hbase
  have e : intsV (z ++ [y]) = intsV z ++ [.int .i64 y] := by simp [intsV]
  have hblk : v'.ownBlock = v.ownBlock ∨ v'.ownBlock = some w.heap.size := by
    rcases hown.2 with ⟨rfl, h0⟩ | ⟨gv, cap, cur, rfl, _, hh, hnc, hcm, hcs, htake⟩
    · have hr2 := run_append_nil (P := Tryz.prog) (w := w) 25 ty 3 i0 (.int .i64 0) Tryz.underlying25 hi hz0 ⟨g, 0, none⟩ 1 1 [.int .i64 y] (by rw [hz1]; rfl) hnews (by omega) (by omega) (by rw [hz2]; omega)
      rw [hr2] at hr
      injection hr with hr _
      subst hr
      exact .inr rfl
    · by_cases hroom : n + 1 ≤ cap
      · have hr2 := run_append_room (P := Tryz.prog) (w := w) 25 ty 3 i0 Tryz.underlying25 hi gv n cap cur hh ⟨g, 0, none⟩ 1 1 [.int .i64 y] (by rw [hz1]; rfl) hnews hone hroom (by rw [hz1, hcs]; simp; omega)
        rw [hr2] at hr
        injection hr with hr _
        subst hr
        exact .inl rfl
      · have hr2 := run_append_grow (P := Tryz.prog) (w := w) 25 ty 3 i0 (.int .i64 0) Tryz.underlying25 hi hz0 ⟨gv, 0, none⟩ n cap (intsV z) (by rw [hz1]; simpa using hown.1) (hown.cells (g := gv) rfl) ⟨g, 0, none⟩ 1 1 [.int .i64 y] (by rw [hz1]; rfl) hnews (by omega) (by omega) (by rw [hz2]; exact growslice_fits_wide (by omega) (by omega))
        rw [hr2] at hr
        injection hr with hr _
        subst hr
        exact .inr rfl
  obtain ⟨o, l, c, rfl⟩ : ∃ o l c, v' = Value.slice o l c := by
    rcases h2.2 with ⟨rfl, _⟩ | ⟨_, _, _, rfl, _⟩
    · exact ⟨_, _, _, rfl⟩
    · exact ⟨_, _, _, rfl⟩
  exact ⟨o, l, c, w', hr, by rw [e]; exact h2, h3, hblk⟩
theorem grownBy_setCell2 (w : World) (g i : Nat) (v : Value) : w.grownBy (w.setCell ⟨g, i, none⟩ v) (some g) :=
  ⟨rfl, rfl, rfl, by simp, fun k _ hk => heap_setCell_other w ⟨g, i, none⟩ k v (fun e => hk (by simp [e]))⟩
/-- blocks that are neither of numbers nor a result lie as they lay -/
def Kp (a b : World) : Prop := a.heap.size ≤ b.heap.size ∧ ∀ (k : Nat) (cur : Array Value) (T : TypeId) (f : Nat × Nat), a.heap[k]? = some (.cells cur T f) → T ≠ 3 → T ≠ 27 → b.heap[k]? = some (.cells cur T f)
theorem Kp.refl (a : World) : Kp a a := ⟨Nat.le_refl _, fun _ _ _ _ h _ _ => h⟩
theorem Kp.trans {a b c : World} (h : Kp a b) (k : Kp b c) : Kp a c := ⟨Nat.le_trans h.1 k.1, fun i cur T f hi h1 h2 => k.2 i cur T f (h.2 i cur T f hi h1 h2) h1 h2⟩
theorem Kp.of_below {a b : World} (h : Below a.heap.size a b) : Kp a b := ⟨h.size, fun i cur T f hi _ _ => by rw [h.block i (Array.getElem?_eq_some_iff.1 hi).1]; exact hi⟩
theorem Kp.of_grown {a b : World} {r : Option Nat} (h : a.grownBy b r) (hr : ∀ k, r = some k → ∃ cur T f, a.heap[k]? = some (.cells cur T f) ∧ (T = 3 ∨ T = 27)) : Kp a b := ⟨h.size, fun i cur T f hi h1 h2 => by
  rw [h.block i (Array.getElem?_eq_some_iff.1 hi).1 (fun e => ?_)]
  · exact hi
  · obtain ⟨cur', T', f', h3, h4⟩ := hr i e.symm
    rw [hi] at h3
    injection h3 with h3
    injection h3 with _ h3 _
    subst h3
    rcases h4 with h4 | h4
    · exact h1 h4
    · exact h2 h4⟩
theorem Kp.owns {T : TypeId} {a b : World} {base n : Nat} {v : Value} {xs : List Value} (k : Kp a b) (h : a.ownsRow base T 1 v n xs) (h1 : T ≠ 3) (h2 : T ≠ 27) : b.ownsRow base T 1 v n xs := by
  obtain ⟨hl, hx⟩ := h
  refine ⟨hl, ?_⟩
  rcases hx with hx | ⟨g, cap, cur, e, hb, hh, hr⟩
  · exact .inl hx
  · exact .inr ⟨g, cap, cur, e, hb, k.2 g _ _ _ hh h1 h2, hr⟩
theorem Kp.mat {a b : World} {B gO R : Nat} {Gb : Nat → Nat} {m : Nat → Nat → UInt8} (k : Kp a b) (h : Mat8 a B gO R Gb m) : Mat8 b B gO R Gb m :=
  ⟨k.owns h.outer (by decide) (by decide), fun i hi => ⟨k.owns (h.row i hi).1 (by decide) (by decide), (h.row i hi).2⟩, h.apart⟩
/-- what a region holds that appends to two rows of numbers -/
structure Ri (F : List UInt8) (S : Nat) (hE hC vF vE vC : Value) (zE zC : List Int) (wb w X : World) : Prop where
  kept : Kp wb X
  heap : X.heap[S]? = some (.cells #[vF, hE, hC] 27 (0, 0))
  f : X.ownsRow w.heap.size 5 1 vF F.length (bytesV F)
  e : X.ownsRow w.heap.size 3 1 vE zE.length (intsV zE)
  c : X.ownsRow w.heap.size 3 1 vC zC.length (intsV zC)
  ne : vE.ownBlock = none ∨ vE.ownBlock ≠ vC.ownBlock
  below : Below w.heap.size w X
theorem owns_laterB {T : TypeId} {base n : Nat} {v : Value} {xs : List Value} {X X' : World} (h : X.ownsRow base T 1 v n xs) (hb : Below X.heap.size X X') : X'.ownsRow base T 1 v n xs :=
  World.ownsRow.kept (row := none) h ⟨hb.os, hb.tape, hb.output, hb.size, fun i hi _ => hb.block i hi⟩ (by cases v.ownBlock <;> simp)
theorem Ri.later {F : List UInt8} {S : Nat} {hE hC vF vE vC : Value} {zE zC : List Int} {wb w X X' : World} (h : Ri F S hE hC vF vE vC zE zC wb w X) (hb : Below X.heap.size X X') : Ri F S hE hC vF vE vC zE zC wb w X' :=
  ⟨h.kept.trans (Kp.of_below hb), rd_keeps h.heap hb, owns_laterB h.f hb, owns_laterB h.e hb, owns_laterB h.c hb, h.ne, Kit.step h.below hb⟩
structure Ic (b : Nat) (y : Int) (vE vC : Value) (X : World) : Prop where
  cell : X.cell? ⟨b, 0, none⟩ = some (.int .i64 y)
  lt : b < X.heap.size
  neE : vE.ownBlock ≠ some b
  neC : vC.ownBlock ≠ some b
theorem Ic.later {b : Nat} {y : Int} {vE vC : Value} {X X' : World} (h : Ic b y vE vC X) (hb : Below X.heap.size X X') : Ic b y vE vC X' := ⟨cell_laterB hb h.cell, Nat.lt_of_lt_of_le h.lt hb.size, h.neE, h.neC⟩
theorem Ri.new {F : List UInt8} {S : Nat} {hE hC vF vE vC : Value} {zE zC : List Int} {wb w X : World} (h : Ri F S hE hC vF vE vC zE zC wb w X) (y : Int) : Ic X.heap.size y vE vC (X.alloc (.cells #[.int .i64 y] 3)) :=
  ⟨cell_new X _ _ _ rfl, by simp, fun e => by have := (World.ownsRow.lt h.e _ e).2; omega, fun e => by have := (World.ownsRow.lt h.c _ e).2; omega⟩
theorem own_ne_of {T T' : TypeId} {X : World} {b b' n n' : Nat} {v v' : Value} {xs xs' : List Value} (h : X.ownsRow b T 1 v n xs) (h' : X.ownsRow b' T' 1 v' n' xs') (hT : T ≠ T') : v.ownBlock = none ∨ v.ownBlock ≠ v'.ownBlock := by
  rcases h.2 with ⟨rfl, _⟩ | ⟨g, cap, cur, rfl, _, h1, _⟩
  · exact .inl rfl
  · refine .inr fun e => ?_
    rcases h'.2 with ⟨rfl, _⟩ | ⟨g', cap', cur', rfl, _, h2, _⟩
    · cases e
    · cases e
      rw [h1] at h2
      injection h2 with h2
      injection h2 with _ h2 _
      exact hT h2
theorem Ri.app {F : List UInt8} {S : Nat} {hE hC vF vE vC : Value} {zE zC : List Int} {wb w X : World} (h : Ri F S hE hC vF vE vC zE zC wb w X) (b : Nat) (y : Int) (hi : Ic b y vE vC X) (ty : TypeId) (hl : zE.length ≤ 1000000) :
    ∃ (o : Option Addr) (l c : Nat) (X' : World), (Builtin.append_ #[25, 25] ty #[vE, .slice (some ⟨b, 0, none⟩) 1 1]).run Tryz.prog X = .ok (.slice o l c) X' ∧ Ri F S hE hC vF (.slice o l c) vC (zE ++ [y]) zC wb w X' ∧ ∀ b' y', Ic b' y' vE vC X → Ic b' y' (.slice o l c) vC X' := by
  obtain ⟨o, l, c, X', hr, ho, hg, hb⟩ := append_int_run X ty w.heap.size vE zE.length zE h.e b y hi.cell hl h.below.size
  have hS : some S ≠ vE.ownBlock := fun e => by
    rcases h.e.2 with ⟨rfl, _⟩ | ⟨g, cap, cur, rfl, _, h1, _⟩
    · cases e
    · cases e
      rw [h.heap] at h1
      cases h1
  refine ⟨o, l, c, X', hr, ⟨h.kept.trans (Kp.of_grown hg fun k e => ?_), ?_, ?_, by rw [List.length_append]; exact ho, ?_, ?_, own_belowB h.below h.e hg⟩, fun b' y' h' => ⟨?_, Nat.lt_of_lt_of_le h'.lt hg.size, ?_, h'.neC⟩⟩
  · rcases h.e.2 with ⟨rfl, _⟩ | ⟨gq, cap, cur, rfl, _, hq, _⟩
    · cases e
    · cases e
      exact ⟨_, _, _, hq, .inl rfl⟩
  · rw [hg.block S (Array.getElem?_eq_some_iff.1 h.heap).1 hS]; exact h.heap
  · exact World.ownsRow.kept h.f hg (own_ne_of h.f h.e (by decide))
  · refine World.ownsRow.kept h.c hg ?_
    rcases h.ne with h1 | h1
    · rw [h1]
      cases hc : vC.ownBlock <;> simp
    · exact .inr fun e => h1 e.symm
  · rcases hb with hb | hb
    · rw [hb]; exact h.ne
    · refine .inr fun e => ?_
      rw [hb] at e
      have := (World.ownsRow.lt h.c _ e.symm).2
      omega
  · exact World.grownBy.cell hg h'.cell (fun e => h'.neE e.symm)
  · rcases hb with hb | hb
    · rw [hb]; exact h'.neE
    · rw [hb]
      intro e
      have := h'.lt
      injection e with e
      omega
theorem Ri.swap {F : List UInt8} {S : Nat} {hE hC vF vE vC : Value} {zE zC : List Int} {wb w X : World} (h : Ri F S hE hC vF vE vC zE zC wb w X) : Ri F S hE hC vF vC vE zC zE wb w X := ⟨h.kept, h.heap, h.f, h.c, h.e, by
  rcases h.ne with h1 | h1
  · by_cases e : vC.ownBlock = none
    · exact .inl e
    · exact .inr fun e2 => e (e2.trans h1)
  · exact .inr fun e => h1 e.symm, h.below⟩
theorem Ic.swap {b : Nat} {y : Int} {vE vC : Value} {X : World} (h : Ic b y vE vC X) : Ic b y vC vE X := ⟨h.cell, h.lt, h.neC, h.neE⟩
theorem Ri.store {F : List UInt8} {S : Nat} {hE hC vF vE vC : Value} {zE zC : List Int} {wb w X : World} (h : Ri F S hE hC vF vE vC zE zC wb w X) (hS : w.heap.size ≤ S) : Ri F S vE vC vF vE vC zE zC wb w ((X.setCell ⟨S, 1, none⟩ vE).setCell ⟨S, 2, none⟩ vC) := by
  have h1 := rd_put h.heap 1 vE
  have h2 := rd_put h1 2 vC
  have g1 : Only S X (X.setCell ⟨S, 1, none⟩ vE) := grownBy_setCell2 _ _ _ _
  have g2 : Only S (X.setCell ⟨S, 1, none⟩ vE) ((X.setCell ⟨S, 1, none⟩ vE).setCell ⟨S, 2, none⟩ vC) := grownBy_setCell2 _ _ _ _
  have g := Only.trans g1 g2
  have hne : ∀ {T : TypeId} {v : Value} {n : Nat} {xs : List Value}, X.ownsRow w.heap.size T 1 v n xs → T ≠ 27 → v.ownBlock = none ∨ v.ownBlock ≠ some S := fun ho hT => by
    rcases ho.2 with ⟨rfl, _⟩ | ⟨gq, cap, cur, rfl, _, hq, _⟩
    · exact .inl rfl
    · refine .inr fun e => ?_
      injection e with e
      have e : gq = S := e
      rw [e, h.heap] at hq
      injection hq with hq
      injection hq with _ hq _
      exact hT hq.symm
  exact ⟨h.kept.trans (Kp.of_grown g fun k e => by cases e; exact ⟨_, _, _, h.heap, .inr rfl⟩), by simpa using h2, World.ownsRow.kept h.f g (hne h.f (by decide)), World.ownsRow.kept h.e g (hne h.e (by decide)), World.ownsRow.kept h.c g (hne h.c (by decide)), h.ne, h.below.trans (Only.below g hS h.below.size)⟩
theorem rd_put1 {w : World} {g : Nat} {a b c : Value} (h : w.heap[g]? = some (.cells #[a, b, c] 27 (0, 0))) (x : Value) : (w.setCell ⟨g, 1, none⟩ x).heap[g]? = some (.cells #[a, x, c] 27 (0, 0)) := by
  simpa using rd_put h 1 x
structure RdS (bs : List (List UInt8)) (l : List Nat) (V : Nat → Nat → List UInt8) (k S : Nat) (vF vE vC : Value) (w wr : World) : Prop where
  heap : wr.heap[S]? = some (.cells #[vF, vE, vC] 27 (0, 0))
  f : wr.ownsRow w.heap.size 5 1 vF (fileG l V k).length (bytesV (fileG l V k))
  e : wr.ownsRow w.heap.size 3 1 vE k (intsV (erG bs l k))
  c : wr.ownsRow w.heap.size 3 1 vC k (intsV (chG bs l V k))
  ne : vE.ownBlock = none ∨ vE.ownBlock ≠ vC.ownBlock
  below : Below w.heap.size w wr
theorem own_ne_S {T : TypeId} {X : World} {b n S : Nat} {v : Value} {xs : List Value} {C : Array Value} (ho : X.ownsRow b T 1 v n xs) (hs : X.heap[S]? = some (.cells C 27 (0, 0))) (hT : T ≠ 27) : v.ownBlock = none ∨ v.ownBlock ≠ some S := by
  rcases ho.2 with ⟨rfl, _⟩ | ⟨gq, cap, cur, rfl, _, hq, _⟩
  · exact .inl rfl
  · refine .inr fun e => ?_
    injection e with e
    have e : gq = S := e
    rw [e, hs] at hq
    injection hq with hq
    injection hq with _ hq _
    exact hT hq.symm
/-- the file grows, and is laid down -/
theorem Ri.fin {bs : List (List UInt8)} {l : List Nat} {U : Nat → Nat → List UInt8} {k s S : Nat} {vF vE vC v' : Value} {zE zC : List Int} {F Y : List UInt8} {wb w X X' : World} (h : Ri F S vE vC vF vE vC zE zC wb w X) (hg : X.grownBy X' vF.ownBlock) (hv : X'.ownsRow w.heap.size 5 1 v' (F.length + s) (bytesV (F ++ Y))) (hs : s = Y.length) (hS : w.heap.size ≤ S)
    (hF : fileG l U (k + 1) = F ++ Y) (hE : erG bs l (k + 1) = zE) (hC : chG bs l U (k + 1) = zC) : X'.heap[S]? = some (.cells #[vF, vE, vC] 27 (0, 0)) ∧ RdS bs l U (k + 1) S v' vE vC w (X'.setCell ⟨S, 0, none⟩ v') := by
  have hSn := own_ne_S h.f h.heap (by decide)
  have h1 : X'.heap[S]? = some (.cells #[vF, vE, vC] 27 (0, 0)) := by
    rw [hg.block S (Array.getElem?_eq_some_iff.1 h.heap).1 (fun e => by
      rcases hSn with h2 | h2
      · rw [h2] at e; cases e
      · exact h2 e.symm)]
    exact h.heap
  have he := World.ownsRow.kept h.e hg (own_ne_of h.e h.f (by decide))
  have hc := World.ownsRow.kept h.c hg (own_ne_of h.c h.f (by decide))
  have g2 : Only S X' (X'.setCell ⟨S, 0, none⟩ v') := grownBy_setCell2 _ _ _ _
  have hl1 : zE.length = k + 1 := by rw [← hE]; simp
  have hl2 : zC.length = k + 1 := by rw [← hC]; simp
  have hb := own_belowB h.below h.f hg
  refine ⟨h1, ⟨by simpa using rd_put h1 0 v', ?_, ?_, ?_, h.ne, hb.trans (Only.below g2 hS hb.size)⟩⟩
  · rw [hF, List.length_append, ← hs]
    exact World.ownsRow.kept hv g2 (own_ne_S hv h1 (by decide))
  · rw [hE, ← hl1]
    exact World.ownsRow.kept he g2 (own_ne_S he h1 (by decide))
  · rw [hC, ← hl2]
    exact World.ownsRow.kept hc g2 (own_ne_S hc h1 (by decide))
theorem own_slice {T : TypeId} {X : World} {b n : Nat} {v : Value} {xs : List Value} (h : X.ownsRow b T 1 v n xs) : ∃ o l c, v = Value.slice o l c := by
  rcases h.2 with ⟨rfl, _⟩ | ⟨_, _, _, rfl, _⟩
  · exact ⟨_, _, _, rfl⟩
  · exact ⟨_, _, _, rfl⟩
/-- a row stays when a cell of a result is written -/
theorem rd_stay {T : TypeId} {W : World} {b n g : Nat} {v : Value} {xs : List Value} {C : Array Value} (h : W.ownsRow b T 1 v n xs) (hT : T ≠ 27) (hg : W.heap[g]? = some (.cells C 27 (0, 0))) (i : Nat) (x : Value) : (W.setCell ⟨g, i, none⟩ x).ownsRow b T 1 v n xs :=
  World.ownsRow.kept h (grownBy_setCell2 _ _ _ _) (own_ne_S h hg hT)
theorem rd_end {T : TypeId} {W : World} {b n S q : Nat} {v : Value} {xs : List Value} {C D : Array Value} (h : W.ownsRow b T 1 v n xs) (hT : T ≠ 27) (hS : W.heap[S]? = some (.cells C 27 (0, 0))) (hq : W.heap[q]? = some (.cells D 27 (0, 0))) (hne : q ≠ S) (x0 x1 x2 x3 : Value) :
    ((((W.setCell ⟨S, 0, none⟩ x0).setCell ⟨q, 0, none⟩ x1).setCell ⟨q, 1, none⟩ x2).setCell ⟨q, 2, none⟩ x3).ownsRow b T 1 v n xs := by
  have h1 := rd_stay h hT hS 0 x0
  have hq1 : (W.setCell ⟨S, 0, none⟩ x0).heap[q]? = some (.cells D 27 (0, 0)) := by rw [heap_setCell_other W ⟨S, 0, none⟩ q x0 hne]; exact hq
  have h2 := rd_stay h1 hT hq1 0 x1
  have hq2 := rd_put hq1 0 x1
  have h3 := rd_stay h2 hT hq2 1 x2
  have hq3 := rd_put hq2 1 x2
  exact rd_stay h3 hT hq3 2 x3
def RbdAt (bs : List (List UInt8)) (l : List Nat) (S : Nat) (w : World) (v0 iv : Value) (wr : World) : Prop :=
  ∃ (k A : Nat) (V : Nat → Nat → List UInt8) (vF vE vC : Value), k ≤ l.length ∧ A = atG l k ∧ iv = .int .i64 k ∧ RbV (bs.drop A) v0 w ∧ MndAll bs l V k ∧ RdS bs l V k S vF vE vC w wr
def RdTo (bs : List (List UInt8)) (l : List Nat) (size : Nat) (u : TypeId) (v : Value) (w : World) (e : Ending) (w' : World) : Prop :=
  Below w.heap.size w w' ∧ (((∀ V, MndAll bs l V l.length → ¬ zall ((fileG l V l.length).drop size)) ∧ e = rd_e u v) ∨
    ∃ V x0 x1 x2, MndAll bs l V l.length ∧ zall ((fileG l V l.length).drop size) ∧ e = .returned (.tuple #[.agg #[x0, x1, x2], .nilIface]) ∧ RowV ((fileG l V l.length).take size) x0 w' ∧ IntsV (erG bs l l.length) x1 w' ∧ IntsV (chG bs l V l.length) x2 w')
theorem rd_last {bs : List (List UInt8)} {l : List Nat} {V : Nat → Nat → List UInt8} {S n gF capF : Nat} {vE vC : Value} {u : TypeId} {v : Value} {w w2 wr : World} {D : Array Value} (h : RdS bs l V l.length S (.slice (some ⟨gF, 0, none⟩) (fileG l V l.length).length capF) vE vC w2 wr) (hb : Buf wr gF capF (fileG l V l.length)) (hq : wr.heap[w.heap.size]? = some (.cells D 27 (0, 0))) (hne : w.heap.size ≠ S) (hbl : Below w.heap.size w wr) (hSS : w.heap.size ≤ S) (hn : n ≤ (fileG l V l.length).length) (hM : MndAll bs l V l.length) (hz : zall ((fileG l V l.length).drop n)) :
    RdTo bs l n u v w (.returned (.tuple #[.agg #[.slice (some ⟨gF, 0, none⟩) n capF, vE, vC], .nilIface])) ((((wr.setCell ⟨S, 0, none⟩ (.slice (some ⟨gF, 0, none⟩) n capF)).setCell ⟨w.heap.size, 0, none⟩ (.slice (some ⟨gF, 0, none⟩) n capF)).setCell ⟨w.heap.size, 1, none⟩ vE).setCell ⟨w.heap.size, 2, none⟩ vC) := by
  have g1 : Only S wr (wr.setCell ⟨S, 0, none⟩ (.slice (some ⟨gF, 0, none⟩) n capF)) := grownBy_setCell2 _ _ _ _
  have hb1 := hbl.trans (Only.below g1 hSS hbl.size)
  refine ⟨below_fx hb1 (Nat.le_refl _) _ _ _, .inr ⟨V, _, _, _, hM, hz, rfl, ?_, ?_, ?_⟩⟩
  · have h1 := rd_end hb (by decide) h.heap hq hne (.slice (some ⟨gF, 0, none⟩) n capF) (.slice (some ⟨gF, 0, none⟩) n capF) vE vC
    have h1 : Buf _ gF capF (fileG l V l.length) := h1
    have h2 := h1.row.part 0 n (by rw [bytesV_length]; omega) capF (by have := hb.le; omega) hb.le.2
    have h3 : ((bytesV (fileG l V l.length)).drop 0).take n = bytesV ((fileG l V l.length).take n) := by simp [bytesV]
    rw [h3] at h2
    refine ⟨_, _, ?_, h2⟩
    rw [List.length_take, Nat.min_eq_left hn]
  · obtain ⟨o, c, e, hr⟩ := owns_is (rd_end h.e (by decide) h.heap hq hne (.slice (some ⟨gF, 0, none⟩) n capF) (.slice (some ⟨gF, 0, none⟩) n capF) vE vC) (by simp [intsV])
    exact ⟨o, c, by rw [e]; simp, hr⟩
  · obtain ⟨o, c, e, hr⟩ := owns_is (rd_end h.c (by decide) h.heap hq hne (.slice (some ⟨gF, 0, none⟩) n capF) (.slice (some ⟨gF, 0, none⟩) n capF) vE vC) (by simp [intsV])
    exact ⟨o, c, by rw [e]; simp, hr⟩
set_option maxRecDepth 100000 in
set_option maxHeartbeats 8000000 in
theorem rebuild_of (bs : List (List UInt8)) (n N c : Nat) (l : List Nat) (hlq : shp n = l) (o : Option Addr) (w : World) (A : Nat → Addr) (hE : Er.Six w A) (hP : RbIs w o bs c) (hn : n ≤ 2000) (hN : bs.length = N) (hT : N = sumN l + 32 * l.length) :
    Calls Tryz.prog 5 #[.slice o N c, .int .i64 (n : Int)] w (RdTo bs l n 152 (.pointer (some (A 16))) w) := by
  have hnb := nbk_bd n hn
  have hnp := nbk_pos n
  have hll := shp_len n
  have hss := shp_sum n
  have hmem : ∀ k ∈ shp n, 1 ≤ k ∧ k ≤ 223 := shpN_mem (nbk n) hnp hnb
  have hnle := nbk_le n
  rw [hlq] at hll hss hmem
  obtain ⟨w1, hw1⟩ : ∃ w1, w.alloc (.cells #[.slice none 0 0, .slice none 0 0, .slice none 0 0] 27) = w1 := ⟨_, rfl⟩
  have hb1 : Below w.heap.size w w1 := by rw [← hw1]; exact below_new _ _
  have hg1 : w1.heap[w.heap.size]? = some (.cells #[.slice none 0 0, .slice none 0 0, .slice none 0 0] 27 (0, 0)) := by rw [← hw1]; exact World.alloc_heap_new _ _
  have hs := shape_any n w1 hn
  rw [hlq] at hs
  have HS := Lib.hid hs
  have HG1 := Lib.hid hg1
  have HB1 := Lib.hid hb1
  have HW1 := Lib.hid hw1
  have HP := Lib.hid hP
  have HE := Lib.hid hE
  have HN := Lib.hid hN
  have HSS := Lib.hid hss
  have HMM := Lib.hid hmem
  have HNL := Lib.hid hnle
  have HT := Lib.hid hT
  have hNb : N ≤ 400 := by omega
  have hp1 := hP.le.1
  have hp2 := hP.le.2
  rw [hN] at hp1
  unfold maxLen at hp2
  clear hlq hE hP hN hT hss hmem hnle hb1 hw1 hg1 hs
  go_enter Tryz.func5, Tryz.ntmps5
  go_wp2_with (rw [HW1.out])
  refine HS.out.mono ?_; rintro e w2 ⟨x, rfl, ⟨o1, c1, rfl, hr⟩, hb⟩
  have hc1 := hr.cap
  have hle1 := hr.le
  simp at hle1
  unfold maxLen at hc1
  have HB2 := Lib.hid (Kit.step HB1.out hb)
  have HG2 := Lib.hid (rd_keeps HG1.out hb)
  have HR2 := Lib.hid hr
  have htt := total_any l o1 c1 w2 hr (by omega) (by rw [HSS.out]; omega)
  rw [← HT.out] at htt
  have HTT := Lib.hid htt
  rw [natI_length]
  clear hb hr htt HS HG1
  go_wp2_with fail
  refine HTT.out.mono ?_; rintro e w2' ⟨rfl, rfl⟩
  obtain ⟨w3, hw3⟩ : ∃ w3, w2'.alloc (.cells #[.slice none 0 0, .slice none 0 0, .slice none 0 0] 27) = w3 := ⟨_, rfl⟩
  have hb3 : Below w2'.heap.size w2' w3 := by rw [← hw3]; exact below_new _ _
  obtain ⟨S, hSq⟩ : ∃ S, w2'.heap.size = S := ⟨_, rfl⟩
  have hg3 : w3.heap[S]? = some (.cells #[.slice none 0 0, .slice none 0 0, .slice none 0 0] 27 (0, 0)) := by rw [← hw3, ← hSq]; exact World.alloc_heap_new _ _
  have HST : Hid (RdS bs l (fun _ _ => []) 0 S (.slice none 0 0) (.slice none 0 0) (.slice none 0 0) w2' w3) := Lib.hid ⟨hg3, World.ownsRow_nil _ _ _ _, World.ownsRow_nil _ _ _ _, World.ownsRow_nil _ _ _ _, .inl rfl, hb3⟩
  have HP2 := Lib.hid (HP.out.later HB2.out)
  have HSQ := Lib.hid hSq
  have HW3 := Lib.hid hw3
  clear hb3 hg3 hw3 HTT
  go_wp2_with (rw [HW3.out])
  clear hSq
  go_loopw [0, 10, 11, 12, 13, 14, 15, 34] (fun v0 _ _ _ _ _ _ iv wr => RbdAt bs l S w2' v0 iv wr) (fun _ _ _ _ _ _ _ iv _ => l.length - (intOf iv).toNat)
  case atStart => exact ⟨0, 0, _, _, _, _, Nat.zero_le _, (atG_zero l).symm, rfl, ⟨o, c, by simp [HN.out], by simpa using HP2.out⟩, fun h hh => absurd hh (by omega), HST.out⟩
  case round =>
    clear HST HW3
    obtain ⟨k, B, V, vF, vE, vC, hk, hB, rfl, ⟨o0, c0, rfl, hv0⟩, hmv, hrd⟩ := hrel
    have HRD := Lib.hid hrd
    have HMV := Lib.hid hmv
    have HBQ := Lib.hid hB
    have HV0 := Lib.hid hv0
    have h0l := hv0.le.1
    have h0c := hv0.le.2
    unfold maxLen at h0c
    have hdl : (bs.drop B).length = N - B := by rw [List.length_drop, HN.out]
    rw [hdl] at h0l ⊢
    obtain ⟨r, hr⟩ : ∃ r, N - B = r := ⟨_, rfl⟩
    rw [hr] at h0l ⊢
    by_cases hlt : k < l.length
    · obtain ⟨b1, off1, rfl, _, hcl⟩ := natI_cell (HR2.out.later hrd.below) k hlt
      change wr.cell? _ = some (.int .i64 ((szG l k : Nat) : Int)) at hcl
      have hst := atG_succ l k hlt
      have hsl := atG_le l k hlt
      rw [← HT.out] at hsl
      have hmk := HMM.out _ (szG_mem l k hlt)
      have hgg : grpG bs l k = (bs.drop B).take (szG l k + 32) := by rw [hB]; rfl
      obtain ⟨s, hs⟩ : ∃ s, szG l k = s := ⟨_, rfl⟩
      rw [hs] at hcl hst hmk hsl hgg
      rw [← hB] at hst hsl
      have hs1 := hmk.1
      have hs2 := hmk.2
      have hsr : s + 32 ≤ r := by omega
      have hk0 : (0 : Int) ≤ (k : Int) := by omega
      have hk1 : (k : Int) < (l.length : Int) := by omega
      obtain ⟨b0, off0, p0, q0, rfl, _⟩ := hv0.cell 0 (by rw [hdl, hr]; omega)
      have htk := hv0.take (s + 32) (by rw [hdl, hr]; omega)
      rw [← hgg] at htk
      have hdd := hv0.drop (s + 32) (by rw [hdl, hr]; omega)
      rw [List.drop_drop] at hdd
      have hgl : (grpG bs l k).length = s + 32 := by rw [hgg, List.length_take, hdl]; omega
      have HTK := Lib.hid htk
      have HDD := Lib.hid hdd
      have HGL := Lib.hid hgl
      have HST := Lib.hid hst
      have HSZ := Lib.hid hs
      have HRR := Lib.hid hr
      obtain ⟨m, hm⟩ : ∃ m, s + 32 = m := ⟨_, rfl⟩
      have hmi : (s : Int) + 32 = (m : Int) := by omega
      have hmc : (m : Int) ≤ (c0 : Int) := by omega
      have hmr : (m : Int) ≤ (r : Int) := by omega
      rw [hm] at hgl
      have HMQ := Lib.hid hm
      have hmd := cmend_any (grpG bs l k) (some ⟨b0, off0, none⟩) m c0 wr A (HE.out.later (HB2.out.trans (hrd.below.mono HB2.out.size))) (htk.later hrd.below) hgl (by omega) (by omega)
      have HMD := Lib.hid hmd
      clear hrd hmv hv0 hst hsl hmk hgg hs hr htk hdd hgl hmd hB hm hdl
      go_wp2_with fail
      refine HMD.out.mono ?_; rintro e w4 ⟨hb4, ⟨hno, rfl⟩ | ⟨vs, gO, BB, Gb, hmn, rfl, hmat⟩⟩
      · have HNO : Hid (∀ V, MndAll bs l V l.length → ¬ zall ((fileG l V l.length).drop n)) := Lib.hid fun V h => by
          have := h k hlt
          rw [HSZ.out, HMQ.out] at this
          exact absurd this (hno _)
        have hbe := Kit.step (HB2.out.trans (HRD.out.below.mono HB2.out.size)) hb4
        have hg4 := rd_keeps (rd_keeps HG2.out HRD.out.below) hb4
        have hcc := rd_cells hg4
        have HBE := Lib.hid hbe
        have HG4 := Lib.hid hg4
        clear hno hb4 hbe hg4
        go_wp2_with fail
        refine bodyPost_ret (results_cell_row2 rfl _ _ w.heap.size 27 #[.slice none 0 0, .slice none 0 0, .slice none 0 0] (0, 0) _ rfl (rd_set HG4.out _ _ _) Tryz.underlying27 rfl rd_size) rfl ?_
        exact ⟨below_fx HBE.out (Nat.le_refl _) _ _ _, .inl ⟨HNO.out, rfl⟩⟩
      · have hda := damage_any (grpG bs l k) ((List.range m).map (mbk vs)) vs m c0 m (some ⟨b0, off0, none⟩) (some ⟨gO, 0, none⟩) w4 (by
          have := HTK.out
          exact (this.later HRD.out.below).later hb4) (md_rb hmat) (by rw [HGL.out, HMQ.out]) (by simp) (fun i hi => bi_map _ _ _ hi) (by omega)
        have HDA := Lib.hid hda
        have HMAT := Lib.hid hmat
        have HMN := Lib.hid hmn
        have HB4 := Lib.hid hb4
        clear hda hmat hmn hb4
        go_wp2_with fail
        refine HDA.out.mono ?_; rintro e w5 ⟨rfl, rfl⟩
        go_wp2_with fail
        have RI0 : Ri (fileG l V k) S vE vC vF vE vC (erG bs l k) (chG bs l V k) w5 w2' w5 := by
          have h := HRD.out
          have hb := HB4.out
          exact ⟨Kp.refl _, rd_keeps h.heap hb, owns_laterB h.f hb, by rw [erG_length]; exact owns_laterB h.e hb, by rw [chG_length]; exact owns_laterB h.c hb, h.ne, Kit.step h.below hb⟩
        have hSS : w2'.heap.size ≤ S := by rw [HSQ.out]; exact Nat.le_refl _
        refine Code.wp_mono (Q := fun e a W => e = .normal ∧ a.defers = [] ∧ a.tmps.size = 96 ∧ (∀ i, i < 35 → a.tmps.getD i undef = ([.slice (some ⟨b0, off0, none⟩) r c0, .int .i64 (n : Int), undef, undef, .pointer (some ⟨w.heap.size, 0, none⟩), u5, .slice (some ⟨b1, off1, none⟩) l.length c1, .nilIface, .pointer (some ⟨S, 0, none⟩), undef, .int .i64 (s : Int), .slice (some ⟨b0, off0, none⟩) m c0, .slice (some ⟨gO, 0, none⟩) m m, .nilIface, .int .i64 ((gnL (grpG bs l k) m).length : Int), .int .i64 (chN (grpG bs l k) vs m : Int), .tuple #[.slice (some ⟨b1, off1, none⟩) l.length c1, .nilIface], .int .i64 (n : Int), .tuple #[.slice (some ⟨b1, off1, none⟩) l.length c1, .nilIface], .slice (some ⟨b1, off1, none⟩) l.length c1, .nilIface, .nilIface, .bool false, undef, undef, .slice o N c, .int .i64 (N : Int), .slice (some ⟨b1, off1, none⟩) l.length c1, .int .i64 (N : Int), .bool false, undef, undef, .slice (some ⟨b1, off1, none⟩) l.length c1, .int .i64 (l.length : Int), .int .i64 (k : Int)] : List Value).getD i undef) ∧ (∀ i, i < 14 → a.tmps.getD (82 + i) undef = undef) ∧ ∃ vE1 vC1, Ri (fileG l V k) S vE1 vC1 vF vE1 vC1 (erG bs l k ++ [((gnL (grpG bs l k) m).length : Int)]) (chG bs l V k ++ [(chN (grpG bs l k) vs m : Int)]) w5 w2' W) ?rest15 ?reg15
        case reg15 =>
          have RI := RI0.later (Below.refl _ _).drew
          clear RI0
          refine wp_region_any (by kernel_rfl) ?_
          change wpAny _ _ _ _ _ _ _ (World.drew w5)
          generalize World.drew w5 = X0 at RI ⊢
          refine wpAny_take (i := 0) (v := ?va1) rfl (by kernel_rfl) (by kernel_rfl) (by kernel_rfl) (fun _ _ _ h => (by cases h.1)) (Or.inl ⟨by rfl, ?ha1⟩) ?ra1
          case ha1 => (intro w; (go_simp <;> with_reducible rfl))
          refine wpAny_take (i := 2) (v := ?va2) rfl (by kernel_rfl) (by kernel_rfl) (by kernel_rfl) (fun _ _ _ h => (by cases h.1)) (Or.inl ⟨by rfl, ?ha2⟩) ?ra2
          case ha2 => (intro w; (go_simp <;> with_reducible rfl))
          refine wpAny_take (i := 5) (v := ?va3) rfl (by kernel_rfl) (by kernel_rfl) (by kernel_rfl) (fun _ _ _ h => (by cases h.1)) (Or.inl ⟨by rfl, ?ha3⟩) ?ra3
          case ha3 => (intro w; (go_simp <;> with_reducible rfl))
          refine wpAny_take (i := 7) (v := ?va4) rfl (by kernel_rfl) (by kernel_rfl) (by kernel_rfl) (fun _ _ _ h => (by cases h.1)) (Or.inl ⟨by rfl, ?ha4⟩) ?ra4
          case ha4 => (intro w; (go_simp <;> with_reducible rfl))
          refine wpAny_ready (rs := [1, 3, 6, 8]) (by kernel_rfl) (by simp) ?_
          refine AllReady.cons rfl (fun K hK => ?_) ?_
          · have hc := (rd_cells RI.heap).2.1
            go_simp
            refine hK _ _ ?_
            clear hK K hc
            refine wpAny_ready (rs := [3, 6, 8]) (by kernel_rfl) (by simp) ?_
            refine AllReady.cons rfl (fun K hK => ?_) ?_
            · have IE := RI.new ((gnL (grpG bs l k) m).length : Int)
              have RI := RI.later (below_new X0 (Obj.cells #[Value.int IntKind.i64 ((gnL (grpG bs l k) m).length : Int)] 3))
              go_simp
              refine hK _ _ ?_
              clear hK K
              generalize World.alloc X0 (Obj.cells #[Value.int IntKind.i64 ((gnL (grpG bs l k) m).length : Int)] 3) = X1 at RI IE ⊢
              refine wpAny_ready (rs := [4, 6, 8]) (by kernel_rfl) (by simp) ?_
              refine AllReady.cons rfl (fun K hK => ?_) ?_
              · obtain ⟨o4, l4, c4, X2, hr4, RI, hic4⟩ := RI.app _ _ IE 25 (by rw [erG_length]; omega)
                rw [if_pos (by rfl)]
                refine Lib.wp_append_run _ (.tmp 58) (.tmp 60) _ _ rfl _ _ rfl rfl _ _ hr4 (hK _ _ ?_)
                clear hK K hr4 hic4
                refine wpAny_ready (rs := [6, 8]) (by kernel_rfl) (by simp) ?_
                refine AllReady.cons rfl (fun K hK => ?_) ?_
                · have hc := (rd_cells RI.heap).2.2.1
                  go_simp
                  refine hK _ _ ?_
                  clear hK K hc
                  refine wpAny_take (i := 10) (v := ?va5) rfl (by kernel_rfl) (by kernel_rfl) (by kernel_rfl) (fun _ _ _ h => (by cases h.1)) (Or.inl ⟨by rfl, ?ha5⟩) ?ra5
                  case ha5 => (intro w; (go_simp <;> with_reducible rfl))
                  refine wpAny_ready (rs := [8]) (by kernel_rfl) (by simp) ?_
                  refine AllReady.cons rfl (fun K hK => ?_) AllReady.nil
                  have IC := RI.new (chN (grpG bs l k) vs m : Int)
                  have RI := RI.later (below_new X2 (Obj.cells #[Value.int IntKind.i64 (chN (grpG bs l k) vs m : Int)] 3))
                  go_simp
                  refine hK _ _ ?_
                  clear hK K
                  generalize World.alloc X2 (Obj.cells #[Value.int IntKind.i64 (chN (grpG bs l k) vs m : Int)] 3) = X3 at RI IC ⊢
                  refine wpAny_ready (rs := [9]) (by kernel_rfl) (by simp) ?_
                  refine AllReady.cons rfl (fun K hK => ?_) AllReady.nil
                  obtain ⟨o9, l9, c9, X4, hr9, RI, hic9⟩ := RI.swap.app _ _ IC.swap 25 (by rw [chG_length]; omega)
                  have RI := RI.swap
                  rw [if_pos (by rfl)]
                  refine Lib.wp_append_run _ (.tmp 63) (.tmp 65) _ _ rfl _ _ rfl rfl _ _ hr9 (hK _ _ ?_)
                  clear hK K hr9 hic9
                  refine wpAny_ready (rs := [11]) (by kernel_rfl) (by simp) ?_
                  refine AllReady.cons rfl (fun K hK => ?_) AllReady.nil
                  have hc := (rd_cells RI.heap).2.1
                  have hf := (rd_cells RI.heap).2.2.2.2.1
                  have RS := RI.store hSS
                  have hh := rd_put1 RI.heap (.slice o4 l4 c4)
                  have hc2 := (rd_cells hh).2.2.1
                  have hf2 := (rd_cells hh).2.2.2.2.2
                  go_simp
                  refine hK _ _ ?_
                  clear hK K hc hf
                  refine wpAny_take (i := 12) (v := ?va6) rfl (by kernel_rfl) (by kernel_rfl) (by kernel_rfl) (fun _ _ _ h => (by cases h.1)) (Or.inl ⟨by rfl, ?ha6⟩) ?ra6
                  case ha6 => (intro w; (go_simp <;> with_reducible rfl))
                  refine wpAny_ready (rs := [13]) (by kernel_rfl) (by simp) ?_
                  refine AllReady.cons rfl (fun K hK => ?_) AllReady.nil
                  go_simp
                  refine hK _ _ ?_
                  clear hK K hc2 hf2
                  refine wpAny_done (by kernel_rfl) ?_ _
                  exact ⟨rfl, rfl, rfl, fun i hi => (by match i, hi with | 0, _ | 1, _ | 2, _ | 3, _ | 4, _ | 5, _ | 6, _ | 7, _ | 8, _ | 9, _ | 10, _ | 11, _ | 12, _ | 13, _ | 14, _ | 15, _ | 16, _ | 17, _ | 18, _ | 19, _ | 20, _ | 21, _ | 22, _ | 23, _ | 24, _ | 25, _ | 26, _ | 27, _ | 28, _ | 29, _ | 30, _ | 31, _ | 32, _ | 33, _ | 34, _ => rfl | n + 35, h => exact absurd h (by omega)), fun i hi => (by match i, hi with | 0, _ | 1, _ | 2, _ | 3, _ | 4, _ | 5, _ | 6, _ | 7, _ | 8, _ | 9, _ | 10, _ | 11, _ | 12, _ | 13, _ => rfl | n + 14, h => exact absurd h (by omega)), _, _, RS⟩
                refine AllReady.cons rfl (fun K hK => ?_) AllReady.nil
                have IC := RI.new (chN (grpG bs l k) vs m : Int)
                have RI := RI.later (below_new X2 (Obj.cells #[Value.int IntKind.i64 (chN (grpG bs l k) vs m : Int)] 3))
                go_simp
                refine hK _ _ ?_
                clear hK K
                generalize World.alloc X2 (Obj.cells #[Value.int IntKind.i64 (chN (grpG bs l k) vs m : Int)] 3) = X5 at RI IC ⊢
                refine wpAny_ready (rs := [6]) (by kernel_rfl) (by simp) ?_
                refine AllReady.cons rfl (fun K hK => ?_) AllReady.nil
                have hc := (rd_cells RI.heap).2.2.1
                go_simp
                refine hK _ _ ?_
                clear hK K hc
                refine wpAny_take (i := 10) (v := ?va7) rfl (by kernel_rfl) (by kernel_rfl) (by kernel_rfl) (fun _ _ _ h => (by cases h.1)) (Or.inl ⟨by rfl, ?ha7⟩) ?ra7
                case ha7 => (intro w; (go_simp <;> with_reducible rfl))
                refine wpAny_ready (rs := [9]) (by kernel_rfl) (by simp) ?_
                refine AllReady.cons rfl (fun K hK => ?_) AllReady.nil
                obtain ⟨o9, l9, c9, X6, hr9, RI, hic9⟩ := RI.swap.app _ _ IC.swap 25 (by rw [chG_length]; omega)
                have RI := RI.swap
                rw [if_pos (by rfl)]
                refine Lib.wp_append_run _ (.tmp 63) (.tmp 65) _ _ rfl _ _ rfl rfl _ _ hr9 (hK _ _ ?_)
                clear hK K hr9 hic9
                refine wpAny_ready (rs := [11]) (by kernel_rfl) (by simp) ?_
                refine AllReady.cons rfl (fun K hK => ?_) AllReady.nil
                have hc := (rd_cells RI.heap).2.1
                have hf := (rd_cells RI.heap).2.2.2.2.1
                have RS := RI.store hSS
                have hh := rd_put1 RI.heap (.slice o4 l4 c4)
                have hc2 := (rd_cells hh).2.2.1
                have hf2 := (rd_cells hh).2.2.2.2.2
                go_simp
                refine hK _ _ ?_
                clear hK K hc hf
                refine wpAny_take (i := 12) (v := ?va8) rfl (by kernel_rfl) (by kernel_rfl) (by kernel_rfl) (fun _ _ _ h => (by cases h.1)) (Or.inl ⟨by rfl, ?ha8⟩) ?ra8
                case ha8 => (intro w; (go_simp <;> with_reducible rfl))
                refine wpAny_ready (rs := [13]) (by kernel_rfl) (by simp) ?_
                refine AllReady.cons rfl (fun K hK => ?_) AllReady.nil
                go_simp
                refine hK _ _ ?_
                clear hK K hc2 hf2
                refine wpAny_done (by kernel_rfl) ?_ _
                exact ⟨rfl, rfl, rfl, fun i hi => (by match i, hi with | 0, _ | 1, _ | 2, _ | 3, _ | 4, _ | 5, _ | 6, _ | 7, _ | 8, _ | 9, _ | 10, _ | 11, _ | 12, _ | 13, _ | 14, _ | 15, _ | 16, _ | 17, _ | 18, _ | 19, _ | 20, _ | 21, _ | 22, _ | 23, _ | 24, _ | 25, _ | 26, _ | 27, _ | 28, _ | 29, _ | 30, _ | 31, _ | 32, _ | 33, _ | 34, _ => rfl | n + 35, h => exact absurd h (by omega)), fun i hi => (by match i, hi with | 0, _ | 1, _ | 2, _ | 3, _ | 4, _ | 5, _ | 6, _ | 7, _ | 8, _ | 9, _ | 10, _ | 11, _ | 12, _ | 13, _ => rfl | n + 14, h => exact absurd h (by omega)), _, _, RS⟩
              refine AllReady.cons rfl (fun K hK => ?_) ?_
              · have hc := (rd_cells RI.heap).2.2.1
                go_simp
                refine hK _ _ ?_
                clear hK K hc
                refine wpAny_ready (rs := [4, 8]) (by kernel_rfl) (by simp) ?_
                refine AllReady.cons rfl (fun K hK => ?_) ?_
                · obtain ⟨o4, l4, c4, X7, hr4, RI, hic4⟩ := RI.app _ _ IE 25 (by rw [erG_length]; omega)
                  rw [if_pos (by rfl)]
                  refine Lib.wp_append_run _ (.tmp 58) (.tmp 60) _ _ rfl _ _ rfl rfl _ _ hr4 (hK _ _ ?_)
                  clear hK K hr4 hic4
                  refine wpAny_take (i := 10) (v := ?va9) rfl (by kernel_rfl) (by kernel_rfl) (by kernel_rfl) (fun _ _ _ h => (by cases h.1)) (Or.inl ⟨by rfl, ?ha9⟩) ?ra9
                  case ha9 => (intro w; (go_simp <;> with_reducible rfl))
                  refine wpAny_ready (rs := [8]) (by kernel_rfl) (by simp) ?_
                  refine AllReady.cons rfl (fun K hK => ?_) AllReady.nil
                  have IC := RI.new (chN (grpG bs l k) vs m : Int)
                  have RI := RI.later (below_new X7 (Obj.cells #[Value.int IntKind.i64 (chN (grpG bs l k) vs m : Int)] 3))
                  go_simp
                  refine hK _ _ ?_
                  clear hK K
                  generalize World.alloc X7 (Obj.cells #[Value.int IntKind.i64 (chN (grpG bs l k) vs m : Int)] 3) = X8 at RI IC ⊢
                  refine wpAny_ready (rs := [9]) (by kernel_rfl) (by simp) ?_
                  refine AllReady.cons rfl (fun K hK => ?_) AllReady.nil
                  obtain ⟨o9, l9, c9, X9, hr9, RI, hic9⟩ := RI.swap.app _ _ IC.swap 25 (by rw [chG_length]; omega)
                  have RI := RI.swap
                  rw [if_pos (by rfl)]
                  refine Lib.wp_append_run _ (.tmp 63) (.tmp 65) _ _ rfl _ _ rfl rfl _ _ hr9 (hK _ _ ?_)
                  clear hK K hr9 hic9
                  refine wpAny_ready (rs := [11]) (by kernel_rfl) (by simp) ?_
                  refine AllReady.cons rfl (fun K hK => ?_) AllReady.nil
                  have hc := (rd_cells RI.heap).2.1
                  have hf := (rd_cells RI.heap).2.2.2.2.1
                  have RS := RI.store hSS
                  have hh := rd_put1 RI.heap (.slice o4 l4 c4)
                  have hc2 := (rd_cells hh).2.2.1
                  have hf2 := (rd_cells hh).2.2.2.2.2
                  go_simp
                  refine hK _ _ ?_
                  clear hK K hc hf
                  refine wpAny_take (i := 12) (v := ?va10) rfl (by kernel_rfl) (by kernel_rfl) (by kernel_rfl) (fun _ _ _ h => (by cases h.1)) (Or.inl ⟨by rfl, ?ha10⟩) ?ra10
                  case ha10 => (intro w; (go_simp <;> with_reducible rfl))
                  refine wpAny_ready (rs := [13]) (by kernel_rfl) (by simp) ?_
                  refine AllReady.cons rfl (fun K hK => ?_) AllReady.nil
                  go_simp
                  refine hK _ _ ?_
                  clear hK K hc2 hf2
                  refine wpAny_done (by kernel_rfl) ?_ _
                  exact ⟨rfl, rfl, rfl, fun i hi => (by match i, hi with | 0, _ | 1, _ | 2, _ | 3, _ | 4, _ | 5, _ | 6, _ | 7, _ | 8, _ | 9, _ | 10, _ | 11, _ | 12, _ | 13, _ | 14, _ | 15, _ | 16, _ | 17, _ | 18, _ | 19, _ | 20, _ | 21, _ | 22, _ | 23, _ | 24, _ | 25, _ | 26, _ | 27, _ | 28, _ | 29, _ | 30, _ | 31, _ | 32, _ | 33, _ | 34, _ => rfl | n + 35, h => exact absurd h (by omega)), fun i hi => (by match i, hi with | 0, _ | 1, _ | 2, _ | 3, _ | 4, _ | 5, _ | 6, _ | 7, _ | 8, _ | 9, _ | 10, _ | 11, _ | 12, _ | 13, _ => rfl | n + 14, h => exact absurd h (by omega)), _, _, RS⟩
                refine AllReady.cons rfl (fun K hK => ?_) AllReady.nil
                have IC := RI.new (chN (grpG bs l k) vs m : Int)
                have RI := RI.later (below_new X1 (Obj.cells #[Value.int IntKind.i64 (chN (grpG bs l k) vs m : Int)] 3))
                have IE := IE.later (below_new X1 (Obj.cells #[Value.int IntKind.i64 (chN (grpG bs l k) vs m : Int)] 3))
                go_simp
                refine hK _ _ ?_
                clear hK K
                generalize World.alloc X1 (Obj.cells #[Value.int IntKind.i64 (chN (grpG bs l k) vs m : Int)] 3) = X10 at RI IC IE ⊢
                refine wpAny_ready (rs := [4]) (by kernel_rfl) (by simp) ?_
                refine AllReady.cons rfl (fun K hK => ?_) AllReady.nil
                obtain ⟨o4, l4, c4, X11, hr4, RI, hic4⟩ := RI.app _ _ IE 25 (by rw [erG_length]; omega)
                have IC := hic4 _ _ IC
                rw [if_pos (by rfl)]
                refine Lib.wp_append_run _ (.tmp 58) (.tmp 60) _ _ rfl _ _ rfl rfl _ _ hr4 (hK _ _ ?_)
                clear hK K hr4 hic4
                refine wpAny_take (i := 10) (v := ?va11) rfl (by kernel_rfl) (by kernel_rfl) (by kernel_rfl) (fun _ _ _ h => (by cases h.1)) (Or.inl ⟨by rfl, ?ha11⟩) ?ra11
                case ha11 => (intro w; (go_simp <;> with_reducible rfl))
                refine wpAny_ready (rs := [9]) (by kernel_rfl) (by simp) ?_
                refine AllReady.cons rfl (fun K hK => ?_) AllReady.nil
                obtain ⟨o9, l9, c9, X12, hr9, RI, hic9⟩ := RI.swap.app _ _ IC.swap 25 (by rw [chG_length]; omega)
                have RI := RI.swap
                rw [if_pos (by rfl)]
                refine Lib.wp_append_run _ (.tmp 63) (.tmp 65) _ _ rfl _ _ rfl rfl _ _ hr9 (hK _ _ ?_)
                clear hK K hr9 hic9
                refine wpAny_ready (rs := [11]) (by kernel_rfl) (by simp) ?_
                refine AllReady.cons rfl (fun K hK => ?_) AllReady.nil
                have hc := (rd_cells RI.heap).2.1
                have hf := (rd_cells RI.heap).2.2.2.2.1
                have RS := RI.store hSS
                have hh := rd_put1 RI.heap (.slice o4 l4 c4)
                have hc2 := (rd_cells hh).2.2.1
                have hf2 := (rd_cells hh).2.2.2.2.2
                go_simp
                refine hK _ _ ?_
                clear hK K hc hf
                refine wpAny_take (i := 12) (v := ?va12) rfl (by kernel_rfl) (by kernel_rfl) (by kernel_rfl) (fun _ _ _ h => (by cases h.1)) (Or.inl ⟨by rfl, ?ha12⟩) ?ra12
                case ha12 => (intro w; (go_simp <;> with_reducible rfl))
                refine wpAny_ready (rs := [13]) (by kernel_rfl) (by simp) ?_
                refine AllReady.cons rfl (fun K hK => ?_) AllReady.nil
                go_simp
                refine hK _ _ ?_
                clear hK K hc2 hf2
                refine wpAny_done (by kernel_rfl) ?_ _
                exact ⟨rfl, rfl, rfl, fun i hi => (by match i, hi with | 0, _ | 1, _ | 2, _ | 3, _ | 4, _ | 5, _ | 6, _ | 7, _ | 8, _ | 9, _ | 10, _ | 11, _ | 12, _ | 13, _ | 14, _ | 15, _ | 16, _ | 17, _ | 18, _ | 19, _ | 20, _ | 21, _ | 22, _ | 23, _ | 24, _ | 25, _ | 26, _ | 27, _ | 28, _ | 29, _ | 30, _ | 31, _ | 32, _ | 33, _ | 34, _ => rfl | n + 35, h => exact absurd h (by omega)), fun i hi => (by match i, hi with | 0, _ | 1, _ | 2, _ | 3, _ | 4, _ | 5, _ | 6, _ | 7, _ | 8, _ | 9, _ | 10, _ | 11, _ | 12, _ | 13, _ => rfl | n + 14, h => exact absurd h (by omega)), _, _, RS⟩
              refine AllReady.cons rfl (fun K hK => ?_) AllReady.nil
              have IC := RI.new (chN (grpG bs l k) vs m : Int)
              have RI := RI.later (below_new X1 (Obj.cells #[Value.int IntKind.i64 (chN (grpG bs l k) vs m : Int)] 3))
              have IE := IE.later (below_new X1 (Obj.cells #[Value.int IntKind.i64 (chN (grpG bs l k) vs m : Int)] 3))
              go_simp
              refine hK _ _ ?_
              clear hK K
              generalize World.alloc X1 (Obj.cells #[Value.int IntKind.i64 (chN (grpG bs l k) vs m : Int)] 3) = X13 at RI IC IE ⊢
              refine wpAny_ready (rs := [4, 6]) (by kernel_rfl) (by simp) ?_
              refine AllReady.cons rfl (fun K hK => ?_) ?_
              · obtain ⟨o4, l4, c4, X14, hr4, RI, hic4⟩ := RI.app _ _ IE 25 (by rw [erG_length]; omega)
                have IC := hic4 _ _ IC
                rw [if_pos (by rfl)]
                refine Lib.wp_append_run _ (.tmp 58) (.tmp 60) _ _ rfl _ _ rfl rfl _ _ hr4 (hK _ _ ?_)
                clear hK K hr4 hic4
                refine wpAny_ready (rs := [6]) (by kernel_rfl) (by simp) ?_
                refine AllReady.cons rfl (fun K hK => ?_) AllReady.nil
                have hc := (rd_cells RI.heap).2.2.1
                go_simp
                refine hK _ _ ?_
                clear hK K hc
                refine wpAny_take (i := 10) (v := ?va13) rfl (by kernel_rfl) (by kernel_rfl) (by kernel_rfl) (fun _ _ _ h => (by cases h.1)) (Or.inl ⟨by rfl, ?ha13⟩) ?ra13
                case ha13 => (intro w; (go_simp <;> with_reducible rfl))
                refine wpAny_ready (rs := [9]) (by kernel_rfl) (by simp) ?_
                refine AllReady.cons rfl (fun K hK => ?_) AllReady.nil
                obtain ⟨o9, l9, c9, X15, hr9, RI, hic9⟩ := RI.swap.app _ _ IC.swap 25 (by rw [chG_length]; omega)
                have RI := RI.swap
                rw [if_pos (by rfl)]
                refine Lib.wp_append_run _ (.tmp 63) (.tmp 65) _ _ rfl _ _ rfl rfl _ _ hr9 (hK _ _ ?_)
                clear hK K hr9 hic9
                refine wpAny_ready (rs := [11]) (by kernel_rfl) (by simp) ?_
                refine AllReady.cons rfl (fun K hK => ?_) AllReady.nil
                have hc := (rd_cells RI.heap).2.1
                have hf := (rd_cells RI.heap).2.2.2.2.1
                have RS := RI.store hSS
                have hh := rd_put1 RI.heap (.slice o4 l4 c4)
                have hc2 := (rd_cells hh).2.2.1
                have hf2 := (rd_cells hh).2.2.2.2.2
                go_simp
                refine hK _ _ ?_
                clear hK K hc hf
                refine wpAny_take (i := 12) (v := ?va14) rfl (by kernel_rfl) (by kernel_rfl) (by kernel_rfl) (fun _ _ _ h => (by cases h.1)) (Or.inl ⟨by rfl, ?ha14⟩) ?ra14
                case ha14 => (intro w; (go_simp <;> with_reducible rfl))
                refine wpAny_ready (rs := [13]) (by kernel_rfl) (by simp) ?_
                refine AllReady.cons rfl (fun K hK => ?_) AllReady.nil
                go_simp
                refine hK _ _ ?_
                clear hK K hc2 hf2
                refine wpAny_done (by kernel_rfl) ?_ _
                exact ⟨rfl, rfl, rfl, fun i hi => (by match i, hi with | 0, _ | 1, _ | 2, _ | 3, _ | 4, _ | 5, _ | 6, _ | 7, _ | 8, _ | 9, _ | 10, _ | 11, _ | 12, _ | 13, _ | 14, _ | 15, _ | 16, _ | 17, _ | 18, _ | 19, _ | 20, _ | 21, _ | 22, _ | 23, _ | 24, _ | 25, _ | 26, _ | 27, _ | 28, _ | 29, _ | 30, _ | 31, _ | 32, _ | 33, _ | 34, _ => rfl | n + 35, h => exact absurd h (by omega)), fun i hi => (by match i, hi with | 0, _ | 1, _ | 2, _ | 3, _ | 4, _ | 5, _ | 6, _ | 7, _ | 8, _ | 9, _ | 10, _ | 11, _ | 12, _ | 13, _ => rfl | n + 14, h => exact absurd h (by omega)), _, _, RS⟩
              refine AllReady.cons rfl (fun K hK => ?_) AllReady.nil
              have hc := (rd_cells RI.heap).2.2.1
              go_simp
              refine hK _ _ ?_
              clear hK K hc
              refine wpAny_ready (rs := [4]) (by kernel_rfl) (by simp) ?_
              refine AllReady.cons rfl (fun K hK => ?_) AllReady.nil
              obtain ⟨o4, l4, c4, X16, hr4, RI, hic4⟩ := RI.app _ _ IE 25 (by rw [erG_length]; omega)
              have IC := hic4 _ _ IC
              rw [if_pos (by rfl)]
              refine Lib.wp_append_run _ (.tmp 58) (.tmp 60) _ _ rfl _ _ rfl rfl _ _ hr4 (hK _ _ ?_)
              clear hK K hr4 hic4
              refine wpAny_take (i := 10) (v := ?va15) rfl (by kernel_rfl) (by kernel_rfl) (by kernel_rfl) (fun _ _ _ h => (by cases h.1)) (Or.inl ⟨by rfl, ?ha15⟩) ?ra15
              case ha15 => (intro w; (go_simp <;> with_reducible rfl))
              refine wpAny_ready (rs := [9]) (by kernel_rfl) (by simp) ?_
              refine AllReady.cons rfl (fun K hK => ?_) AllReady.nil
              obtain ⟨o9, l9, c9, X17, hr9, RI, hic9⟩ := RI.swap.app _ _ IC.swap 25 (by rw [chG_length]; omega)
              have RI := RI.swap
              rw [if_pos (by rfl)]
              refine Lib.wp_append_run _ (.tmp 63) (.tmp 65) _ _ rfl _ _ rfl rfl _ _ hr9 (hK _ _ ?_)
              clear hK K hr9 hic9
              refine wpAny_ready (rs := [11]) (by kernel_rfl) (by simp) ?_
              refine AllReady.cons rfl (fun K hK => ?_) AllReady.nil
              have hc := (rd_cells RI.heap).2.1
              have hf := (rd_cells RI.heap).2.2.2.2.1
              have RS := RI.store hSS
              have hh := rd_put1 RI.heap (.slice o4 l4 c4)
              have hc2 := (rd_cells hh).2.2.1
              have hf2 := (rd_cells hh).2.2.2.2.2
              go_simp
              refine hK _ _ ?_
              clear hK K hc hf
              refine wpAny_take (i := 12) (v := ?va16) rfl (by kernel_rfl) (by kernel_rfl) (by kernel_rfl) (fun _ _ _ h => (by cases h.1)) (Or.inl ⟨by rfl, ?ha16⟩) ?ra16
              case ha16 => (intro w; (go_simp <;> with_reducible rfl))
              refine wpAny_ready (rs := [13]) (by kernel_rfl) (by simp) ?_
              refine AllReady.cons rfl (fun K hK => ?_) AllReady.nil
              go_simp
              refine hK _ _ ?_
              clear hK K hc2 hf2
              refine wpAny_done (by kernel_rfl) ?_ _
              exact ⟨rfl, rfl, rfl, fun i hi => (by match i, hi with | 0, _ | 1, _ | 2, _ | 3, _ | 4, _ | 5, _ | 6, _ | 7, _ | 8, _ | 9, _ | 10, _ | 11, _ | 12, _ | 13, _ | 14, _ | 15, _ | 16, _ | 17, _ | 18, _ | 19, _ | 20, _ | 21, _ | 22, _ | 23, _ | 24, _ | 25, _ | 26, _ | 27, _ | 28, _ | 29, _ | 30, _ | 31, _ | 32, _ | 33, _ | 34, _ => rfl | n + 35, h => exact absurd h (by omega)), fun i hi => (by match i, hi with | 0, _ | 1, _ | 2, _ | 3, _ | 4, _ | 5, _ | 6, _ | 7, _ | 8, _ | 9, _ | 10, _ | 11, _ | 12, _ | 13, _ => rfl | n + 14, h => exact absurd h (by omega)), _, _, RS⟩
            refine AllReady.cons rfl (fun K hK => ?_) ?_
            · have hc := (rd_cells RI.heap).2.2.1
              go_simp
              refine hK _ _ ?_
              clear hK K hc
              refine wpAny_ready (rs := [3, 8]) (by kernel_rfl) (by simp) ?_
              refine AllReady.cons rfl (fun K hK => ?_) ?_
              · have IE := RI.new ((gnL (grpG bs l k) m).length : Int)
                have RI := RI.later (below_new X0 (Obj.cells #[Value.int IntKind.i64 ((gnL (grpG bs l k) m).length : Int)] 3))
                go_simp
                refine hK _ _ ?_
                clear hK K
                generalize World.alloc X0 (Obj.cells #[Value.int IntKind.i64 ((gnL (grpG bs l k) m).length : Int)] 3) = X18 at RI IE ⊢
                refine wpAny_ready (rs := [4, 8]) (by kernel_rfl) (by simp) ?_
                refine AllReady.cons rfl (fun K hK => ?_) ?_
                · obtain ⟨o4, l4, c4, X19, hr4, RI, hic4⟩ := RI.app _ _ IE 25 (by rw [erG_length]; omega)
                  rw [if_pos (by rfl)]
                  refine Lib.wp_append_run _ (.tmp 58) (.tmp 60) _ _ rfl _ _ rfl rfl _ _ hr4 (hK _ _ ?_)
                  clear hK K hr4 hic4
                  refine wpAny_take (i := 10) (v := ?va17) rfl (by kernel_rfl) (by kernel_rfl) (by kernel_rfl) (fun _ _ _ h => (by cases h.1)) (Or.inl ⟨by rfl, ?ha17⟩) ?ra17
                  case ha17 => (intro w; (go_simp <;> with_reducible rfl))
                  refine wpAny_ready (rs := [8]) (by kernel_rfl) (by simp) ?_
                  refine AllReady.cons rfl (fun K hK => ?_) AllReady.nil
                  have IC := RI.new (chN (grpG bs l k) vs m : Int)
                  have RI := RI.later (below_new X19 (Obj.cells #[Value.int IntKind.i64 (chN (grpG bs l k) vs m : Int)] 3))
                  go_simp
                  refine hK _ _ ?_
                  clear hK K
                  generalize World.alloc X19 (Obj.cells #[Value.int IntKind.i64 (chN (grpG bs l k) vs m : Int)] 3) = X20 at RI IC ⊢
                  refine wpAny_ready (rs := [9]) (by kernel_rfl) (by simp) ?_
                  refine AllReady.cons rfl (fun K hK => ?_) AllReady.nil
                  obtain ⟨o9, l9, c9, X21, hr9, RI, hic9⟩ := RI.swap.app _ _ IC.swap 25 (by rw [chG_length]; omega)
                  have RI := RI.swap
                  rw [if_pos (by rfl)]
                  refine Lib.wp_append_run _ (.tmp 63) (.tmp 65) _ _ rfl _ _ rfl rfl _ _ hr9 (hK _ _ ?_)
                  clear hK K hr9 hic9
                  refine wpAny_ready (rs := [11]) (by kernel_rfl) (by simp) ?_
                  refine AllReady.cons rfl (fun K hK => ?_) AllReady.nil
                  have hc := (rd_cells RI.heap).2.1
                  have hf := (rd_cells RI.heap).2.2.2.2.1
                  have RS := RI.store hSS
                  have hh := rd_put1 RI.heap (.slice o4 l4 c4)
                  have hc2 := (rd_cells hh).2.2.1
                  have hf2 := (rd_cells hh).2.2.2.2.2
                  go_simp
                  refine hK _ _ ?_
                  clear hK K hc hf
                  refine wpAny_take (i := 12) (v := ?va18) rfl (by kernel_rfl) (by kernel_rfl) (by kernel_rfl) (fun _ _ _ h => (by cases h.1)) (Or.inl ⟨by rfl, ?ha18⟩) ?ra18
                  case ha18 => (intro w; (go_simp <;> with_reducible rfl))
                  refine wpAny_ready (rs := [13]) (by kernel_rfl) (by simp) ?_
                  refine AllReady.cons rfl (fun K hK => ?_) AllReady.nil
                  go_simp
                  refine hK _ _ ?_
                  clear hK K hc2 hf2
                  refine wpAny_done (by kernel_rfl) ?_ _
                  exact ⟨rfl, rfl, rfl, fun i hi => (by match i, hi with | 0, _ | 1, _ | 2, _ | 3, _ | 4, _ | 5, _ | 6, _ | 7, _ | 8, _ | 9, _ | 10, _ | 11, _ | 12, _ | 13, _ | 14, _ | 15, _ | 16, _ | 17, _ | 18, _ | 19, _ | 20, _ | 21, _ | 22, _ | 23, _ | 24, _ | 25, _ | 26, _ | 27, _ | 28, _ | 29, _ | 30, _ | 31, _ | 32, _ | 33, _ | 34, _ => rfl | n + 35, h => exact absurd h (by omega)), fun i hi => (by match i, hi with | 0, _ | 1, _ | 2, _ | 3, _ | 4, _ | 5, _ | 6, _ | 7, _ | 8, _ | 9, _ | 10, _ | 11, _ | 12, _ | 13, _ => rfl | n + 14, h => exact absurd h (by omega)), _, _, RS⟩
                refine AllReady.cons rfl (fun K hK => ?_) AllReady.nil
                have IC := RI.new (chN (grpG bs l k) vs m : Int)
                have RI := RI.later (below_new X18 (Obj.cells #[Value.int IntKind.i64 (chN (grpG bs l k) vs m : Int)] 3))
                have IE := IE.later (below_new X18 (Obj.cells #[Value.int IntKind.i64 (chN (grpG bs l k) vs m : Int)] 3))
                go_simp
                refine hK _ _ ?_
                clear hK K
                generalize World.alloc X18 (Obj.cells #[Value.int IntKind.i64 (chN (grpG bs l k) vs m : Int)] 3) = X22 at RI IC IE ⊢
                refine wpAny_ready (rs := [4]) (by kernel_rfl) (by simp) ?_
                refine AllReady.cons rfl (fun K hK => ?_) AllReady.nil
                obtain ⟨o4, l4, c4, X23, hr4, RI, hic4⟩ := RI.app _ _ IE 25 (by rw [erG_length]; omega)
                have IC := hic4 _ _ IC
                rw [if_pos (by rfl)]
                refine Lib.wp_append_run _ (.tmp 58) (.tmp 60) _ _ rfl _ _ rfl rfl _ _ hr4 (hK _ _ ?_)
                clear hK K hr4 hic4
                refine wpAny_take (i := 10) (v := ?va19) rfl (by kernel_rfl) (by kernel_rfl) (by kernel_rfl) (fun _ _ _ h => (by cases h.1)) (Or.inl ⟨by rfl, ?ha19⟩) ?ra19
                case ha19 => (intro w; (go_simp <;> with_reducible rfl))
                refine wpAny_ready (rs := [9]) (by kernel_rfl) (by simp) ?_
                refine AllReady.cons rfl (fun K hK => ?_) AllReady.nil
                obtain ⟨o9, l9, c9, X24, hr9, RI, hic9⟩ := RI.swap.app _ _ IC.swap 25 (by rw [chG_length]; omega)
                have RI := RI.swap
                rw [if_pos (by rfl)]
                refine Lib.wp_append_run _ (.tmp 63) (.tmp 65) _ _ rfl _ _ rfl rfl _ _ hr9 (hK _ _ ?_)
                clear hK K hr9 hic9
                refine wpAny_ready (rs := [11]) (by kernel_rfl) (by simp) ?_
                refine AllReady.cons rfl (fun K hK => ?_) AllReady.nil
                have hc := (rd_cells RI.heap).2.1
                have hf := (rd_cells RI.heap).2.2.2.2.1
                have RS := RI.store hSS
                have hh := rd_put1 RI.heap (.slice o4 l4 c4)
                have hc2 := (rd_cells hh).2.2.1
                have hf2 := (rd_cells hh).2.2.2.2.2
                go_simp
                refine hK _ _ ?_
                clear hK K hc hf
                refine wpAny_take (i := 12) (v := ?va20) rfl (by kernel_rfl) (by kernel_rfl) (by kernel_rfl) (fun _ _ _ h => (by cases h.1)) (Or.inl ⟨by rfl, ?ha20⟩) ?ra20
                case ha20 => (intro w; (go_simp <;> with_reducible rfl))
                refine wpAny_ready (rs := [13]) (by kernel_rfl) (by simp) ?_
                refine AllReady.cons rfl (fun K hK => ?_) AllReady.nil
                go_simp
                refine hK _ _ ?_
                clear hK K hc2 hf2
                refine wpAny_done (by kernel_rfl) ?_ _
                exact ⟨rfl, rfl, rfl, fun i hi => (by match i, hi with | 0, _ | 1, _ | 2, _ | 3, _ | 4, _ | 5, _ | 6, _ | 7, _ | 8, _ | 9, _ | 10, _ | 11, _ | 12, _ | 13, _ | 14, _ | 15, _ | 16, _ | 17, _ | 18, _ | 19, _ | 20, _ | 21, _ | 22, _ | 23, _ | 24, _ | 25, _ | 26, _ | 27, _ | 28, _ | 29, _ | 30, _ | 31, _ | 32, _ | 33, _ | 34, _ => rfl | n + 35, h => exact absurd h (by omega)), fun i hi => (by match i, hi with | 0, _ | 1, _ | 2, _ | 3, _ | 4, _ | 5, _ | 6, _ | 7, _ | 8, _ | 9, _ | 10, _ | 11, _ | 12, _ | 13, _ => rfl | n + 14, h => exact absurd h (by omega)), _, _, RS⟩
              refine AllReady.cons rfl (fun K hK => ?_) AllReady.nil
              have IC := RI.new (chN (grpG bs l k) vs m : Int)
              have RI := RI.later (below_new X0 (Obj.cells #[Value.int IntKind.i64 (chN (grpG bs l k) vs m : Int)] 3))
              go_simp
              refine hK _ _ ?_
              clear hK K
              generalize World.alloc X0 (Obj.cells #[Value.int IntKind.i64 (chN (grpG bs l k) vs m : Int)] 3) = X25 at RI IC ⊢
              refine wpAny_ready (rs := [3]) (by kernel_rfl) (by simp) ?_
              refine AllReady.cons rfl (fun K hK => ?_) AllReady.nil
              have IE := RI.new ((gnL (grpG bs l k) m).length : Int)
              have RI := RI.later (below_new X25 (Obj.cells #[Value.int IntKind.i64 ((gnL (grpG bs l k) m).length : Int)] 3))
              have IC := IC.later (below_new X25 (Obj.cells #[Value.int IntKind.i64 ((gnL (grpG bs l k) m).length : Int)] 3))
              go_simp
              refine hK _ _ ?_
              clear hK K
              generalize World.alloc X25 (Obj.cells #[Value.int IntKind.i64 ((gnL (grpG bs l k) m).length : Int)] 3) = X26 at RI IE IC ⊢
              refine wpAny_ready (rs := [4]) (by kernel_rfl) (by simp) ?_
              refine AllReady.cons rfl (fun K hK => ?_) AllReady.nil
              obtain ⟨o4, l4, c4, X27, hr4, RI, hic4⟩ := RI.app _ _ IE 25 (by rw [erG_length]; omega)
              have IC := hic4 _ _ IC
              rw [if_pos (by rfl)]
              refine Lib.wp_append_run _ (.tmp 58) (.tmp 60) _ _ rfl _ _ rfl rfl _ _ hr4 (hK _ _ ?_)
              clear hK K hr4 hic4
              refine wpAny_take (i := 10) (v := ?va21) rfl (by kernel_rfl) (by kernel_rfl) (by kernel_rfl) (fun _ _ _ h => (by cases h.1)) (Or.inl ⟨by rfl, ?ha21⟩) ?ra21
              case ha21 => (intro w; (go_simp <;> with_reducible rfl))
              refine wpAny_ready (rs := [9]) (by kernel_rfl) (by simp) ?_
              refine AllReady.cons rfl (fun K hK => ?_) AllReady.nil
              obtain ⟨o9, l9, c9, X28, hr9, RI, hic9⟩ := RI.swap.app _ _ IC.swap 25 (by rw [chG_length]; omega)
              have RI := RI.swap
              rw [if_pos (by rfl)]
              refine Lib.wp_append_run _ (.tmp 63) (.tmp 65) _ _ rfl _ _ rfl rfl _ _ hr9 (hK _ _ ?_)
              clear hK K hr9 hic9
              refine wpAny_ready (rs := [11]) (by kernel_rfl) (by simp) ?_
              refine AllReady.cons rfl (fun K hK => ?_) AllReady.nil
              have hc := (rd_cells RI.heap).2.1
              have hf := (rd_cells RI.heap).2.2.2.2.1
              have RS := RI.store hSS
              have hh := rd_put1 RI.heap (.slice o4 l4 c4)
              have hc2 := (rd_cells hh).2.2.1
              have hf2 := (rd_cells hh).2.2.2.2.2
              go_simp
              refine hK _ _ ?_
              clear hK K hc hf
              refine wpAny_take (i := 12) (v := ?va22) rfl (by kernel_rfl) (by kernel_rfl) (by kernel_rfl) (fun _ _ _ h => (by cases h.1)) (Or.inl ⟨by rfl, ?ha22⟩) ?ra22
              case ha22 => (intro w; (go_simp <;> with_reducible rfl))
              refine wpAny_ready (rs := [13]) (by kernel_rfl) (by simp) ?_
              refine AllReady.cons rfl (fun K hK => ?_) AllReady.nil
              go_simp
              refine hK _ _ ?_
              clear hK K hc2 hf2
              refine wpAny_done (by kernel_rfl) ?_ _
              exact ⟨rfl, rfl, rfl, fun i hi => (by match i, hi with | 0, _ | 1, _ | 2, _ | 3, _ | 4, _ | 5, _ | 6, _ | 7, _ | 8, _ | 9, _ | 10, _ | 11, _ | 12, _ | 13, _ | 14, _ | 15, _ | 16, _ | 17, _ | 18, _ | 19, _ | 20, _ | 21, _ | 22, _ | 23, _ | 24, _ | 25, _ | 26, _ | 27, _ | 28, _ | 29, _ | 30, _ | 31, _ | 32, _ | 33, _ | 34, _ => rfl | n + 35, h => exact absurd h (by omega)), fun i hi => (by match i, hi with | 0, _ | 1, _ | 2, _ | 3, _ | 4, _ | 5, _ | 6, _ | 7, _ | 8, _ | 9, _ | 10, _ | 11, _ | 12, _ | 13, _ => rfl | n + 14, h => exact absurd h (by omega)), _, _, RS⟩
            refine AllReady.cons rfl (fun K hK => ?_) AllReady.nil
            have IC := RI.new (chN (grpG bs l k) vs m : Int)
            have RI := RI.later (below_new X0 (Obj.cells #[Value.int IntKind.i64 (chN (grpG bs l k) vs m : Int)] 3))
            go_simp
            refine hK _ _ ?_
            clear hK K
            generalize World.alloc X0 (Obj.cells #[Value.int IntKind.i64 (chN (grpG bs l k) vs m : Int)] 3) = X29 at RI IC ⊢
            refine wpAny_ready (rs := [3, 6]) (by kernel_rfl) (by simp) ?_
            refine AllReady.cons rfl (fun K hK => ?_) ?_
            · have IE := RI.new ((gnL (grpG bs l k) m).length : Int)
              have RI := RI.later (below_new X29 (Obj.cells #[Value.int IntKind.i64 ((gnL (grpG bs l k) m).length : Int)] 3))
              have IC := IC.later (below_new X29 (Obj.cells #[Value.int IntKind.i64 ((gnL (grpG bs l k) m).length : Int)] 3))
              go_simp
              refine hK _ _ ?_
              clear hK K
              generalize World.alloc X29 (Obj.cells #[Value.int IntKind.i64 ((gnL (grpG bs l k) m).length : Int)] 3) = X30 at RI IE IC ⊢
              refine wpAny_ready (rs := [4, 6]) (by kernel_rfl) (by simp) ?_
              refine AllReady.cons rfl (fun K hK => ?_) ?_
              · obtain ⟨o4, l4, c4, X31, hr4, RI, hic4⟩ := RI.app _ _ IE 25 (by rw [erG_length]; omega)
                have IC := hic4 _ _ IC
                rw [if_pos (by rfl)]
                refine Lib.wp_append_run _ (.tmp 58) (.tmp 60) _ _ rfl _ _ rfl rfl _ _ hr4 (hK _ _ ?_)
                clear hK K hr4 hic4
                refine wpAny_ready (rs := [6]) (by kernel_rfl) (by simp) ?_
                refine AllReady.cons rfl (fun K hK => ?_) AllReady.nil
                have hc := (rd_cells RI.heap).2.2.1
                go_simp
                refine hK _ _ ?_
                clear hK K hc
                refine wpAny_take (i := 10) (v := ?va23) rfl (by kernel_rfl) (by kernel_rfl) (by kernel_rfl) (fun _ _ _ h => (by cases h.1)) (Or.inl ⟨by rfl, ?ha23⟩) ?ra23
                case ha23 => (intro w; (go_simp <;> with_reducible rfl))
                refine wpAny_ready (rs := [9]) (by kernel_rfl) (by simp) ?_
                refine AllReady.cons rfl (fun K hK => ?_) AllReady.nil
                obtain ⟨o9, l9, c9, X32, hr9, RI, hic9⟩ := RI.swap.app _ _ IC.swap 25 (by rw [chG_length]; omega)
                have RI := RI.swap
                rw [if_pos (by rfl)]
                refine Lib.wp_append_run _ (.tmp 63) (.tmp 65) _ _ rfl _ _ rfl rfl _ _ hr9 (hK _ _ ?_)
                clear hK K hr9 hic9
                refine wpAny_ready (rs := [11]) (by kernel_rfl) (by simp) ?_
                refine AllReady.cons rfl (fun K hK => ?_) AllReady.nil
                have hc := (rd_cells RI.heap).2.1
                have hf := (rd_cells RI.heap).2.2.2.2.1
                have RS := RI.store hSS
                have hh := rd_put1 RI.heap (.slice o4 l4 c4)
                have hc2 := (rd_cells hh).2.2.1
                have hf2 := (rd_cells hh).2.2.2.2.2
                go_simp
                refine hK _ _ ?_
                clear hK K hc hf
                refine wpAny_take (i := 12) (v := ?va24) rfl (by kernel_rfl) (by kernel_rfl) (by kernel_rfl) (fun _ _ _ h => (by cases h.1)) (Or.inl ⟨by rfl, ?ha24⟩) ?ra24
                case ha24 => (intro w; (go_simp <;> with_reducible rfl))
                refine wpAny_ready (rs := [13]) (by kernel_rfl) (by simp) ?_
                refine AllReady.cons rfl (fun K hK => ?_) AllReady.nil
                go_simp
                refine hK _ _ ?_
                clear hK K hc2 hf2
                refine wpAny_done (by kernel_rfl) ?_ _
                exact ⟨rfl, rfl, rfl, fun i hi => (by match i, hi with | 0, _ | 1, _ | 2, _ | 3, _ | 4, _ | 5, _ | 6, _ | 7, _ | 8, _ | 9, _ | 10, _ | 11, _ | 12, _ | 13, _ | 14, _ | 15, _ | 16, _ | 17, _ | 18, _ | 19, _ | 20, _ | 21, _ | 22, _ | 23, _ | 24, _ | 25, _ | 26, _ | 27, _ | 28, _ | 29, _ | 30, _ | 31, _ | 32, _ | 33, _ | 34, _ => rfl | n + 35, h => exact absurd h (by omega)), fun i hi => (by match i, hi with | 0, _ | 1, _ | 2, _ | 3, _ | 4, _ | 5, _ | 6, _ | 7, _ | 8, _ | 9, _ | 10, _ | 11, _ | 12, _ | 13, _ => rfl | n + 14, h => exact absurd h (by omega)), _, _, RS⟩
              refine AllReady.cons rfl (fun K hK => ?_) AllReady.nil
              have hc := (rd_cells RI.heap).2.2.1
              go_simp
              refine hK _ _ ?_
              clear hK K hc
              refine wpAny_ready (rs := [4]) (by kernel_rfl) (by simp) ?_
              refine AllReady.cons rfl (fun K hK => ?_) AllReady.nil
              obtain ⟨o4, l4, c4, X33, hr4, RI, hic4⟩ := RI.app _ _ IE 25 (by rw [erG_length]; omega)
              have IC := hic4 _ _ IC
              rw [if_pos (by rfl)]
              refine Lib.wp_append_run _ (.tmp 58) (.tmp 60) _ _ rfl _ _ rfl rfl _ _ hr4 (hK _ _ ?_)
              clear hK K hr4 hic4
              refine wpAny_take (i := 10) (v := ?va25) rfl (by kernel_rfl) (by kernel_rfl) (by kernel_rfl) (fun _ _ _ h => (by cases h.1)) (Or.inl ⟨by rfl, ?ha25⟩) ?ra25
              case ha25 => (intro w; (go_simp <;> with_reducible rfl))
              refine wpAny_ready (rs := [9]) (by kernel_rfl) (by simp) ?_
              refine AllReady.cons rfl (fun K hK => ?_) AllReady.nil
              obtain ⟨o9, l9, c9, X34, hr9, RI, hic9⟩ := RI.swap.app _ _ IC.swap 25 (by rw [chG_length]; omega)
              have RI := RI.swap
              rw [if_pos (by rfl)]
              refine Lib.wp_append_run _ (.tmp 63) (.tmp 65) _ _ rfl _ _ rfl rfl _ _ hr9 (hK _ _ ?_)
              clear hK K hr9 hic9
              refine wpAny_ready (rs := [11]) (by kernel_rfl) (by simp) ?_
              refine AllReady.cons rfl (fun K hK => ?_) AllReady.nil
              have hc := (rd_cells RI.heap).2.1
              have hf := (rd_cells RI.heap).2.2.2.2.1
              have RS := RI.store hSS
              have hh := rd_put1 RI.heap (.slice o4 l4 c4)
              have hc2 := (rd_cells hh).2.2.1
              have hf2 := (rd_cells hh).2.2.2.2.2
              go_simp
              refine hK _ _ ?_
              clear hK K hc hf
              refine wpAny_take (i := 12) (v := ?va26) rfl (by kernel_rfl) (by kernel_rfl) (by kernel_rfl) (fun _ _ _ h => (by cases h.1)) (Or.inl ⟨by rfl, ?ha26⟩) ?ra26
              case ha26 => (intro w; (go_simp <;> with_reducible rfl))
              refine wpAny_ready (rs := [13]) (by kernel_rfl) (by simp) ?_
              refine AllReady.cons rfl (fun K hK => ?_) AllReady.nil
              go_simp
              refine hK _ _ ?_
              clear hK K hc2 hf2
              refine wpAny_done (by kernel_rfl) ?_ _
              exact ⟨rfl, rfl, rfl, fun i hi => (by match i, hi with | 0, _ | 1, _ | 2, _ | 3, _ | 4, _ | 5, _ | 6, _ | 7, _ | 8, _ | 9, _ | 10, _ | 11, _ | 12, _ | 13, _ | 14, _ | 15, _ | 16, _ | 17, _ | 18, _ | 19, _ | 20, _ | 21, _ | 22, _ | 23, _ | 24, _ | 25, _ | 26, _ | 27, _ | 28, _ | 29, _ | 30, _ | 31, _ | 32, _ | 33, _ | 34, _ => rfl | n + 35, h => exact absurd h (by omega)), fun i hi => (by match i, hi with | 0, _ | 1, _ | 2, _ | 3, _ | 4, _ | 5, _ | 6, _ | 7, _ | 8, _ | 9, _ | 10, _ | 11, _ | 12, _ | 13, _ => rfl | n + 14, h => exact absurd h (by omega)), _, _, RS⟩
            refine AllReady.cons rfl (fun K hK => ?_) AllReady.nil
            have hc := (rd_cells RI.heap).2.2.1
            go_simp
            refine hK _ _ ?_
            clear hK K hc
            refine wpAny_ready (rs := [3]) (by kernel_rfl) (by simp) ?_
            refine AllReady.cons rfl (fun K hK => ?_) AllReady.nil
            have IE := RI.new ((gnL (grpG bs l k) m).length : Int)
            have RI := RI.later (below_new X29 (Obj.cells #[Value.int IntKind.i64 ((gnL (grpG bs l k) m).length : Int)] 3))
            have IC := IC.later (below_new X29 (Obj.cells #[Value.int IntKind.i64 ((gnL (grpG bs l k) m).length : Int)] 3))
            go_simp
            refine hK _ _ ?_
            clear hK K
            generalize World.alloc X29 (Obj.cells #[Value.int IntKind.i64 ((gnL (grpG bs l k) m).length : Int)] 3) = X35 at RI IE IC ⊢
            refine wpAny_ready (rs := [4]) (by kernel_rfl) (by simp) ?_
            refine AllReady.cons rfl (fun K hK => ?_) AllReady.nil
            obtain ⟨o4, l4, c4, X36, hr4, RI, hic4⟩ := RI.app _ _ IE 25 (by rw [erG_length]; omega)
            have IC := hic4 _ _ IC
            rw [if_pos (by rfl)]
            refine Lib.wp_append_run _ (.tmp 58) (.tmp 60) _ _ rfl _ _ rfl rfl _ _ hr4 (hK _ _ ?_)
            clear hK K hr4 hic4
            refine wpAny_take (i := 10) (v := ?va27) rfl (by kernel_rfl) (by kernel_rfl) (by kernel_rfl) (fun _ _ _ h => (by cases h.1)) (Or.inl ⟨by rfl, ?ha27⟩) ?ra27
            case ha27 => (intro w; (go_simp <;> with_reducible rfl))
            refine wpAny_ready (rs := [9]) (by kernel_rfl) (by simp) ?_
            refine AllReady.cons rfl (fun K hK => ?_) AllReady.nil
            obtain ⟨o9, l9, c9, X37, hr9, RI, hic9⟩ := RI.swap.app _ _ IC.swap 25 (by rw [chG_length]; omega)
            have RI := RI.swap
            rw [if_pos (by rfl)]
            refine Lib.wp_append_run _ (.tmp 63) (.tmp 65) _ _ rfl _ _ rfl rfl _ _ hr9 (hK _ _ ?_)
            clear hK K hr9 hic9
            refine wpAny_ready (rs := [11]) (by kernel_rfl) (by simp) ?_
            refine AllReady.cons rfl (fun K hK => ?_) AllReady.nil
            have hc := (rd_cells RI.heap).2.1
            have hf := (rd_cells RI.heap).2.2.2.2.1
            have RS := RI.store hSS
            have hh := rd_put1 RI.heap (.slice o4 l4 c4)
            have hc2 := (rd_cells hh).2.2.1
            have hf2 := (rd_cells hh).2.2.2.2.2
            go_simp
            refine hK _ _ ?_
            clear hK K hc hf
            refine wpAny_take (i := 12) (v := ?va28) rfl (by kernel_rfl) (by kernel_rfl) (by kernel_rfl) (fun _ _ _ h => (by cases h.1)) (Or.inl ⟨by rfl, ?ha28⟩) ?ra28
            case ha28 => (intro w; (go_simp <;> with_reducible rfl))
            refine wpAny_ready (rs := [13]) (by kernel_rfl) (by simp) ?_
            refine AllReady.cons rfl (fun K hK => ?_) AllReady.nil
            go_simp
            refine hK _ _ ?_
            clear hK K hc2 hf2
            refine wpAny_done (by kernel_rfl) ?_ _
            exact ⟨rfl, rfl, rfl, fun i hi => (by match i, hi with | 0, _ | 1, _ | 2, _ | 3, _ | 4, _ | 5, _ | 6, _ | 7, _ | 8, _ | 9, _ | 10, _ | 11, _ | 12, _ | 13, _ | 14, _ | 15, _ | 16, _ | 17, _ | 18, _ | 19, _ | 20, _ | 21, _ | 22, _ | 23, _ | 24, _ | 25, _ | 26, _ | 27, _ | 28, _ | 29, _ | 30, _ | 31, _ | 32, _ | 33, _ | 34, _ => rfl | n + 35, h => exact absurd h (by omega)), fun i hi => (by match i, hi with | 0, _ | 1, _ | 2, _ | 3, _ | 4, _ | 5, _ | 6, _ | 7, _ | 8, _ | 9, _ | 10, _ | 11, _ | 12, _ | 13, _ => rfl | n + 14, h => exact absurd h (by omega)), _, _, RS⟩
          refine AllReady.cons rfl (fun K hK => ?_) ?_
          · have IE := RI.new ((gnL (grpG bs l k) m).length : Int)
            have RI := RI.later (below_new X0 (Obj.cells #[Value.int IntKind.i64 ((gnL (grpG bs l k) m).length : Int)] 3))
            go_simp
            refine hK _ _ ?_
            clear hK K
            generalize World.alloc X0 (Obj.cells #[Value.int IntKind.i64 ((gnL (grpG bs l k) m).length : Int)] 3) = X38 at RI IE ⊢
            refine wpAny_ready (rs := [1, 6, 8]) (by kernel_rfl) (by simp) ?_
            refine AllReady.cons rfl (fun K hK => ?_) ?_
            · have hc := (rd_cells RI.heap).2.1
              go_simp
              refine hK _ _ ?_
              clear hK K hc
              refine wpAny_ready (rs := [4, 6, 8]) (by kernel_rfl) (by simp) ?_
              refine AllReady.cons rfl (fun K hK => ?_) ?_
              · obtain ⟨o4, l4, c4, X39, hr4, RI, hic4⟩ := RI.app _ _ IE 25 (by rw [erG_length]; omega)
                rw [if_pos (by rfl)]
                refine Lib.wp_append_run _ (.tmp 58) (.tmp 60) _ _ rfl _ _ rfl rfl _ _ hr4 (hK _ _ ?_)
                clear hK K hr4 hic4
                refine wpAny_ready (rs := [6, 8]) (by kernel_rfl) (by simp) ?_
                refine AllReady.cons rfl (fun K hK => ?_) ?_
                · have hc := (rd_cells RI.heap).2.2.1
                  go_simp
                  refine hK _ _ ?_
                  clear hK K hc
                  refine wpAny_take (i := 10) (v := ?va29) rfl (by kernel_rfl) (by kernel_rfl) (by kernel_rfl) (fun _ _ _ h => (by cases h.1)) (Or.inl ⟨by rfl, ?ha29⟩) ?ra29
                  case ha29 => (intro w; (go_simp <;> with_reducible rfl))
                  refine wpAny_ready (rs := [8]) (by kernel_rfl) (by simp) ?_
                  refine AllReady.cons rfl (fun K hK => ?_) AllReady.nil
                  have IC := RI.new (chN (grpG bs l k) vs m : Int)
                  have RI := RI.later (below_new X39 (Obj.cells #[Value.int IntKind.i64 (chN (grpG bs l k) vs m : Int)] 3))
                  go_simp
                  refine hK _ _ ?_
                  clear hK K
                  generalize World.alloc X39 (Obj.cells #[Value.int IntKind.i64 (chN (grpG bs l k) vs m : Int)] 3) = X40 at RI IC ⊢
                  refine wpAny_ready (rs := [9]) (by kernel_rfl) (by simp) ?_
                  refine AllReady.cons rfl (fun K hK => ?_) AllReady.nil
                  obtain ⟨o9, l9, c9, X41, hr9, RI, hic9⟩ := RI.swap.app _ _ IC.swap 25 (by rw [chG_length]; omega)
                  have RI := RI.swap
                  rw [if_pos (by rfl)]
                  refine Lib.wp_append_run _ (.tmp 63) (.tmp 65) _ _ rfl _ _ rfl rfl _ _ hr9 (hK _ _ ?_)
                  clear hK K hr9 hic9
                  refine wpAny_ready (rs := [11]) (by kernel_rfl) (by simp) ?_
                  refine AllReady.cons rfl (fun K hK => ?_) AllReady.nil
                  have hc := (rd_cells RI.heap).2.1
                  have hf := (rd_cells RI.heap).2.2.2.2.1
                  have RS := RI.store hSS
                  have hh := rd_put1 RI.heap (.slice o4 l4 c4)
                  have hc2 := (rd_cells hh).2.2.1
                  have hf2 := (rd_cells hh).2.2.2.2.2
                  go_simp
                  refine hK _ _ ?_
                  clear hK K hc hf
                  refine wpAny_take (i := 12) (v := ?va30) rfl (by kernel_rfl) (by kernel_rfl) (by kernel_rfl) (fun _ _ _ h => (by cases h.1)) (Or.inl ⟨by rfl, ?ha30⟩) ?ra30
                  case ha30 => (intro w; (go_simp <;> with_reducible rfl))
                  refine wpAny_ready (rs := [13]) (by kernel_rfl) (by simp) ?_
                  refine AllReady.cons rfl (fun K hK => ?_) AllReady.nil
                  go_simp
                  refine hK _ _ ?_
                  clear hK K hc2 hf2
                  refine wpAny_done (by kernel_rfl) ?_ _
                  exact ⟨rfl, rfl, rfl, fun i hi => (by match i, hi with | 0, _ | 1, _ | 2, _ | 3, _ | 4, _ | 5, _ | 6, _ | 7, _ | 8, _ | 9, _ | 10, _ | 11, _ | 12, _ | 13, _ | 14, _ | 15, _ | 16, _ | 17, _ | 18, _ | 19, _ | 20, _ | 21, _ | 22, _ | 23, _ | 24, _ | 25, _ | 26, _ | 27, _ | 28, _ | 29, _ | 30, _ | 31, _ | 32, _ | 33, _ | 34, _ => rfl | n + 35, h => exact absurd h (by omega)), fun i hi => (by match i, hi with | 0, _ | 1, _ | 2, _ | 3, _ | 4, _ | 5, _ | 6, _ | 7, _ | 8, _ | 9, _ | 10, _ | 11, _ | 12, _ | 13, _ => rfl | n + 14, h => exact absurd h (by omega)), _, _, RS⟩
                refine AllReady.cons rfl (fun K hK => ?_) AllReady.nil
                have IC := RI.new (chN (grpG bs l k) vs m : Int)
                have RI := RI.later (below_new X39 (Obj.cells #[Value.int IntKind.i64 (chN (grpG bs l k) vs m : Int)] 3))
                go_simp
                refine hK _ _ ?_
                clear hK K
                generalize World.alloc X39 (Obj.cells #[Value.int IntKind.i64 (chN (grpG bs l k) vs m : Int)] 3) = X42 at RI IC ⊢
                refine wpAny_ready (rs := [6]) (by kernel_rfl) (by simp) ?_
                refine AllReady.cons rfl (fun K hK => ?_) AllReady.nil
                have hc := (rd_cells RI.heap).2.2.1
                go_simp
                refine hK _ _ ?_
                clear hK K hc
                refine wpAny_take (i := 10) (v := ?va31) rfl (by kernel_rfl) (by kernel_rfl) (by kernel_rfl) (fun _ _ _ h => (by cases h.1)) (Or.inl ⟨by rfl, ?ha31⟩) ?ra31
                case ha31 => (intro w; (go_simp <;> with_reducible rfl))
                refine wpAny_ready (rs := [9]) (by kernel_rfl) (by simp) ?_
                refine AllReady.cons rfl (fun K hK => ?_) AllReady.nil
                obtain ⟨o9, l9, c9, X43, hr9, RI, hic9⟩ := RI.swap.app _ _ IC.swap 25 (by rw [chG_length]; omega)
                have RI := RI.swap
                rw [if_pos (by rfl)]
                refine Lib.wp_append_run _ (.tmp 63) (.tmp 65) _ _ rfl _ _ rfl rfl _ _ hr9 (hK _ _ ?_)
                clear hK K hr9 hic9
                refine wpAny_ready (rs := [11]) (by kernel_rfl) (by simp) ?_
                refine AllReady.cons rfl (fun K hK => ?_) AllReady.nil
                have hc := (rd_cells RI.heap).2.1
                have hf := (rd_cells RI.heap).2.2.2.2.1
                have RS := RI.store hSS
                have hh := rd_put1 RI.heap (.slice o4 l4 c4)
                have hc2 := (rd_cells hh).2.2.1
                have hf2 := (rd_cells hh).2.2.2.2.2
                go_simp
                refine hK _ _ ?_
                clear hK K hc hf
                refine wpAny_take (i := 12) (v := ?va32) rfl (by kernel_rfl) (by kernel_rfl) (by kernel_rfl) (fun _ _ _ h => (by cases h.1)) (Or.inl ⟨by rfl, ?ha32⟩) ?ra32
                case ha32 => (intro w; (go_simp <;> with_reducible rfl))
                refine wpAny_ready (rs := [13]) (by kernel_rfl) (by simp) ?_
                refine AllReady.cons rfl (fun K hK => ?_) AllReady.nil
                go_simp
                refine hK _ _ ?_
                clear hK K hc2 hf2
                refine wpAny_done (by kernel_rfl) ?_ _
                exact ⟨rfl, rfl, rfl, fun i hi => (by match i, hi with | 0, _ | 1, _ | 2, _ | 3, _ | 4, _ | 5, _ | 6, _ | 7, _ | 8, _ | 9, _ | 10, _ | 11, _ | 12, _ | 13, _ | 14, _ | 15, _ | 16, _ | 17, _ | 18, _ | 19, _ | 20, _ | 21, _ | 22, _ | 23, _ | 24, _ | 25, _ | 26, _ | 27, _ | 28, _ | 29, _ | 30, _ | 31, _ | 32, _ | 33, _ | 34, _ => rfl | n + 35, h => exact absurd h (by omega)), fun i hi => (by match i, hi with | 0, _ | 1, _ | 2, _ | 3, _ | 4, _ | 5, _ | 6, _ | 7, _ | 8, _ | 9, _ | 10, _ | 11, _ | 12, _ | 13, _ => rfl | n + 14, h => exact absurd h (by omega)), _, _, RS⟩
              refine AllReady.cons rfl (fun K hK => ?_) ?_
              · have hc := (rd_cells RI.heap).2.2.1
                go_simp
                refine hK _ _ ?_
                clear hK K hc
                refine wpAny_ready (rs := [4, 8]) (by kernel_rfl) (by simp) ?_
                refine AllReady.cons rfl (fun K hK => ?_) ?_
                · obtain ⟨o4, l4, c4, X44, hr4, RI, hic4⟩ := RI.app _ _ IE 25 (by rw [erG_length]; omega)
                  rw [if_pos (by rfl)]
                  refine Lib.wp_append_run _ (.tmp 58) (.tmp 60) _ _ rfl _ _ rfl rfl _ _ hr4 (hK _ _ ?_)
                  clear hK K hr4 hic4
                  refine wpAny_take (i := 10) (v := ?va33) rfl (by kernel_rfl) (by kernel_rfl) (by kernel_rfl) (fun _ _ _ h => (by cases h.1)) (Or.inl ⟨by rfl, ?ha33⟩) ?ra33
                  case ha33 => (intro w; (go_simp <;> with_reducible rfl))
                  refine wpAny_ready (rs := [8]) (by kernel_rfl) (by simp) ?_
                  refine AllReady.cons rfl (fun K hK => ?_) AllReady.nil
                  have IC := RI.new (chN (grpG bs l k) vs m : Int)
                  have RI := RI.later (below_new X44 (Obj.cells #[Value.int IntKind.i64 (chN (grpG bs l k) vs m : Int)] 3))
                  go_simp
                  refine hK _ _ ?_
                  clear hK K
                  generalize World.alloc X44 (Obj.cells #[Value.int IntKind.i64 (chN (grpG bs l k) vs m : Int)] 3) = X45 at RI IC ⊢
                  refine wpAny_ready (rs := [9]) (by kernel_rfl) (by simp) ?_
                  refine AllReady.cons rfl (fun K hK => ?_) AllReady.nil
                  obtain ⟨o9, l9, c9, X46, hr9, RI, hic9⟩ := RI.swap.app _ _ IC.swap 25 (by rw [chG_length]; omega)
                  have RI := RI.swap
                  rw [if_pos (by rfl)]
                  refine Lib.wp_append_run _ (.tmp 63) (.tmp 65) _ _ rfl _ _ rfl rfl _ _ hr9 (hK _ _ ?_)
                  clear hK K hr9 hic9
                  refine wpAny_ready (rs := [11]) (by kernel_rfl) (by simp) ?_
                  refine AllReady.cons rfl (fun K hK => ?_) AllReady.nil
                  have hc := (rd_cells RI.heap).2.1
                  have hf := (rd_cells RI.heap).2.2.2.2.1
                  have RS := RI.store hSS
                  have hh := rd_put1 RI.heap (.slice o4 l4 c4)
                  have hc2 := (rd_cells hh).2.2.1
                  have hf2 := (rd_cells hh).2.2.2.2.2
                  go_simp
                  refine hK _ _ ?_
                  clear hK K hc hf
                  refine wpAny_take (i := 12) (v := ?va34) rfl (by kernel_rfl) (by kernel_rfl) (by kernel_rfl) (fun _ _ _ h => (by cases h.1)) (Or.inl ⟨by rfl, ?ha34⟩) ?ra34
                  case ha34 => (intro w; (go_simp <;> with_reducible rfl))
                  refine wpAny_ready (rs := [13]) (by kernel_rfl) (by simp) ?_
                  refine AllReady.cons rfl (fun K hK => ?_) AllReady.nil
                  go_simp
                  refine hK _ _ ?_
                  clear hK K hc2 hf2
                  refine wpAny_done (by kernel_rfl) ?_ _
                  exact ⟨rfl, rfl, rfl, fun i hi => (by match i, hi with | 0, _ | 1, _ | 2, _ | 3, _ | 4, _ | 5, _ | 6, _ | 7, _ | 8, _ | 9, _ | 10, _ | 11, _ | 12, _ | 13, _ | 14, _ | 15, _ | 16, _ | 17, _ | 18, _ | 19, _ | 20, _ | 21, _ | 22, _ | 23, _ | 24, _ | 25, _ | 26, _ | 27, _ | 28, _ | 29, _ | 30, _ | 31, _ | 32, _ | 33, _ | 34, _ => rfl | n + 35, h => exact absurd h (by omega)), fun i hi => (by match i, hi with | 0, _ | 1, _ | 2, _ | 3, _ | 4, _ | 5, _ | 6, _ | 7, _ | 8, _ | 9, _ | 10, _ | 11, _ | 12, _ | 13, _ => rfl | n + 14, h => exact absurd h (by omega)), _, _, RS⟩
                refine AllReady.cons rfl (fun K hK => ?_) AllReady.nil
                have IC := RI.new (chN (grpG bs l k) vs m : Int)
                have RI := RI.later (below_new X38 (Obj.cells #[Value.int IntKind.i64 (chN (grpG bs l k) vs m : Int)] 3))
                have IE := IE.later (below_new X38 (Obj.cells #[Value.int IntKind.i64 (chN (grpG bs l k) vs m : Int)] 3))
                go_simp
                refine hK _ _ ?_
                clear hK K
                generalize World.alloc X38 (Obj.cells #[Value.int IntKind.i64 (chN (grpG bs l k) vs m : Int)] 3) = X47 at RI IC IE ⊢
                refine wpAny_ready (rs := [4]) (by kernel_rfl) (by simp) ?_
                refine AllReady.cons rfl (fun K hK => ?_) AllReady.nil
                obtain ⟨o4, l4, c4, X48, hr4, RI, hic4⟩ := RI.app _ _ IE 25 (by rw [erG_length]; omega)
                have IC := hic4 _ _ IC
                rw [if_pos (by rfl)]
                refine Lib.wp_append_run _ (.tmp 58) (.tmp 60) _ _ rfl _ _ rfl rfl _ _ hr4 (hK _ _ ?_)
                clear hK K hr4 hic4
                refine wpAny_take (i := 10) (v := ?va35) rfl (by kernel_rfl) (by kernel_rfl) (by kernel_rfl) (fun _ _ _ h => (by cases h.1)) (Or.inl ⟨by rfl, ?ha35⟩) ?ra35
                case ha35 => (intro w; (go_simp <;> with_reducible rfl))
                refine wpAny_ready (rs := [9]) (by kernel_rfl) (by simp) ?_
                refine AllReady.cons rfl (fun K hK => ?_) AllReady.nil
                obtain ⟨o9, l9, c9, X49, hr9, RI, hic9⟩ := RI.swap.app _ _ IC.swap 25 (by rw [chG_length]; omega)
                have RI := RI.swap
                rw [if_pos (by rfl)]
                refine Lib.wp_append_run _ (.tmp 63) (.tmp 65) _ _ rfl _ _ rfl rfl _ _ hr9 (hK _ _ ?_)
                clear hK K hr9 hic9
                refine wpAny_ready (rs := [11]) (by kernel_rfl) (by simp) ?_
                refine AllReady.cons rfl (fun K hK => ?_) AllReady.nil
                have hc := (rd_cells RI.heap).2.1
                have hf := (rd_cells RI.heap).2.2.2.2.1
                have RS := RI.store hSS
                have hh := rd_put1 RI.heap (.slice o4 l4 c4)
                have hc2 := (rd_cells hh).2.2.1
                have hf2 := (rd_cells hh).2.2.2.2.2
                go_simp
                refine hK _ _ ?_
                clear hK K hc hf
                refine wpAny_take (i := 12) (v := ?va36) rfl (by kernel_rfl) (by kernel_rfl) (by kernel_rfl) (fun _ _ _ h => (by cases h.1)) (Or.inl ⟨by rfl, ?ha36⟩) ?ra36
                case ha36 => (intro w; (go_simp <;> with_reducible rfl))
                refine wpAny_ready (rs := [13]) (by kernel_rfl) (by simp) ?_
                refine AllReady.cons rfl (fun K hK => ?_) AllReady.nil
                go_simp
                refine hK _ _ ?_
                clear hK K hc2 hf2
                refine wpAny_done (by kernel_rfl) ?_ _
                exact ⟨rfl, rfl, rfl, fun i hi => (by match i, hi with | 0, _ | 1, _ | 2, _ | 3, _ | 4, _ | 5, _ | 6, _ | 7, _ | 8, _ | 9, _ | 10, _ | 11, _ | 12, _ | 13, _ | 14, _ | 15, _ | 16, _ | 17, _ | 18, _ | 19, _ | 20, _ | 21, _ | 22, _ | 23, _ | 24, _ | 25, _ | 26, _ | 27, _ | 28, _ | 29, _ | 30, _ | 31, _ | 32, _ | 33, _ | 34, _ => rfl | n + 35, h => exact absurd h (by omega)), fun i hi => (by match i, hi with | 0, _ | 1, _ | 2, _ | 3, _ | 4, _ | 5, _ | 6, _ | 7, _ | 8, _ | 9, _ | 10, _ | 11, _ | 12, _ | 13, _ => rfl | n + 14, h => exact absurd h (by omega)), _, _, RS⟩
              refine AllReady.cons rfl (fun K hK => ?_) AllReady.nil
              have IC := RI.new (chN (grpG bs l k) vs m : Int)
              have RI := RI.later (below_new X38 (Obj.cells #[Value.int IntKind.i64 (chN (grpG bs l k) vs m : Int)] 3))
              have IE := IE.later (below_new X38 (Obj.cells #[Value.int IntKind.i64 (chN (grpG bs l k) vs m : Int)] 3))
              go_simp
              refine hK _ _ ?_
              clear hK K
              generalize World.alloc X38 (Obj.cells #[Value.int IntKind.i64 (chN (grpG bs l k) vs m : Int)] 3) = X50 at RI IC IE ⊢
              refine wpAny_ready (rs := [4, 6]) (by kernel_rfl) (by simp) ?_
              refine AllReady.cons rfl (fun K hK => ?_) ?_
              · obtain ⟨o4, l4, c4, X51, hr4, RI, hic4⟩ := RI.app _ _ IE 25 (by rw [erG_length]; omega)
                have IC := hic4 _ _ IC
                rw [if_pos (by rfl)]
                refine Lib.wp_append_run _ (.tmp 58) (.tmp 60) _ _ rfl _ _ rfl rfl _ _ hr4 (hK _ _ ?_)
                clear hK K hr4 hic4
                refine wpAny_ready (rs := [6]) (by kernel_rfl) (by simp) ?_
                refine AllReady.cons rfl (fun K hK => ?_) AllReady.nil
                have hc := (rd_cells RI.heap).2.2.1
                go_simp
                refine hK _ _ ?_
                clear hK K hc
                refine wpAny_take (i := 10) (v := ?va37) rfl (by kernel_rfl) (by kernel_rfl) (by kernel_rfl) (fun _ _ _ h => (by cases h.1)) (Or.inl ⟨by rfl, ?ha37⟩) ?ra37
                case ha37 => (intro w; (go_simp <;> with_reducible rfl))
                refine wpAny_ready (rs := [9]) (by kernel_rfl) (by simp) ?_
                refine AllReady.cons rfl (fun K hK => ?_) AllReady.nil
                obtain ⟨o9, l9, c9, X52, hr9, RI, hic9⟩ := RI.swap.app _ _ IC.swap 25 (by rw [chG_length]; omega)
                have RI := RI.swap
                rw [if_pos (by rfl)]
                refine Lib.wp_append_run _ (.tmp 63) (.tmp 65) _ _ rfl _ _ rfl rfl _ _ hr9 (hK _ _ ?_)
                clear hK K hr9 hic9
                refine wpAny_ready (rs := [11]) (by kernel_rfl) (by simp) ?_
                refine AllReady.cons rfl (fun K hK => ?_) AllReady.nil
                have hc := (rd_cells RI.heap).2.1
                have hf := (rd_cells RI.heap).2.2.2.2.1
                have RS := RI.store hSS
                have hh := rd_put1 RI.heap (.slice o4 l4 c4)
                have hc2 := (rd_cells hh).2.2.1
                have hf2 := (rd_cells hh).2.2.2.2.2
                go_simp
                refine hK _ _ ?_
                clear hK K hc hf
                refine wpAny_take (i := 12) (v := ?va38) rfl (by kernel_rfl) (by kernel_rfl) (by kernel_rfl) (fun _ _ _ h => (by cases h.1)) (Or.inl ⟨by rfl, ?ha38⟩) ?ra38
                case ha38 => (intro w; (go_simp <;> with_reducible rfl))
                refine wpAny_ready (rs := [13]) (by kernel_rfl) (by simp) ?_
                refine AllReady.cons rfl (fun K hK => ?_) AllReady.nil
                go_simp
                refine hK _ _ ?_
                clear hK K hc2 hf2
                refine wpAny_done (by kernel_rfl) ?_ _
                exact ⟨rfl, rfl, rfl, fun i hi => (by match i, hi with | 0, _ | 1, _ | 2, _ | 3, _ | 4, _ | 5, _ | 6, _ | 7, _ | 8, _ | 9, _ | 10, _ | 11, _ | 12, _ | 13, _ | 14, _ | 15, _ | 16, _ | 17, _ | 18, _ | 19, _ | 20, _ | 21, _ | 22, _ | 23, _ | 24, _ | 25, _ | 26, _ | 27, _ | 28, _ | 29, _ | 30, _ | 31, _ | 32, _ | 33, _ | 34, _ => rfl | n + 35, h => exact absurd h (by omega)), fun i hi => (by match i, hi with | 0, _ | 1, _ | 2, _ | 3, _ | 4, _ | 5, _ | 6, _ | 7, _ | 8, _ | 9, _ | 10, _ | 11, _ | 12, _ | 13, _ => rfl | n + 14, h => exact absurd h (by omega)), _, _, RS⟩
              refine AllReady.cons rfl (fun K hK => ?_) AllReady.nil
              have hc := (rd_cells RI.heap).2.2.1
              go_simp
              refine hK _ _ ?_
              clear hK K hc
              refine wpAny_ready (rs := [4]) (by kernel_rfl) (by simp) ?_
              refine AllReady.cons rfl (fun K hK => ?_) AllReady.nil
              obtain ⟨o4, l4, c4, X53, hr4, RI, hic4⟩ := RI.app _ _ IE 25 (by rw [erG_length]; omega)
              have IC := hic4 _ _ IC
              rw [if_pos (by rfl)]
              refine Lib.wp_append_run _ (.tmp 58) (.tmp 60) _ _ rfl _ _ rfl rfl _ _ hr4 (hK _ _ ?_)
              clear hK K hr4 hic4
              refine wpAny_take (i := 10) (v := ?va39) rfl (by kernel_rfl) (by kernel_rfl) (by kernel_rfl) (fun _ _ _ h => (by cases h.1)) (Or.inl ⟨by rfl, ?ha39⟩) ?ra39
              case ha39 => (intro w; (go_simp <;> with_reducible rfl))
              refine wpAny_ready (rs := [9]) (by kernel_rfl) (by simp) ?_
              refine AllReady.cons rfl (fun K hK => ?_) AllReady.nil
              obtain ⟨o9, l9, c9, X54, hr9, RI, hic9⟩ := RI.swap.app _ _ IC.swap 25 (by rw [chG_length]; omega)
              have RI := RI.swap
              rw [if_pos (by rfl)]
              refine Lib.wp_append_run _ (.tmp 63) (.tmp 65) _ _ rfl _ _ rfl rfl _ _ hr9 (hK _ _ ?_)
              clear hK K hr9 hic9
              refine wpAny_ready (rs := [11]) (by kernel_rfl) (by simp) ?_
              refine AllReady.cons rfl (fun K hK => ?_) AllReady.nil
              have hc := (rd_cells RI.heap).2.1
              have hf := (rd_cells RI.heap).2.2.2.2.1
              have RS := RI.store hSS
              have hh := rd_put1 RI.heap (.slice o4 l4 c4)
              have hc2 := (rd_cells hh).2.2.1
              have hf2 := (rd_cells hh).2.2.2.2.2
              go_simp
              refine hK _ _ ?_
              clear hK K hc hf
              refine wpAny_take (i := 12) (v := ?va40) rfl (by kernel_rfl) (by kernel_rfl) (by kernel_rfl) (fun _ _ _ h => (by cases h.1)) (Or.inl ⟨by rfl, ?ha40⟩) ?ra40
              case ha40 => (intro w; (go_simp <;> with_reducible rfl))
              refine wpAny_ready (rs := [13]) (by kernel_rfl) (by simp) ?_
              refine AllReady.cons rfl (fun K hK => ?_) AllReady.nil
              go_simp
              refine hK _ _ ?_
              clear hK K hc2 hf2
              refine wpAny_done (by kernel_rfl) ?_ _
              exact ⟨rfl, rfl, rfl, fun i hi => (by match i, hi with | 0, _ | 1, _ | 2, _ | 3, _ | 4, _ | 5, _ | 6, _ | 7, _ | 8, _ | 9, _ | 10, _ | 11, _ | 12, _ | 13, _ | 14, _ | 15, _ | 16, _ | 17, _ | 18, _ | 19, _ | 20, _ | 21, _ | 22, _ | 23, _ | 24, _ | 25, _ | 26, _ | 27, _ | 28, _ | 29, _ | 30, _ | 31, _ | 32, _ | 33, _ | 34, _ => rfl | n + 35, h => exact absurd h (by omega)), fun i hi => (by match i, hi with | 0, _ | 1, _ | 2, _ | 3, _ | 4, _ | 5, _ | 6, _ | 7, _ | 8, _ | 9, _ | 10, _ | 11, _ | 12, _ | 13, _ => rfl | n + 14, h => exact absurd h (by omega)), _, _, RS⟩
            refine AllReady.cons rfl (fun K hK => ?_) ?_
            · have hc := (rd_cells RI.heap).2.2.1
              go_simp
              refine hK _ _ ?_
              clear hK K hc
              refine wpAny_ready (rs := [1, 8]) (by kernel_rfl) (by simp) ?_
              refine AllReady.cons rfl (fun K hK => ?_) ?_
              · have hc := (rd_cells RI.heap).2.1
                go_simp
                refine hK _ _ ?_
                clear hK K hc
                refine wpAny_ready (rs := [4, 8]) (by kernel_rfl) (by simp) ?_
                refine AllReady.cons rfl (fun K hK => ?_) ?_
                · obtain ⟨o4, l4, c4, X55, hr4, RI, hic4⟩ := RI.app _ _ IE 25 (by rw [erG_length]; omega)
                  rw [if_pos (by rfl)]
                  refine Lib.wp_append_run _ (.tmp 58) (.tmp 60) _ _ rfl _ _ rfl rfl _ _ hr4 (hK _ _ ?_)
                  clear hK K hr4 hic4
                  refine wpAny_take (i := 10) (v := ?va41) rfl (by kernel_rfl) (by kernel_rfl) (by kernel_rfl) (fun _ _ _ h => (by cases h.1)) (Or.inl ⟨by rfl, ?ha41⟩) ?ra41
                  case ha41 => (intro w; (go_simp <;> with_reducible rfl))
                  refine wpAny_ready (rs := [8]) (by kernel_rfl) (by simp) ?_
                  refine AllReady.cons rfl (fun K hK => ?_) AllReady.nil
                  have IC := RI.new (chN (grpG bs l k) vs m : Int)
                  have RI := RI.later (below_new X55 (Obj.cells #[Value.int IntKind.i64 (chN (grpG bs l k) vs m : Int)] 3))
                  go_simp
                  refine hK _ _ ?_
                  clear hK K
                  generalize World.alloc X55 (Obj.cells #[Value.int IntKind.i64 (chN (grpG bs l k) vs m : Int)] 3) = X56 at RI IC ⊢
                  refine wpAny_ready (rs := [9]) (by kernel_rfl) (by simp) ?_
                  refine AllReady.cons rfl (fun K hK => ?_) AllReady.nil
                  obtain ⟨o9, l9, c9, X57, hr9, RI, hic9⟩ := RI.swap.app _ _ IC.swap 25 (by rw [chG_length]; omega)
                  have RI := RI.swap
                  rw [if_pos (by rfl)]
                  refine Lib.wp_append_run _ (.tmp 63) (.tmp 65) _ _ rfl _ _ rfl rfl _ _ hr9 (hK _ _ ?_)
                  clear hK K hr9 hic9
                  refine wpAny_ready (rs := [11]) (by kernel_rfl) (by simp) ?_
                  refine AllReady.cons rfl (fun K hK => ?_) AllReady.nil
                  have hc := (rd_cells RI.heap).2.1
                  have hf := (rd_cells RI.heap).2.2.2.2.1
                  have RS := RI.store hSS
                  have hh := rd_put1 RI.heap (.slice o4 l4 c4)
                  have hc2 := (rd_cells hh).2.2.1
                  have hf2 := (rd_cells hh).2.2.2.2.2
                  go_simp
                  refine hK _ _ ?_
                  clear hK K hc hf
                  refine wpAny_take (i := 12) (v := ?va42) rfl (by kernel_rfl) (by kernel_rfl) (by kernel_rfl) (fun _ _ _ h => (by cases h.1)) (Or.inl ⟨by rfl, ?ha42⟩) ?ra42
                  case ha42 => (intro w; (go_simp <;> with_reducible rfl))
                  refine wpAny_ready (rs := [13]) (by kernel_rfl) (by simp) ?_
                  refine AllReady.cons rfl (fun K hK => ?_) AllReady.nil
                  go_simp
                  refine hK _ _ ?_
                  clear hK K hc2 hf2
                  refine wpAny_done (by kernel_rfl) ?_ _
                  exact ⟨rfl, rfl, rfl, fun i hi => (by match i, hi with | 0, _ | 1, _ | 2, _ | 3, _ | 4, _ | 5, _ | 6, _ | 7, _ | 8, _ | 9, _ | 10, _ | 11, _ | 12, _ | 13, _ | 14, _ | 15, _ | 16, _ | 17, _ | 18, _ | 19, _ | 20, _ | 21, _ | 22, _ | 23, _ | 24, _ | 25, _ | 26, _ | 27, _ | 28, _ | 29, _ | 30, _ | 31, _ | 32, _ | 33, _ | 34, _ => rfl | n + 35, h => exact absurd h (by omega)), fun i hi => (by match i, hi with | 0, _ | 1, _ | 2, _ | 3, _ | 4, _ | 5, _ | 6, _ | 7, _ | 8, _ | 9, _ | 10, _ | 11, _ | 12, _ | 13, _ => rfl | n + 14, h => exact absurd h (by omega)), _, _, RS⟩
                refine AllReady.cons rfl (fun K hK => ?_) AllReady.nil
                have IC := RI.new (chN (grpG bs l k) vs m : Int)
                have RI := RI.later (below_new X38 (Obj.cells #[Value.int IntKind.i64 (chN (grpG bs l k) vs m : Int)] 3))
                have IE := IE.later (below_new X38 (Obj.cells #[Value.int IntKind.i64 (chN (grpG bs l k) vs m : Int)] 3))
                go_simp
                refine hK _ _ ?_
                clear hK K
                generalize World.alloc X38 (Obj.cells #[Value.int IntKind.i64 (chN (grpG bs l k) vs m : Int)] 3) = X58 at RI IC IE ⊢
                refine wpAny_ready (rs := [4]) (by kernel_rfl) (by simp) ?_
                refine AllReady.cons rfl (fun K hK => ?_) AllReady.nil
                obtain ⟨o4, l4, c4, X59, hr4, RI, hic4⟩ := RI.app _ _ IE 25 (by rw [erG_length]; omega)
                have IC := hic4 _ _ IC
                rw [if_pos (by rfl)]
                refine Lib.wp_append_run _ (.tmp 58) (.tmp 60) _ _ rfl _ _ rfl rfl _ _ hr4 (hK _ _ ?_)
                clear hK K hr4 hic4
                refine wpAny_take (i := 10) (v := ?va43) rfl (by kernel_rfl) (by kernel_rfl) (by kernel_rfl) (fun _ _ _ h => (by cases h.1)) (Or.inl ⟨by rfl, ?ha43⟩) ?ra43
                case ha43 => (intro w; (go_simp <;> with_reducible rfl))
                refine wpAny_ready (rs := [9]) (by kernel_rfl) (by simp) ?_
                refine AllReady.cons rfl (fun K hK => ?_) AllReady.nil
                obtain ⟨o9, l9, c9, X60, hr9, RI, hic9⟩ := RI.swap.app _ _ IC.swap 25 (by rw [chG_length]; omega)
                have RI := RI.swap
                rw [if_pos (by rfl)]
                refine Lib.wp_append_run _ (.tmp 63) (.tmp 65) _ _ rfl _ _ rfl rfl _ _ hr9 (hK _ _ ?_)
                clear hK K hr9 hic9
                refine wpAny_ready (rs := [11]) (by kernel_rfl) (by simp) ?_
                refine AllReady.cons rfl (fun K hK => ?_) AllReady.nil
                have hc := (rd_cells RI.heap).2.1
                have hf := (rd_cells RI.heap).2.2.2.2.1
                have RS := RI.store hSS
                have hh := rd_put1 RI.heap (.slice o4 l4 c4)
                have hc2 := (rd_cells hh).2.2.1
                have hf2 := (rd_cells hh).2.2.2.2.2
                go_simp
                refine hK _ _ ?_
                clear hK K hc hf
                refine wpAny_take (i := 12) (v := ?va44) rfl (by kernel_rfl) (by kernel_rfl) (by kernel_rfl) (fun _ _ _ h => (by cases h.1)) (Or.inl ⟨by rfl, ?ha44⟩) ?ra44
                case ha44 => (intro w; (go_simp <;> with_reducible rfl))
                refine wpAny_ready (rs := [13]) (by kernel_rfl) (by simp) ?_
                refine AllReady.cons rfl (fun K hK => ?_) AllReady.nil
                go_simp
                refine hK _ _ ?_
                clear hK K hc2 hf2
                refine wpAny_done (by kernel_rfl) ?_ _
                exact ⟨rfl, rfl, rfl, fun i hi => (by match i, hi with | 0, _ | 1, _ | 2, _ | 3, _ | 4, _ | 5, _ | 6, _ | 7, _ | 8, _ | 9, _ | 10, _ | 11, _ | 12, _ | 13, _ | 14, _ | 15, _ | 16, _ | 17, _ | 18, _ | 19, _ | 20, _ | 21, _ | 22, _ | 23, _ | 24, _ | 25, _ | 26, _ | 27, _ | 28, _ | 29, _ | 30, _ | 31, _ | 32, _ | 33, _ | 34, _ => rfl | n + 35, h => exact absurd h (by omega)), fun i hi => (by match i, hi with | 0, _ | 1, _ | 2, _ | 3, _ | 4, _ | 5, _ | 6, _ | 7, _ | 8, _ | 9, _ | 10, _ | 11, _ | 12, _ | 13, _ => rfl | n + 14, h => exact absurd h (by omega)), _, _, RS⟩
              refine AllReady.cons rfl (fun K hK => ?_) AllReady.nil
              have IC := RI.new (chN (grpG bs l k) vs m : Int)
              have RI := RI.later (below_new X38 (Obj.cells #[Value.int IntKind.i64 (chN (grpG bs l k) vs m : Int)] 3))
              have IE := IE.later (below_new X38 (Obj.cells #[Value.int IntKind.i64 (chN (grpG bs l k) vs m : Int)] 3))
              go_simp
              refine hK _ _ ?_
              clear hK K
              generalize World.alloc X38 (Obj.cells #[Value.int IntKind.i64 (chN (grpG bs l k) vs m : Int)] 3) = X61 at RI IC IE ⊢
              refine wpAny_ready (rs := [1]) (by kernel_rfl) (by simp) ?_
              refine AllReady.cons rfl (fun K hK => ?_) AllReady.nil
              have hc := (rd_cells RI.heap).2.1
              go_simp
              refine hK _ _ ?_
              clear hK K hc
              refine wpAny_ready (rs := [4]) (by kernel_rfl) (by simp) ?_
              refine AllReady.cons rfl (fun K hK => ?_) AllReady.nil
              obtain ⟨o4, l4, c4, X62, hr4, RI, hic4⟩ := RI.app _ _ IE 25 (by rw [erG_length]; omega)
              have IC := hic4 _ _ IC
              rw [if_pos (by rfl)]
              refine Lib.wp_append_run _ (.tmp 58) (.tmp 60) _ _ rfl _ _ rfl rfl _ _ hr4 (hK _ _ ?_)
              clear hK K hr4 hic4
              refine wpAny_take (i := 10) (v := ?va45) rfl (by kernel_rfl) (by kernel_rfl) (by kernel_rfl) (fun _ _ _ h => (by cases h.1)) (Or.inl ⟨by rfl, ?ha45⟩) ?ra45
              case ha45 => (intro w; (go_simp <;> with_reducible rfl))
              refine wpAny_ready (rs := [9]) (by kernel_rfl) (by simp) ?_
              refine AllReady.cons rfl (fun K hK => ?_) AllReady.nil
              obtain ⟨o9, l9, c9, X63, hr9, RI, hic9⟩ := RI.swap.app _ _ IC.swap 25 (by rw [chG_length]; omega)
              have RI := RI.swap
              rw [if_pos (by rfl)]
              refine Lib.wp_append_run _ (.tmp 63) (.tmp 65) _ _ rfl _ _ rfl rfl _ _ hr9 (hK _ _ ?_)
              clear hK K hr9 hic9
              refine wpAny_ready (rs := [11]) (by kernel_rfl) (by simp) ?_
              refine AllReady.cons rfl (fun K hK => ?_) AllReady.nil
              have hc := (rd_cells RI.heap).2.1
              have hf := (rd_cells RI.heap).2.2.2.2.1
              have RS := RI.store hSS
              have hh := rd_put1 RI.heap (.slice o4 l4 c4)
              have hc2 := (rd_cells hh).2.2.1
              have hf2 := (rd_cells hh).2.2.2.2.2
              go_simp
              refine hK _ _ ?_
              clear hK K hc hf
              refine wpAny_take (i := 12) (v := ?va46) rfl (by kernel_rfl) (by kernel_rfl) (by kernel_rfl) (fun _ _ _ h => (by cases h.1)) (Or.inl ⟨by rfl, ?ha46⟩) ?ra46
              case ha46 => (intro w; (go_simp <;> with_reducible rfl))
              refine wpAny_ready (rs := [13]) (by kernel_rfl) (by simp) ?_
              refine AllReady.cons rfl (fun K hK => ?_) AllReady.nil
              go_simp
              refine hK _ _ ?_
              clear hK K hc2 hf2
              refine wpAny_done (by kernel_rfl) ?_ _
              exact ⟨rfl, rfl, rfl, fun i hi => (by match i, hi with | 0, _ | 1, _ | 2, _ | 3, _ | 4, _ | 5, _ | 6, _ | 7, _ | 8, _ | 9, _ | 10, _ | 11, _ | 12, _ | 13, _ | 14, _ | 15, _ | 16, _ | 17, _ | 18, _ | 19, _ | 20, _ | 21, _ | 22, _ | 23, _ | 24, _ | 25, _ | 26, _ | 27, _ | 28, _ | 29, _ | 30, _ | 31, _ | 32, _ | 33, _ | 34, _ => rfl | n + 35, h => exact absurd h (by omega)), fun i hi => (by match i, hi with | 0, _ | 1, _ | 2, _ | 3, _ | 4, _ | 5, _ | 6, _ | 7, _ | 8, _ | 9, _ | 10, _ | 11, _ | 12, _ | 13, _ => rfl | n + 14, h => exact absurd h (by omega)), _, _, RS⟩
            refine AllReady.cons rfl (fun K hK => ?_) AllReady.nil
            have IC := RI.new (chN (grpG bs l k) vs m : Int)
            have RI := RI.later (below_new X38 (Obj.cells #[Value.int IntKind.i64 (chN (grpG bs l k) vs m : Int)] 3))
            have IE := IE.later (below_new X38 (Obj.cells #[Value.int IntKind.i64 (chN (grpG bs l k) vs m : Int)] 3))
            go_simp
            refine hK _ _ ?_
            clear hK K
            generalize World.alloc X38 (Obj.cells #[Value.int IntKind.i64 (chN (grpG bs l k) vs m : Int)] 3) = X64 at RI IC IE ⊢
            refine wpAny_ready (rs := [1, 6]) (by kernel_rfl) (by simp) ?_
            refine AllReady.cons rfl (fun K hK => ?_) ?_
            · have hc := (rd_cells RI.heap).2.1
              go_simp
              refine hK _ _ ?_
              clear hK K hc
              refine wpAny_ready (rs := [4, 6]) (by kernel_rfl) (by simp) ?_
              refine AllReady.cons rfl (fun K hK => ?_) ?_
              · obtain ⟨o4, l4, c4, X65, hr4, RI, hic4⟩ := RI.app _ _ IE 25 (by rw [erG_length]; omega)
                have IC := hic4 _ _ IC
                rw [if_pos (by rfl)]
                refine Lib.wp_append_run _ (.tmp 58) (.tmp 60) _ _ rfl _ _ rfl rfl _ _ hr4 (hK _ _ ?_)
                clear hK K hr4 hic4
                refine wpAny_ready (rs := [6]) (by kernel_rfl) (by simp) ?_
                refine AllReady.cons rfl (fun K hK => ?_) AllReady.nil
                have hc := (rd_cells RI.heap).2.2.1
                go_simp
                refine hK _ _ ?_
                clear hK K hc
                refine wpAny_take (i := 10) (v := ?va47) rfl (by kernel_rfl) (by kernel_rfl) (by kernel_rfl) (fun _ _ _ h => (by cases h.1)) (Or.inl ⟨by rfl, ?ha47⟩) ?ra47
                case ha47 => (intro w; (go_simp <;> with_reducible rfl))
                refine wpAny_ready (rs := [9]) (by kernel_rfl) (by simp) ?_
                refine AllReady.cons rfl (fun K hK => ?_) AllReady.nil
                obtain ⟨o9, l9, c9, X66, hr9, RI, hic9⟩ := RI.swap.app _ _ IC.swap 25 (by rw [chG_length]; omega)
                have RI := RI.swap
                rw [if_pos (by rfl)]
                refine Lib.wp_append_run _ (.tmp 63) (.tmp 65) _ _ rfl _ _ rfl rfl _ _ hr9 (hK _ _ ?_)
                clear hK K hr9 hic9
                refine wpAny_ready (rs := [11]) (by kernel_rfl) (by simp) ?_
                refine AllReady.cons rfl (fun K hK => ?_) AllReady.nil
                have hc := (rd_cells RI.heap).2.1
                have hf := (rd_cells RI.heap).2.2.2.2.1
                have RS := RI.store hSS
                have hh := rd_put1 RI.heap (.slice o4 l4 c4)
                have hc2 := (rd_cells hh).2.2.1
                have hf2 := (rd_cells hh).2.2.2.2.2
                go_simp
                refine hK _ _ ?_
                clear hK K hc hf
                refine wpAny_take (i := 12) (v := ?va48) rfl (by kernel_rfl) (by kernel_rfl) (by kernel_rfl) (fun _ _ _ h => (by cases h.1)) (Or.inl ⟨by rfl, ?ha48⟩) ?ra48
                case ha48 => (intro w; (go_simp <;> with_reducible rfl))
                refine wpAny_ready (rs := [13]) (by kernel_rfl) (by simp) ?_
                refine AllReady.cons rfl (fun K hK => ?_) AllReady.nil
                go_simp
                refine hK _ _ ?_
                clear hK K hc2 hf2
                refine wpAny_done (by kernel_rfl) ?_ _
                exact ⟨rfl, rfl, rfl, fun i hi => (by match i, hi with | 0, _ | 1, _ | 2, _ | 3, _ | 4, _ | 5, _ | 6, _ | 7, _ | 8, _ | 9, _ | 10, _ | 11, _ | 12, _ | 13, _ | 14, _ | 15, _ | 16, _ | 17, _ | 18, _ | 19, _ | 20, _ | 21, _ | 22, _ | 23, _ | 24, _ | 25, _ | 26, _ | 27, _ | 28, _ | 29, _ | 30, _ | 31, _ | 32, _ | 33, _ | 34, _ => rfl | n + 35, h => exact absurd h (by omega)), fun i hi => (by match i, hi with | 0, _ | 1, _ | 2, _ | 3, _ | 4, _ | 5, _ | 6, _ | 7, _ | 8, _ | 9, _ | 10, _ | 11, _ | 12, _ | 13, _ => rfl | n + 14, h => exact absurd h (by omega)), _, _, RS⟩
              refine AllReady.cons rfl (fun K hK => ?_) AllReady.nil
              have hc := (rd_cells RI.heap).2.2.1
              go_simp
              refine hK _ _ ?_
              clear hK K hc
              refine wpAny_ready (rs := [4]) (by kernel_rfl) (by simp) ?_
              refine AllReady.cons rfl (fun K hK => ?_) AllReady.nil
              obtain ⟨o4, l4, c4, X67, hr4, RI, hic4⟩ := RI.app _ _ IE 25 (by rw [erG_length]; omega)
              have IC := hic4 _ _ IC
              rw [if_pos (by rfl)]
              refine Lib.wp_append_run _ (.tmp 58) (.tmp 60) _ _ rfl _ _ rfl rfl _ _ hr4 (hK _ _ ?_)
              clear hK K hr4 hic4
              refine wpAny_take (i := 10) (v := ?va49) rfl (by kernel_rfl) (by kernel_rfl) (by kernel_rfl) (fun _ _ _ h => (by cases h.1)) (Or.inl ⟨by rfl, ?ha49⟩) ?ra49
              case ha49 => (intro w; (go_simp <;> with_reducible rfl))
              refine wpAny_ready (rs := [9]) (by kernel_rfl) (by simp) ?_
              refine AllReady.cons rfl (fun K hK => ?_) AllReady.nil
              obtain ⟨o9, l9, c9, X68, hr9, RI, hic9⟩ := RI.swap.app _ _ IC.swap 25 (by rw [chG_length]; omega)
              have RI := RI.swap
              rw [if_pos (by rfl)]
              refine Lib.wp_append_run _ (.tmp 63) (.tmp 65) _ _ rfl _ _ rfl rfl _ _ hr9 (hK _ _ ?_)
              clear hK K hr9 hic9
              refine wpAny_ready (rs := [11]) (by kernel_rfl) (by simp) ?_
              refine AllReady.cons rfl (fun K hK => ?_) AllReady.nil
              have hc := (rd_cells RI.heap).2.1
              have hf := (rd_cells RI.heap).2.2.2.2.1
              have RS := RI.store hSS
              have hh := rd_put1 RI.heap (.slice o4 l4 c4)
              have hc2 := (rd_cells hh).2.2.1
              have hf2 := (rd_cells hh).2.2.2.2.2
              go_simp
              refine hK _ _ ?_
              clear hK K hc hf
              refine wpAny_take (i := 12) (v := ?va50) rfl (by kernel_rfl) (by kernel_rfl) (by kernel_rfl) (fun _ _ _ h => (by cases h.1)) (Or.inl ⟨by rfl, ?ha50⟩) ?ra50
              case ha50 => (intro w; (go_simp <;> with_reducible rfl))
              refine wpAny_ready (rs := [13]) (by kernel_rfl) (by simp) ?_
              refine AllReady.cons rfl (fun K hK => ?_) AllReady.nil
              go_simp
              refine hK _ _ ?_
              clear hK K hc2 hf2
              refine wpAny_done (by kernel_rfl) ?_ _
              exact ⟨rfl, rfl, rfl, fun i hi => (by match i, hi with | 0, _ | 1, _ | 2, _ | 3, _ | 4, _ | 5, _ | 6, _ | 7, _ | 8, _ | 9, _ | 10, _ | 11, _ | 12, _ | 13, _ | 14, _ | 15, _ | 16, _ | 17, _ | 18, _ | 19, _ | 20, _ | 21, _ | 22, _ | 23, _ | 24, _ | 25, _ | 26, _ | 27, _ | 28, _ | 29, _ | 30, _ | 31, _ | 32, _ | 33, _ | 34, _ => rfl | n + 35, h => exact absurd h (by omega)), fun i hi => (by match i, hi with | 0, _ | 1, _ | 2, _ | 3, _ | 4, _ | 5, _ | 6, _ | 7, _ | 8, _ | 9, _ | 10, _ | 11, _ | 12, _ | 13, _ => rfl | n + 14, h => exact absurd h (by omega)), _, _, RS⟩
            refine AllReady.cons rfl (fun K hK => ?_) AllReady.nil
            have hc := (rd_cells RI.heap).2.2.1
            go_simp
            refine hK _ _ ?_
            clear hK K hc
            refine wpAny_ready (rs := [1]) (by kernel_rfl) (by simp) ?_
            refine AllReady.cons rfl (fun K hK => ?_) AllReady.nil
            have hc := (rd_cells RI.heap).2.1
            go_simp
            refine hK _ _ ?_
            clear hK K hc
            refine wpAny_ready (rs := [4]) (by kernel_rfl) (by simp) ?_
            refine AllReady.cons rfl (fun K hK => ?_) AllReady.nil
            obtain ⟨o4, l4, c4, X69, hr4, RI, hic4⟩ := RI.app _ _ IE 25 (by rw [erG_length]; omega)
            have IC := hic4 _ _ IC
            rw [if_pos (by rfl)]
            refine Lib.wp_append_run _ (.tmp 58) (.tmp 60) _ _ rfl _ _ rfl rfl _ _ hr4 (hK _ _ ?_)
            clear hK K hr4 hic4
            refine wpAny_take (i := 10) (v := ?va51) rfl (by kernel_rfl) (by kernel_rfl) (by kernel_rfl) (fun _ _ _ h => (by cases h.1)) (Or.inl ⟨by rfl, ?ha51⟩) ?ra51
            case ha51 => (intro w; (go_simp <;> with_reducible rfl))
            refine wpAny_ready (rs := [9]) (by kernel_rfl) (by simp) ?_
            refine AllReady.cons rfl (fun K hK => ?_) AllReady.nil
            obtain ⟨o9, l9, c9, X70, hr9, RI, hic9⟩ := RI.swap.app _ _ IC.swap 25 (by rw [chG_length]; omega)
            have RI := RI.swap
            rw [if_pos (by rfl)]
            refine Lib.wp_append_run _ (.tmp 63) (.tmp 65) _ _ rfl _ _ rfl rfl _ _ hr9 (hK _ _ ?_)
            clear hK K hr9 hic9
            refine wpAny_ready (rs := [11]) (by kernel_rfl) (by simp) ?_
            refine AllReady.cons rfl (fun K hK => ?_) AllReady.nil
            have hc := (rd_cells RI.heap).2.1
            have hf := (rd_cells RI.heap).2.2.2.2.1
            have RS := RI.store hSS
            have hh := rd_put1 RI.heap (.slice o4 l4 c4)
            have hc2 := (rd_cells hh).2.2.1
            have hf2 := (rd_cells hh).2.2.2.2.2
            go_simp
            refine hK _ _ ?_
            clear hK K hc hf
            refine wpAny_take (i := 12) (v := ?va52) rfl (by kernel_rfl) (by kernel_rfl) (by kernel_rfl) (fun _ _ _ h => (by cases h.1)) (Or.inl ⟨by rfl, ?ha52⟩) ?ra52
            case ha52 => (intro w; (go_simp <;> with_reducible rfl))
            refine wpAny_ready (rs := [13]) (by kernel_rfl) (by simp) ?_
            refine AllReady.cons rfl (fun K hK => ?_) AllReady.nil
            go_simp
            refine hK _ _ ?_
            clear hK K hc2 hf2
            refine wpAny_done (by kernel_rfl) ?_ _
            exact ⟨rfl, rfl, rfl, fun i hi => (by match i, hi with | 0, _ | 1, _ | 2, _ | 3, _ | 4, _ | 5, _ | 6, _ | 7, _ | 8, _ | 9, _ | 10, _ | 11, _ | 12, _ | 13, _ | 14, _ | 15, _ | 16, _ | 17, _ | 18, _ | 19, _ | 20, _ | 21, _ | 22, _ | 23, _ | 24, _ | 25, _ | 26, _ | 27, _ | 28, _ | 29, _ | 30, _ | 31, _ | 32, _ | 33, _ | 34, _ => rfl | n + 35, h => exact absurd h (by omega)), fun i hi => (by match i, hi with | 0, _ | 1, _ | 2, _ | 3, _ | 4, _ | 5, _ | 6, _ | 7, _ | 8, _ | 9, _ | 10, _ | 11, _ | 12, _ | 13, _ => rfl | n + 14, h => exact absurd h (by omega)), _, _, RS⟩
          refine AllReady.cons rfl (fun K hK => ?_) ?_
          · have hc := (rd_cells RI.heap).2.2.1
            go_simp
            refine hK _ _ ?_
            clear hK K hc
            refine wpAny_ready (rs := [1, 3, 8]) (by kernel_rfl) (by simp) ?_
            refine AllReady.cons rfl (fun K hK => ?_) ?_
            · have hc := (rd_cells RI.heap).2.1
              go_simp
              refine hK _ _ ?_
              clear hK K hc
              refine wpAny_ready (rs := [3, 8]) (by kernel_rfl) (by simp) ?_
              refine AllReady.cons rfl (fun K hK => ?_) ?_
              · have IE := RI.new ((gnL (grpG bs l k) m).length : Int)
                have RI := RI.later (below_new X0 (Obj.cells #[Value.int IntKind.i64 ((gnL (grpG bs l k) m).length : Int)] 3))
                go_simp
                refine hK _ _ ?_
                clear hK K
                generalize World.alloc X0 (Obj.cells #[Value.int IntKind.i64 ((gnL (grpG bs l k) m).length : Int)] 3) = X71 at RI IE ⊢
                refine wpAny_ready (rs := [4, 8]) (by kernel_rfl) (by simp) ?_
                refine AllReady.cons rfl (fun K hK => ?_) ?_
                · obtain ⟨o4, l4, c4, X72, hr4, RI, hic4⟩ := RI.app _ _ IE 25 (by rw [erG_length]; omega)
                  rw [if_pos (by rfl)]
                  refine Lib.wp_append_run _ (.tmp 58) (.tmp 60) _ _ rfl _ _ rfl rfl _ _ hr4 (hK _ _ ?_)
                  clear hK K hr4 hic4
                  refine wpAny_take (i := 10) (v := ?va53) rfl (by kernel_rfl) (by kernel_rfl) (by kernel_rfl) (fun _ _ _ h => (by cases h.1)) (Or.inl ⟨by rfl, ?ha53⟩) ?ra53
                  case ha53 => (intro w; (go_simp <;> with_reducible rfl))
                  refine wpAny_ready (rs := [8]) (by kernel_rfl) (by simp) ?_
                  refine AllReady.cons rfl (fun K hK => ?_) AllReady.nil
                  have IC := RI.new (chN (grpG bs l k) vs m : Int)
                  have RI := RI.later (below_new X72 (Obj.cells #[Value.int IntKind.i64 (chN (grpG bs l k) vs m : Int)] 3))
                  go_simp
                  refine hK _ _ ?_
                  clear hK K
                  generalize World.alloc X72 (Obj.cells #[Value.int IntKind.i64 (chN (grpG bs l k) vs m : Int)] 3) = X73 at RI IC ⊢
                  refine wpAny_ready (rs := [9]) (by kernel_rfl) (by simp) ?_
                  refine AllReady.cons rfl (fun K hK => ?_) AllReady.nil
                  obtain ⟨o9, l9, c9, X74, hr9, RI, hic9⟩ := RI.swap.app _ _ IC.swap 25 (by rw [chG_length]; omega)
                  have RI := RI.swap
                  rw [if_pos (by rfl)]
                  refine Lib.wp_append_run _ (.tmp 63) (.tmp 65) _ _ rfl _ _ rfl rfl _ _ hr9 (hK _ _ ?_)
                  clear hK K hr9 hic9
                  refine wpAny_ready (rs := [11]) (by kernel_rfl) (by simp) ?_
                  refine AllReady.cons rfl (fun K hK => ?_) AllReady.nil
                  have hc := (rd_cells RI.heap).2.1
                  have hf := (rd_cells RI.heap).2.2.2.2.1
                  have RS := RI.store hSS
                  have hh := rd_put1 RI.heap (.slice o4 l4 c4)
                  have hc2 := (rd_cells hh).2.2.1
                  have hf2 := (rd_cells hh).2.2.2.2.2
                  go_simp
                  refine hK _ _ ?_
                  clear hK K hc hf
                  refine wpAny_take (i := 12) (v := ?va54) rfl (by kernel_rfl) (by kernel_rfl) (by kernel_rfl) (fun _ _ _ h => (by cases h.1)) (Or.inl ⟨by rfl, ?ha54⟩) ?ra54
                  case ha54 => (intro w; (go_simp <;> with_reducible rfl))
                  refine wpAny_ready (rs := [13]) (by kernel_rfl) (by simp) ?_
                  refine AllReady.cons rfl (fun K hK => ?_) AllReady.nil
                  go_simp
                  refine hK _ _ ?_
                  clear hK K hc2 hf2
                  refine wpAny_done (by kernel_rfl) ?_ _
                  exact ⟨rfl, rfl, rfl, fun i hi => (by match i, hi with | 0, _ | 1, _ | 2, _ | 3, _ | 4, _ | 5, _ | 6, _ | 7, _ | 8, _ | 9, _ | 10, _ | 11, _ | 12, _ | 13, _ | 14, _ | 15, _ | 16, _ | 17, _ | 18, _ | 19, _ | 20, _ | 21, _ | 22, _ | 23, _ | 24, _ | 25, _ | 26, _ | 27, _ | 28, _ | 29, _ | 30, _ | 31, _ | 32, _ | 33, _ | 34, _ => rfl | n + 35, h => exact absurd h (by omega)), fun i hi => (by match i, hi with | 0, _ | 1, _ | 2, _ | 3, _ | 4, _ | 5, _ | 6, _ | 7, _ | 8, _ | 9, _ | 10, _ | 11, _ | 12, _ | 13, _ => rfl | n + 14, h => exact absurd h (by omega)), _, _, RS⟩
                refine AllReady.cons rfl (fun K hK => ?_) AllReady.nil
                have IC := RI.new (chN (grpG bs l k) vs m : Int)
                have RI := RI.later (below_new X71 (Obj.cells #[Value.int IntKind.i64 (chN (grpG bs l k) vs m : Int)] 3))
                have IE := IE.later (below_new X71 (Obj.cells #[Value.int IntKind.i64 (chN (grpG bs l k) vs m : Int)] 3))
                go_simp
                refine hK _ _ ?_
                clear hK K
                generalize World.alloc X71 (Obj.cells #[Value.int IntKind.i64 (chN (grpG bs l k) vs m : Int)] 3) = X75 at RI IC IE ⊢
                refine wpAny_ready (rs := [4]) (by kernel_rfl) (by simp) ?_
                refine AllReady.cons rfl (fun K hK => ?_) AllReady.nil
                obtain ⟨o4, l4, c4, X76, hr4, RI, hic4⟩ := RI.app _ _ IE 25 (by rw [erG_length]; omega)
                have IC := hic4 _ _ IC
                rw [if_pos (by rfl)]
                refine Lib.wp_append_run _ (.tmp 58) (.tmp 60) _ _ rfl _ _ rfl rfl _ _ hr4 (hK _ _ ?_)
                clear hK K hr4 hic4
                refine wpAny_take (i := 10) (v := ?va55) rfl (by kernel_rfl) (by kernel_rfl) (by kernel_rfl) (fun _ _ _ h => (by cases h.1)) (Or.inl ⟨by rfl, ?ha55⟩) ?ra55
                case ha55 => (intro w; (go_simp <;> with_reducible rfl))
                refine wpAny_ready (rs := [9]) (by kernel_rfl) (by simp) ?_
                refine AllReady.cons rfl (fun K hK => ?_) AllReady.nil
                obtain ⟨o9, l9, c9, X77, hr9, RI, hic9⟩ := RI.swap.app _ _ IC.swap 25 (by rw [chG_length]; omega)
                have RI := RI.swap
                rw [if_pos (by rfl)]
                refine Lib.wp_append_run _ (.tmp 63) (.tmp 65) _ _ rfl _ _ rfl rfl _ _ hr9 (hK _ _ ?_)
                clear hK K hr9 hic9
                refine wpAny_ready (rs := [11]) (by kernel_rfl) (by simp) ?_
                refine AllReady.cons rfl (fun K hK => ?_) AllReady.nil
                have hc := (rd_cells RI.heap).2.1
                have hf := (rd_cells RI.heap).2.2.2.2.1
                have RS := RI.store hSS
                have hh := rd_put1 RI.heap (.slice o4 l4 c4)
                have hc2 := (rd_cells hh).2.2.1
                have hf2 := (rd_cells hh).2.2.2.2.2
                go_simp
                refine hK _ _ ?_
                clear hK K hc hf
                refine wpAny_take (i := 12) (v := ?va56) rfl (by kernel_rfl) (by kernel_rfl) (by kernel_rfl) (fun _ _ _ h => (by cases h.1)) (Or.inl ⟨by rfl, ?ha56⟩) ?ra56
                case ha56 => (intro w; (go_simp <;> with_reducible rfl))
                refine wpAny_ready (rs := [13]) (by kernel_rfl) (by simp) ?_
                refine AllReady.cons rfl (fun K hK => ?_) AllReady.nil
                go_simp
                refine hK _ _ ?_
                clear hK K hc2 hf2
                refine wpAny_done (by kernel_rfl) ?_ _
                exact ⟨rfl, rfl, rfl, fun i hi => (by match i, hi with | 0, _ | 1, _ | 2, _ | 3, _ | 4, _ | 5, _ | 6, _ | 7, _ | 8, _ | 9, _ | 10, _ | 11, _ | 12, _ | 13, _ | 14, _ | 15, _ | 16, _ | 17, _ | 18, _ | 19, _ | 20, _ | 21, _ | 22, _ | 23, _ | 24, _ | 25, _ | 26, _ | 27, _ | 28, _ | 29, _ | 30, _ | 31, _ | 32, _ | 33, _ | 34, _ => rfl | n + 35, h => exact absurd h (by omega)), fun i hi => (by match i, hi with | 0, _ | 1, _ | 2, _ | 3, _ | 4, _ | 5, _ | 6, _ | 7, _ | 8, _ | 9, _ | 10, _ | 11, _ | 12, _ | 13, _ => rfl | n + 14, h => exact absurd h (by omega)), _, _, RS⟩
              refine AllReady.cons rfl (fun K hK => ?_) AllReady.nil
              have IC := RI.new (chN (grpG bs l k) vs m : Int)
              have RI := RI.later (below_new X0 (Obj.cells #[Value.int IntKind.i64 (chN (grpG bs l k) vs m : Int)] 3))
              go_simp
              refine hK _ _ ?_
              clear hK K
              generalize World.alloc X0 (Obj.cells #[Value.int IntKind.i64 (chN (grpG bs l k) vs m : Int)] 3) = X78 at RI IC ⊢
              refine wpAny_ready (rs := [3]) (by kernel_rfl) (by simp) ?_
              refine AllReady.cons rfl (fun K hK => ?_) AllReady.nil
              have IE := RI.new ((gnL (grpG bs l k) m).length : Int)
              have RI := RI.later (below_new X78 (Obj.cells #[Value.int IntKind.i64 ((gnL (grpG bs l k) m).length : Int)] 3))
              have IC := IC.later (below_new X78 (Obj.cells #[Value.int IntKind.i64 ((gnL (grpG bs l k) m).length : Int)] 3))
              go_simp
              refine hK _ _ ?_
              clear hK K
              generalize World.alloc X78 (Obj.cells #[Value.int IntKind.i64 ((gnL (grpG bs l k) m).length : Int)] 3) = X79 at RI IE IC ⊢
              refine wpAny_ready (rs := [4]) (by kernel_rfl) (by simp) ?_
              refine AllReady.cons rfl (fun K hK => ?_) AllReady.nil
              obtain ⟨o4, l4, c4, X80, hr4, RI, hic4⟩ := RI.app _ _ IE 25 (by rw [erG_length]; omega)
              have IC := hic4 _ _ IC
              rw [if_pos (by rfl)]
              refine Lib.wp_append_run _ (.tmp 58) (.tmp 60) _ _ rfl _ _ rfl rfl _ _ hr4 (hK _ _ ?_)
              clear hK K hr4 hic4
              refine wpAny_take (i := 10) (v := ?va57) rfl (by kernel_rfl) (by kernel_rfl) (by kernel_rfl) (fun _ _ _ h => (by cases h.1)) (Or.inl ⟨by rfl, ?ha57⟩) ?ra57
              case ha57 => (intro w; (go_simp <;> with_reducible rfl))
              refine wpAny_ready (rs := [9]) (by kernel_rfl) (by simp) ?_
              refine AllReady.cons rfl (fun K hK => ?_) AllReady.nil
              obtain ⟨o9, l9, c9, X81, hr9, RI, hic9⟩ := RI.swap.app _ _ IC.swap 25 (by rw [chG_length]; omega)
              have RI := RI.swap
              rw [if_pos (by rfl)]
              refine Lib.wp_append_run _ (.tmp 63) (.tmp 65) _ _ rfl _ _ rfl rfl _ _ hr9 (hK _ _ ?_)
              clear hK K hr9 hic9
              refine wpAny_ready (rs := [11]) (by kernel_rfl) (by simp) ?_
              refine AllReady.cons rfl (fun K hK => ?_) AllReady.nil
              have hc := (rd_cells RI.heap).2.1
              have hf := (rd_cells RI.heap).2.2.2.2.1
              have RS := RI.store hSS
              have hh := rd_put1 RI.heap (.slice o4 l4 c4)
              have hc2 := (rd_cells hh).2.2.1
              have hf2 := (rd_cells hh).2.2.2.2.2
              go_simp
              refine hK _ _ ?_
              clear hK K hc hf
              refine wpAny_take (i := 12) (v := ?va58) rfl (by kernel_rfl) (by kernel_rfl) (by kernel_rfl) (fun _ _ _ h => (by cases h.1)) (Or.inl ⟨by rfl, ?ha58⟩) ?ra58
              case ha58 => (intro w; (go_simp <;> with_reducible rfl))
              refine wpAny_ready (rs := [13]) (by kernel_rfl) (by simp) ?_
              refine AllReady.cons rfl (fun K hK => ?_) AllReady.nil
              go_simp
              refine hK _ _ ?_
              clear hK K hc2 hf2
              refine wpAny_done (by kernel_rfl) ?_ _
              exact ⟨rfl, rfl, rfl, fun i hi => (by match i, hi with | 0, _ | 1, _ | 2, _ | 3, _ | 4, _ | 5, _ | 6, _ | 7, _ | 8, _ | 9, _ | 10, _ | 11, _ | 12, _ | 13, _ | 14, _ | 15, _ | 16, _ | 17, _ | 18, _ | 19, _ | 20, _ | 21, _ | 22, _ | 23, _ | 24, _ | 25, _ | 26, _ | 27, _ | 28, _ | 29, _ | 30, _ | 31, _ | 32, _ | 33, _ | 34, _ => rfl | n + 35, h => exact absurd h (by omega)), fun i hi => (by match i, hi with | 0, _ | 1, _ | 2, _ | 3, _ | 4, _ | 5, _ | 6, _ | 7, _ | 8, _ | 9, _ | 10, _ | 11, _ | 12, _ | 13, _ => rfl | n + 14, h => exact absurd h (by omega)), _, _, RS⟩
            refine AllReady.cons rfl (fun K hK => ?_) ?_
            · have IE := RI.new ((gnL (grpG bs l k) m).length : Int)
              have RI := RI.later (below_new X0 (Obj.cells #[Value.int IntKind.i64 ((gnL (grpG bs l k) m).length : Int)] 3))
              go_simp
              refine hK _ _ ?_
              clear hK K
              generalize World.alloc X0 (Obj.cells #[Value.int IntKind.i64 ((gnL (grpG bs l k) m).length : Int)] 3) = X82 at RI IE ⊢
              refine wpAny_ready (rs := [1, 8]) (by kernel_rfl) (by simp) ?_
              refine AllReady.cons rfl (fun K hK => ?_) ?_
              · have hc := (rd_cells RI.heap).2.1
                go_simp
                refine hK _ _ ?_
                clear hK K hc
                refine wpAny_ready (rs := [4, 8]) (by kernel_rfl) (by simp) ?_
                refine AllReady.cons rfl (fun K hK => ?_) ?_
                · obtain ⟨o4, l4, c4, X83, hr4, RI, hic4⟩ := RI.app _ _ IE 25 (by rw [erG_length]; omega)
                  rw [if_pos (by rfl)]
                  refine Lib.wp_append_run _ (.tmp 58) (.tmp 60) _ _ rfl _ _ rfl rfl _ _ hr4 (hK _ _ ?_)
                  clear hK K hr4 hic4
                  refine wpAny_take (i := 10) (v := ?va59) rfl (by kernel_rfl) (by kernel_rfl) (by kernel_rfl) (fun _ _ _ h => (by cases h.1)) (Or.inl ⟨by rfl, ?ha59⟩) ?ra59
                  case ha59 => (intro w; (go_simp <;> with_reducible rfl))
                  refine wpAny_ready (rs := [8]) (by kernel_rfl) (by simp) ?_
                  refine AllReady.cons rfl (fun K hK => ?_) AllReady.nil
                  have IC := RI.new (chN (grpG bs l k) vs m : Int)
                  have RI := RI.later (below_new X83 (Obj.cells #[Value.int IntKind.i64 (chN (grpG bs l k) vs m : Int)] 3))
                  go_simp
                  refine hK _ _ ?_
                  clear hK K
                  generalize World.alloc X83 (Obj.cells #[Value.int IntKind.i64 (chN (grpG bs l k) vs m : Int)] 3) = X84 at RI IC ⊢
                  refine wpAny_ready (rs := [9]) (by kernel_rfl) (by simp) ?_
                  refine AllReady.cons rfl (fun K hK => ?_) AllReady.nil
                  obtain ⟨o9, l9, c9, X85, hr9, RI, hic9⟩ := RI.swap.app _ _ IC.swap 25 (by rw [chG_length]; omega)
                  have RI := RI.swap
                  rw [if_pos (by rfl)]
                  refine Lib.wp_append_run _ (.tmp 63) (.tmp 65) _ _ rfl _ _ rfl rfl _ _ hr9 (hK _ _ ?_)
                  clear hK K hr9 hic9
                  refine wpAny_ready (rs := [11]) (by kernel_rfl) (by simp) ?_
                  refine AllReady.cons rfl (fun K hK => ?_) AllReady.nil
                  have hc := (rd_cells RI.heap).2.1
                  have hf := (rd_cells RI.heap).2.2.2.2.1
                  have RS := RI.store hSS
                  have hh := rd_put1 RI.heap (.slice o4 l4 c4)
                  have hc2 := (rd_cells hh).2.2.1
                  have hf2 := (rd_cells hh).2.2.2.2.2
                  go_simp
                  refine hK _ _ ?_
                  clear hK K hc hf
                  refine wpAny_take (i := 12) (v := ?va60) rfl (by kernel_rfl) (by kernel_rfl) (by kernel_rfl) (fun _ _ _ h => (by cases h.1)) (Or.inl ⟨by rfl, ?ha60⟩) ?ra60
                  case ha60 => (intro w; (go_simp <;> with_reducible rfl))
                  refine wpAny_ready (rs := [13]) (by kernel_rfl) (by simp) ?_
                  refine AllReady.cons rfl (fun K hK => ?_) AllReady.nil
                  go_simp
                  refine hK _ _ ?_
                  clear hK K hc2 hf2
                  refine wpAny_done (by kernel_rfl) ?_ _
                  exact ⟨rfl, rfl, rfl, fun i hi => (by match i, hi with | 0, _ | 1, _ | 2, _ | 3, _ | 4, _ | 5, _ | 6, _ | 7, _ | 8, _ | 9, _ | 10, _ | 11, _ | 12, _ | 13, _ | 14, _ | 15, _ | 16, _ | 17, _ | 18, _ | 19, _ | 20, _ | 21, _ | 22, _ | 23, _ | 24, _ | 25, _ | 26, _ | 27, _ | 28, _ | 29, _ | 30, _ | 31, _ | 32, _ | 33, _ | 34, _ => rfl | n + 35, h => exact absurd h (by omega)), fun i hi => (by match i, hi with | 0, _ | 1, _ | 2, _ | 3, _ | 4, _ | 5, _ | 6, _ | 7, _ | 8, _ | 9, _ | 10, _ | 11, _ | 12, _ | 13, _ => rfl | n + 14, h => exact absurd h (by omega)), _, _, RS⟩
                refine AllReady.cons rfl (fun K hK => ?_) AllReady.nil
                have IC := RI.new (chN (grpG bs l k) vs m : Int)
                have RI := RI.later (below_new X82 (Obj.cells #[Value.int IntKind.i64 (chN (grpG bs l k) vs m : Int)] 3))
                have IE := IE.later (below_new X82 (Obj.cells #[Value.int IntKind.i64 (chN (grpG bs l k) vs m : Int)] 3))
                go_simp
                refine hK _ _ ?_
                clear hK K
                generalize World.alloc X82 (Obj.cells #[Value.int IntKind.i64 (chN (grpG bs l k) vs m : Int)] 3) = X86 at RI IC IE ⊢
                refine wpAny_ready (rs := [4]) (by kernel_rfl) (by simp) ?_
                refine AllReady.cons rfl (fun K hK => ?_) AllReady.nil
                obtain ⟨o4, l4, c4, X87, hr4, RI, hic4⟩ := RI.app _ _ IE 25 (by rw [erG_length]; omega)
                have IC := hic4 _ _ IC
                rw [if_pos (by rfl)]
                refine Lib.wp_append_run _ (.tmp 58) (.tmp 60) _ _ rfl _ _ rfl rfl _ _ hr4 (hK _ _ ?_)
                clear hK K hr4 hic4
                refine wpAny_take (i := 10) (v := ?va61) rfl (by kernel_rfl) (by kernel_rfl) (by kernel_rfl) (fun _ _ _ h => (by cases h.1)) (Or.inl ⟨by rfl, ?ha61⟩) ?ra61
                case ha61 => (intro w; (go_simp <;> with_reducible rfl))
                refine wpAny_ready (rs := [9]) (by kernel_rfl) (by simp) ?_
                refine AllReady.cons rfl (fun K hK => ?_) AllReady.nil
                obtain ⟨o9, l9, c9, X88, hr9, RI, hic9⟩ := RI.swap.app _ _ IC.swap 25 (by rw [chG_length]; omega)
                have RI := RI.swap
                rw [if_pos (by rfl)]
                refine Lib.wp_append_run _ (.tmp 63) (.tmp 65) _ _ rfl _ _ rfl rfl _ _ hr9 (hK _ _ ?_)
                clear hK K hr9 hic9
                refine wpAny_ready (rs := [11]) (by kernel_rfl) (by simp) ?_
                refine AllReady.cons rfl (fun K hK => ?_) AllReady.nil
                have hc := (rd_cells RI.heap).2.1
                have hf := (rd_cells RI.heap).2.2.2.2.1
                have RS := RI.store hSS
                have hh := rd_put1 RI.heap (.slice o4 l4 c4)
                have hc2 := (rd_cells hh).2.2.1
                have hf2 := (rd_cells hh).2.2.2.2.2
                go_simp
                refine hK _ _ ?_
                clear hK K hc hf
                refine wpAny_take (i := 12) (v := ?va62) rfl (by kernel_rfl) (by kernel_rfl) (by kernel_rfl) (fun _ _ _ h => (by cases h.1)) (Or.inl ⟨by rfl, ?ha62⟩) ?ra62
                case ha62 => (intro w; (go_simp <;> with_reducible rfl))
                refine wpAny_ready (rs := [13]) (by kernel_rfl) (by simp) ?_
                refine AllReady.cons rfl (fun K hK => ?_) AllReady.nil
                go_simp
                refine hK _ _ ?_
                clear hK K hc2 hf2
                refine wpAny_done (by kernel_rfl) ?_ _
                exact ⟨rfl, rfl, rfl, fun i hi => (by match i, hi with | 0, _ | 1, _ | 2, _ | 3, _ | 4, _ | 5, _ | 6, _ | 7, _ | 8, _ | 9, _ | 10, _ | 11, _ | 12, _ | 13, _ | 14, _ | 15, _ | 16, _ | 17, _ | 18, _ | 19, _ | 20, _ | 21, _ | 22, _ | 23, _ | 24, _ | 25, _ | 26, _ | 27, _ | 28, _ | 29, _ | 30, _ | 31, _ | 32, _ | 33, _ | 34, _ => rfl | n + 35, h => exact absurd h (by omega)), fun i hi => (by match i, hi with | 0, _ | 1, _ | 2, _ | 3, _ | 4, _ | 5, _ | 6, _ | 7, _ | 8, _ | 9, _ | 10, _ | 11, _ | 12, _ | 13, _ => rfl | n + 14, h => exact absurd h (by omega)), _, _, RS⟩
              refine AllReady.cons rfl (fun K hK => ?_) AllReady.nil
              have IC := RI.new (chN (grpG bs l k) vs m : Int)
              have RI := RI.later (below_new X82 (Obj.cells #[Value.int IntKind.i64 (chN (grpG bs l k) vs m : Int)] 3))
              have IE := IE.later (below_new X82 (Obj.cells #[Value.int IntKind.i64 (chN (grpG bs l k) vs m : Int)] 3))
              go_simp
              refine hK _ _ ?_
              clear hK K
              generalize World.alloc X82 (Obj.cells #[Value.int IntKind.i64 (chN (grpG bs l k) vs m : Int)] 3) = X89 at RI IC IE ⊢
              refine wpAny_ready (rs := [1]) (by kernel_rfl) (by simp) ?_
              refine AllReady.cons rfl (fun K hK => ?_) AllReady.nil
              have hc := (rd_cells RI.heap).2.1
              go_simp
              refine hK _ _ ?_
              clear hK K hc
              refine wpAny_ready (rs := [4]) (by kernel_rfl) (by simp) ?_
              refine AllReady.cons rfl (fun K hK => ?_) AllReady.nil
              obtain ⟨o4, l4, c4, X90, hr4, RI, hic4⟩ := RI.app _ _ IE 25 (by rw [erG_length]; omega)
              have IC := hic4 _ _ IC
              rw [if_pos (by rfl)]
              refine Lib.wp_append_run _ (.tmp 58) (.tmp 60) _ _ rfl _ _ rfl rfl _ _ hr4 (hK _ _ ?_)
              clear hK K hr4 hic4
              refine wpAny_take (i := 10) (v := ?va63) rfl (by kernel_rfl) (by kernel_rfl) (by kernel_rfl) (fun _ _ _ h => (by cases h.1)) (Or.inl ⟨by rfl, ?ha63⟩) ?ra63
              case ha63 => (intro w; (go_simp <;> with_reducible rfl))
              refine wpAny_ready (rs := [9]) (by kernel_rfl) (by simp) ?_
              refine AllReady.cons rfl (fun K hK => ?_) AllReady.nil
              obtain ⟨o9, l9, c9, X91, hr9, RI, hic9⟩ := RI.swap.app _ _ IC.swap 25 (by rw [chG_length]; omega)
              have RI := RI.swap
              rw [if_pos (by rfl)]
              refine Lib.wp_append_run _ (.tmp 63) (.tmp 65) _ _ rfl _ _ rfl rfl _ _ hr9 (hK _ _ ?_)
              clear hK K hr9 hic9
              refine wpAny_ready (rs := [11]) (by kernel_rfl) (by simp) ?_
              refine AllReady.cons rfl (fun K hK => ?_) AllReady.nil
              have hc := (rd_cells RI.heap).2.1
              have hf := (rd_cells RI.heap).2.2.2.2.1
              have RS := RI.store hSS
              have hh := rd_put1 RI.heap (.slice o4 l4 c4)
              have hc2 := (rd_cells hh).2.2.1
              have hf2 := (rd_cells hh).2.2.2.2.2
              go_simp
              refine hK _ _ ?_
              clear hK K hc hf
              refine wpAny_take (i := 12) (v := ?va64) rfl (by kernel_rfl) (by kernel_rfl) (by kernel_rfl) (fun _ _ _ h => (by cases h.1)) (Or.inl ⟨by rfl, ?ha64⟩) ?ra64
              case ha64 => (intro w; (go_simp <;> with_reducible rfl))
              refine wpAny_ready (rs := [13]) (by kernel_rfl) (by simp) ?_
              refine AllReady.cons rfl (fun K hK => ?_) AllReady.nil
              go_simp
              refine hK _ _ ?_
              clear hK K hc2 hf2
              refine wpAny_done (by kernel_rfl) ?_ _
              exact ⟨rfl, rfl, rfl, fun i hi => (by match i, hi with | 0, _ | 1, _ | 2, _ | 3, _ | 4, _ | 5, _ | 6, _ | 7, _ | 8, _ | 9, _ | 10, _ | 11, _ | 12, _ | 13, _ | 14, _ | 15, _ | 16, _ | 17, _ | 18, _ | 19, _ | 20, _ | 21, _ | 22, _ | 23, _ | 24, _ | 25, _ | 26, _ | 27, _ | 28, _ | 29, _ | 30, _ | 31, _ | 32, _ | 33, _ | 34, _ => rfl | n + 35, h => exact absurd h (by omega)), fun i hi => (by match i, hi with | 0, _ | 1, _ | 2, _ | 3, _ | 4, _ | 5, _ | 6, _ | 7, _ | 8, _ | 9, _ | 10, _ | 11, _ | 12, _ | 13, _ => rfl | n + 14, h => exact absurd h (by omega)), _, _, RS⟩
            refine AllReady.cons rfl (fun K hK => ?_) AllReady.nil
            have IC := RI.new (chN (grpG bs l k) vs m : Int)
            have RI := RI.later (below_new X0 (Obj.cells #[Value.int IntKind.i64 (chN (grpG bs l k) vs m : Int)] 3))
            go_simp
            refine hK _ _ ?_
            clear hK K
            generalize World.alloc X0 (Obj.cells #[Value.int IntKind.i64 (chN (grpG bs l k) vs m : Int)] 3) = X92 at RI IC ⊢
            refine wpAny_ready (rs := [1, 3]) (by kernel_rfl) (by simp) ?_
            refine AllReady.cons rfl (fun K hK => ?_) ?_
            · have hc := (rd_cells RI.heap).2.1
              go_simp
              refine hK _ _ ?_
              clear hK K hc
              refine wpAny_ready (rs := [3]) (by kernel_rfl) (by simp) ?_
              refine AllReady.cons rfl (fun K hK => ?_) AllReady.nil
              have IE := RI.new ((gnL (grpG bs l k) m).length : Int)
              have RI := RI.later (below_new X92 (Obj.cells #[Value.int IntKind.i64 ((gnL (grpG bs l k) m).length : Int)] 3))
              have IC := IC.later (below_new X92 (Obj.cells #[Value.int IntKind.i64 ((gnL (grpG bs l k) m).length : Int)] 3))
              go_simp
              refine hK _ _ ?_
              clear hK K
              generalize World.alloc X92 (Obj.cells #[Value.int IntKind.i64 ((gnL (grpG bs l k) m).length : Int)] 3) = X93 at RI IE IC ⊢
              refine wpAny_ready (rs := [4]) (by kernel_rfl) (by simp) ?_
              refine AllReady.cons rfl (fun K hK => ?_) AllReady.nil
              obtain ⟨o4, l4, c4, X94, hr4, RI, hic4⟩ := RI.app _ _ IE 25 (by rw [erG_length]; omega)
              have IC := hic4 _ _ IC
              rw [if_pos (by rfl)]
              refine Lib.wp_append_run _ (.tmp 58) (.tmp 60) _ _ rfl _ _ rfl rfl _ _ hr4 (hK _ _ ?_)
              clear hK K hr4 hic4
              refine wpAny_take (i := 10) (v := ?va65) rfl (by kernel_rfl) (by kernel_rfl) (by kernel_rfl) (fun _ _ _ h => (by cases h.1)) (Or.inl ⟨by rfl, ?ha65⟩) ?ra65
              case ha65 => (intro w; (go_simp <;> with_reducible rfl))
              refine wpAny_ready (rs := [9]) (by kernel_rfl) (by simp) ?_
              refine AllReady.cons rfl (fun K hK => ?_) AllReady.nil
              obtain ⟨o9, l9, c9, X95, hr9, RI, hic9⟩ := RI.swap.app _ _ IC.swap 25 (by rw [chG_length]; omega)
              have RI := RI.swap
              rw [if_pos (by rfl)]
              refine Lib.wp_append_run _ (.tmp 63) (.tmp 65) _ _ rfl _ _ rfl rfl _ _ hr9 (hK _ _ ?_)
              clear hK K hr9 hic9
              refine wpAny_ready (rs := [11]) (by kernel_rfl) (by simp) ?_
              refine AllReady.cons rfl (fun K hK => ?_) AllReady.nil
              have hc := (rd_cells RI.heap).2.1
              have hf := (rd_cells RI.heap).2.2.2.2.1
              have RS := RI.store hSS
              have hh := rd_put1 RI.heap (.slice o4 l4 c4)
              have hc2 := (rd_cells hh).2.2.1
              have hf2 := (rd_cells hh).2.2.2.2.2
              go_simp
              refine hK _ _ ?_
              clear hK K hc hf
              refine wpAny_take (i := 12) (v := ?va66) rfl (by kernel_rfl) (by kernel_rfl) (by kernel_rfl) (fun _ _ _ h => (by cases h.1)) (Or.inl ⟨by rfl, ?ha66⟩) ?ra66
              case ha66 => (intro w; (go_simp <;> with_reducible rfl))
              refine wpAny_ready (rs := [13]) (by kernel_rfl) (by simp) ?_
              refine AllReady.cons rfl (fun K hK => ?_) AllReady.nil
              go_simp
              refine hK _ _ ?_
              clear hK K hc2 hf2
              refine wpAny_done (by kernel_rfl) ?_ _
              exact ⟨rfl, rfl, rfl, fun i hi => (by match i, hi with | 0, _ | 1, _ | 2, _ | 3, _ | 4, _ | 5, _ | 6, _ | 7, _ | 8, _ | 9, _ | 10, _ | 11, _ | 12, _ | 13, _ | 14, _ | 15, _ | 16, _ | 17, _ | 18, _ | 19, _ | 20, _ | 21, _ | 22, _ | 23, _ | 24, _ | 25, _ | 26, _ | 27, _ | 28, _ | 29, _ | 30, _ | 31, _ | 32, _ | 33, _ | 34, _ => rfl | n + 35, h => exact absurd h (by omega)), fun i hi => (by match i, hi with | 0, _ | 1, _ | 2, _ | 3, _ | 4, _ | 5, _ | 6, _ | 7, _ | 8, _ | 9, _ | 10, _ | 11, _ | 12, _ | 13, _ => rfl | n + 14, h => exact absurd h (by omega)), _, _, RS⟩
            refine AllReady.cons rfl (fun K hK => ?_) AllReady.nil
            have IE := RI.new ((gnL (grpG bs l k) m).length : Int)
            have RI := RI.later (below_new X92 (Obj.cells #[Value.int IntKind.i64 ((gnL (grpG bs l k) m).length : Int)] 3))
            have IC := IC.later (below_new X92 (Obj.cells #[Value.int IntKind.i64 ((gnL (grpG bs l k) m).length : Int)] 3))
            go_simp
            refine hK _ _ ?_
            clear hK K
            generalize World.alloc X92 (Obj.cells #[Value.int IntKind.i64 ((gnL (grpG bs l k) m).length : Int)] 3) = X96 at RI IE IC ⊢
            refine wpAny_ready (rs := [1]) (by kernel_rfl) (by simp) ?_
            refine AllReady.cons rfl (fun K hK => ?_) AllReady.nil
            have hc := (rd_cells RI.heap).2.1
            go_simp
            refine hK _ _ ?_
            clear hK K hc
            refine wpAny_ready (rs := [4]) (by kernel_rfl) (by simp) ?_
            refine AllReady.cons rfl (fun K hK => ?_) AllReady.nil
            obtain ⟨o4, l4, c4, X97, hr4, RI, hic4⟩ := RI.app _ _ IE 25 (by rw [erG_length]; omega)
            have IC := hic4 _ _ IC
            rw [if_pos (by rfl)]
            refine Lib.wp_append_run _ (.tmp 58) (.tmp 60) _ _ rfl _ _ rfl rfl _ _ hr4 (hK _ _ ?_)
            clear hK K hr4 hic4
            refine wpAny_take (i := 10) (v := ?va67) rfl (by kernel_rfl) (by kernel_rfl) (by kernel_rfl) (fun _ _ _ h => (by cases h.1)) (Or.inl ⟨by rfl, ?ha67⟩) ?ra67
            case ha67 => (intro w; (go_simp <;> with_reducible rfl))
            refine wpAny_ready (rs := [9]) (by kernel_rfl) (by simp) ?_
            refine AllReady.cons rfl (fun K hK => ?_) AllReady.nil
            obtain ⟨o9, l9, c9, X98, hr9, RI, hic9⟩ := RI.swap.app _ _ IC.swap 25 (by rw [chG_length]; omega)
            have RI := RI.swap
            rw [if_pos (by rfl)]
            refine Lib.wp_append_run _ (.tmp 63) (.tmp 65) _ _ rfl _ _ rfl rfl _ _ hr9 (hK _ _ ?_)
            clear hK K hr9 hic9
            refine wpAny_ready (rs := [11]) (by kernel_rfl) (by simp) ?_
            refine AllReady.cons rfl (fun K hK => ?_) AllReady.nil
            have hc := (rd_cells RI.heap).2.1
            have hf := (rd_cells RI.heap).2.2.2.2.1
            have RS := RI.store hSS
            have hh := rd_put1 RI.heap (.slice o4 l4 c4)
            have hc2 := (rd_cells hh).2.2.1
            have hf2 := (rd_cells hh).2.2.2.2.2
            go_simp
            refine hK _ _ ?_
            clear hK K hc hf
            refine wpAny_take (i := 12) (v := ?va68) rfl (by kernel_rfl) (by kernel_rfl) (by kernel_rfl) (fun _ _ _ h => (by cases h.1)) (Or.inl ⟨by rfl, ?ha68⟩) ?ra68
            case ha68 => (intro w; (go_simp <;> with_reducible rfl))
            refine wpAny_ready (rs := [13]) (by kernel_rfl) (by simp) ?_
            refine AllReady.cons rfl (fun K hK => ?_) AllReady.nil
            go_simp
            refine hK _ _ ?_
            clear hK K hc2 hf2
            refine wpAny_done (by kernel_rfl) ?_ _
            exact ⟨rfl, rfl, rfl, fun i hi => (by match i, hi with | 0, _ | 1, _ | 2, _ | 3, _ | 4, _ | 5, _ | 6, _ | 7, _ | 8, _ | 9, _ | 10, _ | 11, _ | 12, _ | 13, _ | 14, _ | 15, _ | 16, _ | 17, _ | 18, _ | 19, _ | 20, _ | 21, _ | 22, _ | 23, _ | 24, _ | 25, _ | 26, _ | 27, _ | 28, _ | 29, _ | 30, _ | 31, _ | 32, _ | 33, _ | 34, _ => rfl | n + 35, h => exact absurd h (by omega)), fun i hi => (by match i, hi with | 0, _ | 1, _ | 2, _ | 3, _ | 4, _ | 5, _ | 6, _ | 7, _ | 8, _ | 9, _ | 10, _ | 11, _ | 12, _ | 13, _ => rfl | n + 14, h => exact absurd h (by omega)), _, _, RS⟩
          refine AllReady.cons rfl (fun K hK => ?_) AllReady.nil
          have IC := RI.new (chN (grpG bs l k) vs m : Int)
          have RI := RI.later (below_new X0 (Obj.cells #[Value.int IntKind.i64 (chN (grpG bs l k) vs m : Int)] 3))
          go_simp
          refine hK _ _ ?_
          clear hK K
          generalize World.alloc X0 (Obj.cells #[Value.int IntKind.i64 (chN (grpG bs l k) vs m : Int)] 3) = X99 at RI IC ⊢
          refine wpAny_ready (rs := [1, 3, 6]) (by kernel_rfl) (by simp) ?_
          refine AllReady.cons rfl (fun K hK => ?_) ?_
          · have hc := (rd_cells RI.heap).2.1
            go_simp
            refine hK _ _ ?_
            clear hK K hc
            refine wpAny_ready (rs := [3, 6]) (by kernel_rfl) (by simp) ?_
            refine AllReady.cons rfl (fun K hK => ?_) ?_
            · have IE := RI.new ((gnL (grpG bs l k) m).length : Int)
              have RI := RI.later (below_new X99 (Obj.cells #[Value.int IntKind.i64 ((gnL (grpG bs l k) m).length : Int)] 3))
              have IC := IC.later (below_new X99 (Obj.cells #[Value.int IntKind.i64 ((gnL (grpG bs l k) m).length : Int)] 3))
              go_simp
              refine hK _ _ ?_
              clear hK K
              generalize World.alloc X99 (Obj.cells #[Value.int IntKind.i64 ((gnL (grpG bs l k) m).length : Int)] 3) = X100 at RI IE IC ⊢
              refine wpAny_ready (rs := [4, 6]) (by kernel_rfl) (by simp) ?_
              refine AllReady.cons rfl (fun K hK => ?_) ?_
              · obtain ⟨o4, l4, c4, X101, hr4, RI, hic4⟩ := RI.app _ _ IE 25 (by rw [erG_length]; omega)
                have IC := hic4 _ _ IC
                rw [if_pos (by rfl)]
                refine Lib.wp_append_run _ (.tmp 58) (.tmp 60) _ _ rfl _ _ rfl rfl _ _ hr4 (hK _ _ ?_)
                clear hK K hr4 hic4
                refine wpAny_ready (rs := [6]) (by kernel_rfl) (by simp) ?_
                refine AllReady.cons rfl (fun K hK => ?_) AllReady.nil
                have hc := (rd_cells RI.heap).2.2.1
                go_simp
                refine hK _ _ ?_
                clear hK K hc
                refine wpAny_take (i := 10) (v := ?va69) rfl (by kernel_rfl) (by kernel_rfl) (by kernel_rfl) (fun _ _ _ h => (by cases h.1)) (Or.inl ⟨by rfl, ?ha69⟩) ?ra69
                case ha69 => (intro w; (go_simp <;> with_reducible rfl))
                refine wpAny_ready (rs := [9]) (by kernel_rfl) (by simp) ?_
                refine AllReady.cons rfl (fun K hK => ?_) AllReady.nil
                obtain ⟨o9, l9, c9, X102, hr9, RI, hic9⟩ := RI.swap.app _ _ IC.swap 25 (by rw [chG_length]; omega)
                have RI := RI.swap
                rw [if_pos (by rfl)]
                refine Lib.wp_append_run _ (.tmp 63) (.tmp 65) _ _ rfl _ _ rfl rfl _ _ hr9 (hK _ _ ?_)
                clear hK K hr9 hic9
                refine wpAny_ready (rs := [11]) (by kernel_rfl) (by simp) ?_
                refine AllReady.cons rfl (fun K hK => ?_) AllReady.nil
                have hc := (rd_cells RI.heap).2.1
                have hf := (rd_cells RI.heap).2.2.2.2.1
                have RS := RI.store hSS
                have hh := rd_put1 RI.heap (.slice o4 l4 c4)
                have hc2 := (rd_cells hh).2.2.1
                have hf2 := (rd_cells hh).2.2.2.2.2
                go_simp
                refine hK _ _ ?_
                clear hK K hc hf
                refine wpAny_take (i := 12) (v := ?va70) rfl (by kernel_rfl) (by kernel_rfl) (by kernel_rfl) (fun _ _ _ h => (by cases h.1)) (Or.inl ⟨by rfl, ?ha70⟩) ?ra70
                case ha70 => (intro w; (go_simp <;> with_reducible rfl))
                refine wpAny_ready (rs := [13]) (by kernel_rfl) (by simp) ?_
                refine AllReady.cons rfl (fun K hK => ?_) AllReady.nil
                go_simp
                refine hK _ _ ?_
                clear hK K hc2 hf2
                refine wpAny_done (by kernel_rfl) ?_ _
                exact ⟨rfl, rfl, rfl, fun i hi => (by match i, hi with | 0, _ | 1, _ | 2, _ | 3, _ | 4, _ | 5, _ | 6, _ | 7, _ | 8, _ | 9, _ | 10, _ | 11, _ | 12, _ | 13, _ | 14, _ | 15, _ | 16, _ | 17, _ | 18, _ | 19, _ | 20, _ | 21, _ | 22, _ | 23, _ | 24, _ | 25, _ | 26, _ | 27, _ | 28, _ | 29, _ | 30, _ | 31, _ | 32, _ | 33, _ | 34, _ => rfl | n + 35, h => exact absurd h (by omega)), fun i hi => (by match i, hi with | 0, _ | 1, _ | 2, _ | 3, _ | 4, _ | 5, _ | 6, _ | 7, _ | 8, _ | 9, _ | 10, _ | 11, _ | 12, _ | 13, _ => rfl | n + 14, h => exact absurd h (by omega)), _, _, RS⟩
              refine AllReady.cons rfl (fun K hK => ?_) AllReady.nil
              have hc := (rd_cells RI.heap).2.2.1
              go_simp
              refine hK _ _ ?_
              clear hK K hc
              refine wpAny_ready (rs := [4]) (by kernel_rfl) (by simp) ?_
              refine AllReady.cons rfl (fun K hK => ?_) AllReady.nil
              obtain ⟨o4, l4, c4, X103, hr4, RI, hic4⟩ := RI.app _ _ IE 25 (by rw [erG_length]; omega)
              have IC := hic4 _ _ IC
              rw [if_pos (by rfl)]
              refine Lib.wp_append_run _ (.tmp 58) (.tmp 60) _ _ rfl _ _ rfl rfl _ _ hr4 (hK _ _ ?_)
              clear hK K hr4 hic4
              refine wpAny_take (i := 10) (v := ?va71) rfl (by kernel_rfl) (by kernel_rfl) (by kernel_rfl) (fun _ _ _ h => (by cases h.1)) (Or.inl ⟨by rfl, ?ha71⟩) ?ra71
              case ha71 => (intro w; (go_simp <;> with_reducible rfl))
              refine wpAny_ready (rs := [9]) (by kernel_rfl) (by simp) ?_
              refine AllReady.cons rfl (fun K hK => ?_) AllReady.nil
              obtain ⟨o9, l9, c9, X104, hr9, RI, hic9⟩ := RI.swap.app _ _ IC.swap 25 (by rw [chG_length]; omega)
              have RI := RI.swap
              rw [if_pos (by rfl)]
              refine Lib.wp_append_run _ (.tmp 63) (.tmp 65) _ _ rfl _ _ rfl rfl _ _ hr9 (hK _ _ ?_)
              clear hK K hr9 hic9
              refine wpAny_ready (rs := [11]) (by kernel_rfl) (by simp) ?_
              refine AllReady.cons rfl (fun K hK => ?_) AllReady.nil
              have hc := (rd_cells RI.heap).2.1
              have hf := (rd_cells RI.heap).2.2.2.2.1
              have RS := RI.store hSS
              have hh := rd_put1 RI.heap (.slice o4 l4 c4)
              have hc2 := (rd_cells hh).2.2.1
              have hf2 := (rd_cells hh).2.2.2.2.2
              go_simp
              refine hK _ _ ?_
              clear hK K hc hf
              refine wpAny_take (i := 12) (v := ?va72) rfl (by kernel_rfl) (by kernel_rfl) (by kernel_rfl) (fun _ _ _ h => (by cases h.1)) (Or.inl ⟨by rfl, ?ha72⟩) ?ra72
              case ha72 => (intro w; (go_simp <;> with_reducible rfl))
              refine wpAny_ready (rs := [13]) (by kernel_rfl) (by simp) ?_
              refine AllReady.cons rfl (fun K hK => ?_) AllReady.nil
              go_simp
              refine hK _ _ ?_
              clear hK K hc2 hf2
              refine wpAny_done (by kernel_rfl) ?_ _
              exact ⟨rfl, rfl, rfl, fun i hi => (by match i, hi with | 0, _ | 1, _ | 2, _ | 3, _ | 4, _ | 5, _ | 6, _ | 7, _ | 8, _ | 9, _ | 10, _ | 11, _ | 12, _ | 13, _ | 14, _ | 15, _ | 16, _ | 17, _ | 18, _ | 19, _ | 20, _ | 21, _ | 22, _ | 23, _ | 24, _ | 25, _ | 26, _ | 27, _ | 28, _ | 29, _ | 30, _ | 31, _ | 32, _ | 33, _ | 34, _ => rfl | n + 35, h => exact absurd h (by omega)), fun i hi => (by match i, hi with | 0, _ | 1, _ | 2, _ | 3, _ | 4, _ | 5, _ | 6, _ | 7, _ | 8, _ | 9, _ | 10, _ | 11, _ | 12, _ | 13, _ => rfl | n + 14, h => exact absurd h (by omega)), _, _, RS⟩
            refine AllReady.cons rfl (fun K hK => ?_) AllReady.nil
            have hc := (rd_cells RI.heap).2.2.1
            go_simp
            refine hK _ _ ?_
            clear hK K hc
            refine wpAny_ready (rs := [3]) (by kernel_rfl) (by simp) ?_
            refine AllReady.cons rfl (fun K hK => ?_) AllReady.nil
            have IE := RI.new ((gnL (grpG bs l k) m).length : Int)
            have RI := RI.later (below_new X99 (Obj.cells #[Value.int IntKind.i64 ((gnL (grpG bs l k) m).length : Int)] 3))
            have IC := IC.later (below_new X99 (Obj.cells #[Value.int IntKind.i64 ((gnL (grpG bs l k) m).length : Int)] 3))
            go_simp
            refine hK _ _ ?_
            clear hK K
            generalize World.alloc X99 (Obj.cells #[Value.int IntKind.i64 ((gnL (grpG bs l k) m).length : Int)] 3) = X105 at RI IE IC ⊢
            refine wpAny_ready (rs := [4]) (by kernel_rfl) (by simp) ?_
            refine AllReady.cons rfl (fun K hK => ?_) AllReady.nil
            obtain ⟨o4, l4, c4, X106, hr4, RI, hic4⟩ := RI.app _ _ IE 25 (by rw [erG_length]; omega)
            have IC := hic4 _ _ IC
            rw [if_pos (by rfl)]
            refine Lib.wp_append_run _ (.tmp 58) (.tmp 60) _ _ rfl _ _ rfl rfl _ _ hr4 (hK _ _ ?_)
            clear hK K hr4 hic4
            refine wpAny_take (i := 10) (v := ?va73) rfl (by kernel_rfl) (by kernel_rfl) (by kernel_rfl) (fun _ _ _ h => (by cases h.1)) (Or.inl ⟨by rfl, ?ha73⟩) ?ra73
            case ha73 => (intro w; (go_simp <;> with_reducible rfl))
            refine wpAny_ready (rs := [9]) (by kernel_rfl) (by simp) ?_
            refine AllReady.cons rfl (fun K hK => ?_) AllReady.nil
            obtain ⟨o9, l9, c9, X107, hr9, RI, hic9⟩ := RI.swap.app _ _ IC.swap 25 (by rw [chG_length]; omega)
            have RI := RI.swap
            rw [if_pos (by rfl)]
            refine Lib.wp_append_run _ (.tmp 63) (.tmp 65) _ _ rfl _ _ rfl rfl _ _ hr9 (hK _ _ ?_)
            clear hK K hr9 hic9
            refine wpAny_ready (rs := [11]) (by kernel_rfl) (by simp) ?_
            refine AllReady.cons rfl (fun K hK => ?_) AllReady.nil
            have hc := (rd_cells RI.heap).2.1
            have hf := (rd_cells RI.heap).2.2.2.2.1
            have RS := RI.store hSS
            have hh := rd_put1 RI.heap (.slice o4 l4 c4)
            have hc2 := (rd_cells hh).2.2.1
            have hf2 := (rd_cells hh).2.2.2.2.2
            go_simp
            refine hK _ _ ?_
            clear hK K hc hf
            refine wpAny_take (i := 12) (v := ?va74) rfl (by kernel_rfl) (by kernel_rfl) (by kernel_rfl) (fun _ _ _ h => (by cases h.1)) (Or.inl ⟨by rfl, ?ha74⟩) ?ra74
            case ha74 => (intro w; (go_simp <;> with_reducible rfl))
            refine wpAny_ready (rs := [13]) (by kernel_rfl) (by simp) ?_
            refine AllReady.cons rfl (fun K hK => ?_) AllReady.nil
            go_simp
            refine hK _ _ ?_
            clear hK K hc2 hf2
            refine wpAny_done (by kernel_rfl) ?_ _
            exact ⟨rfl, rfl, rfl, fun i hi => (by match i, hi with | 0, _ | 1, _ | 2, _ | 3, _ | 4, _ | 5, _ | 6, _ | 7, _ | 8, _ | 9, _ | 10, _ | 11, _ | 12, _ | 13, _ | 14, _ | 15, _ | 16, _ | 17, _ | 18, _ | 19, _ | 20, _ | 21, _ | 22, _ | 23, _ | 24, _ | 25, _ | 26, _ | 27, _ | 28, _ | 29, _ | 30, _ | 31, _ | 32, _ | 33, _ | 34, _ => rfl | n + 35, h => exact absurd h (by omega)), fun i hi => (by match i, hi with | 0, _ | 1, _ | 2, _ | 3, _ | 4, _ | 5, _ | 6, _ | 7, _ | 8, _ | 9, _ | 10, _ | 11, _ | 12, _ | 13, _ => rfl | n + 14, h => exact absurd h (by omega)), _, _, RS⟩
          refine AllReady.cons rfl (fun K hK => ?_) ?_
          · have IE := RI.new ((gnL (grpG bs l k) m).length : Int)
            have RI := RI.later (below_new X99 (Obj.cells #[Value.int IntKind.i64 ((gnL (grpG bs l k) m).length : Int)] 3))
            have IC := IC.later (below_new X99 (Obj.cells #[Value.int IntKind.i64 ((gnL (grpG bs l k) m).length : Int)] 3))
            go_simp
            refine hK _ _ ?_
            clear hK K
            generalize World.alloc X99 (Obj.cells #[Value.int IntKind.i64 ((gnL (grpG bs l k) m).length : Int)] 3) = X108 at RI IE IC ⊢
            refine wpAny_ready (rs := [1, 6]) (by kernel_rfl) (by simp) ?_
            refine AllReady.cons rfl (fun K hK => ?_) ?_
            · have hc := (rd_cells RI.heap).2.1
              go_simp
              refine hK _ _ ?_
              clear hK K hc
              refine wpAny_ready (rs := [4, 6]) (by kernel_rfl) (by simp) ?_
              refine AllReady.cons rfl (fun K hK => ?_) ?_
              · obtain ⟨o4, l4, c4, X109, hr4, RI, hic4⟩ := RI.app _ _ IE 25 (by rw [erG_length]; omega)
                have IC := hic4 _ _ IC
                rw [if_pos (by rfl)]
                refine Lib.wp_append_run _ (.tmp 58) (.tmp 60) _ _ rfl _ _ rfl rfl _ _ hr4 (hK _ _ ?_)
                clear hK K hr4 hic4
                refine wpAny_ready (rs := [6]) (by kernel_rfl) (by simp) ?_
                refine AllReady.cons rfl (fun K hK => ?_) AllReady.nil
                have hc := (rd_cells RI.heap).2.2.1
                go_simp
                refine hK _ _ ?_
                clear hK K hc
                refine wpAny_take (i := 10) (v := ?va75) rfl (by kernel_rfl) (by kernel_rfl) (by kernel_rfl) (fun _ _ _ h => (by cases h.1)) (Or.inl ⟨by rfl, ?ha75⟩) ?ra75
                case ha75 => (intro w; (go_simp <;> with_reducible rfl))
                refine wpAny_ready (rs := [9]) (by kernel_rfl) (by simp) ?_
                refine AllReady.cons rfl (fun K hK => ?_) AllReady.nil
                obtain ⟨o9, l9, c9, X110, hr9, RI, hic9⟩ := RI.swap.app _ _ IC.swap 25 (by rw [chG_length]; omega)
                have RI := RI.swap
                rw [if_pos (by rfl)]
                refine Lib.wp_append_run _ (.tmp 63) (.tmp 65) _ _ rfl _ _ rfl rfl _ _ hr9 (hK _ _ ?_)
                clear hK K hr9 hic9
                refine wpAny_ready (rs := [11]) (by kernel_rfl) (by simp) ?_
                refine AllReady.cons rfl (fun K hK => ?_) AllReady.nil
                have hc := (rd_cells RI.heap).2.1
                have hf := (rd_cells RI.heap).2.2.2.2.1
                have RS := RI.store hSS
                have hh := rd_put1 RI.heap (.slice o4 l4 c4)
                have hc2 := (rd_cells hh).2.2.1
                have hf2 := (rd_cells hh).2.2.2.2.2
                go_simp
                refine hK _ _ ?_
                clear hK K hc hf
                refine wpAny_take (i := 12) (v := ?va76) rfl (by kernel_rfl) (by kernel_rfl) (by kernel_rfl) (fun _ _ _ h => (by cases h.1)) (Or.inl ⟨by rfl, ?ha76⟩) ?ra76
                case ha76 => (intro w; (go_simp <;> with_reducible rfl))
                refine wpAny_ready (rs := [13]) (by kernel_rfl) (by simp) ?_
                refine AllReady.cons rfl (fun K hK => ?_) AllReady.nil
                go_simp
                refine hK _ _ ?_
                clear hK K hc2 hf2
                refine wpAny_done (by kernel_rfl) ?_ _
                exact ⟨rfl, rfl, rfl, fun i hi => (by match i, hi with | 0, _ | 1, _ | 2, _ | 3, _ | 4, _ | 5, _ | 6, _ | 7, _ | 8, _ | 9, _ | 10, _ | 11, _ | 12, _ | 13, _ | 14, _ | 15, _ | 16, _ | 17, _ | 18, _ | 19, _ | 20, _ | 21, _ | 22, _ | 23, _ | 24, _ | 25, _ | 26, _ | 27, _ | 28, _ | 29, _ | 30, _ | 31, _ | 32, _ | 33, _ | 34, _ => rfl | n + 35, h => exact absurd h (by omega)), fun i hi => (by match i, hi with | 0, _ | 1, _ | 2, _ | 3, _ | 4, _ | 5, _ | 6, _ | 7, _ | 8, _ | 9, _ | 10, _ | 11, _ | 12, _ | 13, _ => rfl | n + 14, h => exact absurd h (by omega)), _, _, RS⟩
              refine AllReady.cons rfl (fun K hK => ?_) AllReady.nil
              have hc := (rd_cells RI.heap).2.2.1
              go_simp
              refine hK _ _ ?_
              clear hK K hc
              refine wpAny_ready (rs := [4]) (by kernel_rfl) (by simp) ?_
              refine AllReady.cons rfl (fun K hK => ?_) AllReady.nil
              obtain ⟨o4, l4, c4, X111, hr4, RI, hic4⟩ := RI.app _ _ IE 25 (by rw [erG_length]; omega)
              have IC := hic4 _ _ IC
              rw [if_pos (by rfl)]
              refine Lib.wp_append_run _ (.tmp 58) (.tmp 60) _ _ rfl _ _ rfl rfl _ _ hr4 (hK _ _ ?_)
              clear hK K hr4 hic4
              refine wpAny_take (i := 10) (v := ?va77) rfl (by kernel_rfl) (by kernel_rfl) (by kernel_rfl) (fun _ _ _ h => (by cases h.1)) (Or.inl ⟨by rfl, ?ha77⟩) ?ra77
              case ha77 => (intro w; (go_simp <;> with_reducible rfl))
              refine wpAny_ready (rs := [9]) (by kernel_rfl) (by simp) ?_
              refine AllReady.cons rfl (fun K hK => ?_) AllReady.nil
              obtain ⟨o9, l9, c9, X112, hr9, RI, hic9⟩ := RI.swap.app _ _ IC.swap 25 (by rw [chG_length]; omega)
              have RI := RI.swap
              rw [if_pos (by rfl)]
              refine Lib.wp_append_run _ (.tmp 63) (.tmp 65) _ _ rfl _ _ rfl rfl _ _ hr9 (hK _ _ ?_)
              clear hK K hr9 hic9
              refine wpAny_ready (rs := [11]) (by kernel_rfl) (by simp) ?_
              refine AllReady.cons rfl (fun K hK => ?_) AllReady.nil
              have hc := (rd_cells RI.heap).2.1
              have hf := (rd_cells RI.heap).2.2.2.2.1
              have RS := RI.store hSS
              have hh := rd_put1 RI.heap (.slice o4 l4 c4)
              have hc2 := (rd_cells hh).2.2.1
              have hf2 := (rd_cells hh).2.2.2.2.2
              go_simp
              refine hK _ _ ?_
              clear hK K hc hf
              refine wpAny_take (i := 12) (v := ?va78) rfl (by kernel_rfl) (by kernel_rfl) (by kernel_rfl) (fun _ _ _ h => (by cases h.1)) (Or.inl ⟨by rfl, ?ha78⟩) ?ra78
              case ha78 => (intro w; (go_simp <;> with_reducible rfl))
              refine wpAny_ready (rs := [13]) (by kernel_rfl) (by simp) ?_
              refine AllReady.cons rfl (fun K hK => ?_) AllReady.nil
              go_simp
              refine hK _ _ ?_
              clear hK K hc2 hf2
              refine wpAny_done (by kernel_rfl) ?_ _
              exact ⟨rfl, rfl, rfl, fun i hi => (by match i, hi with | 0, _ | 1, _ | 2, _ | 3, _ | 4, _ | 5, _ | 6, _ | 7, _ | 8, _ | 9, _ | 10, _ | 11, _ | 12, _ | 13, _ | 14, _ | 15, _ | 16, _ | 17, _ | 18, _ | 19, _ | 20, _ | 21, _ | 22, _ | 23, _ | 24, _ | 25, _ | 26, _ | 27, _ | 28, _ | 29, _ | 30, _ | 31, _ | 32, _ | 33, _ | 34, _ => rfl | n + 35, h => exact absurd h (by omega)), fun i hi => (by match i, hi with | 0, _ | 1, _ | 2, _ | 3, _ | 4, _ | 5, _ | 6, _ | 7, _ | 8, _ | 9, _ | 10, _ | 11, _ | 12, _ | 13, _ => rfl | n + 14, h => exact absurd h (by omega)), _, _, RS⟩
            refine AllReady.cons rfl (fun K hK => ?_) AllReady.nil
            have hc := (rd_cells RI.heap).2.2.1
            go_simp
            refine hK _ _ ?_
            clear hK K hc
            refine wpAny_ready (rs := [1]) (by kernel_rfl) (by simp) ?_
            refine AllReady.cons rfl (fun K hK => ?_) AllReady.nil
            have hc := (rd_cells RI.heap).2.1
            go_simp
            refine hK _ _ ?_
            clear hK K hc
            refine wpAny_ready (rs := [4]) (by kernel_rfl) (by simp) ?_
            refine AllReady.cons rfl (fun K hK => ?_) AllReady.nil
            obtain ⟨o4, l4, c4, X113, hr4, RI, hic4⟩ := RI.app _ _ IE 25 (by rw [erG_length]; omega)
            have IC := hic4 _ _ IC
            rw [if_pos (by rfl)]
            refine Lib.wp_append_run _ (.tmp 58) (.tmp 60) _ _ rfl _ _ rfl rfl _ _ hr4 (hK _ _ ?_)
            clear hK K hr4 hic4
            refine wpAny_take (i := 10) (v := ?va79) rfl (by kernel_rfl) (by kernel_rfl) (by kernel_rfl) (fun _ _ _ h => (by cases h.1)) (Or.inl ⟨by rfl, ?ha79⟩) ?ra79
            case ha79 => (intro w; (go_simp <;> with_reducible rfl))
            refine wpAny_ready (rs := [9]) (by kernel_rfl) (by simp) ?_
            refine AllReady.cons rfl (fun K hK => ?_) AllReady.nil
            obtain ⟨o9, l9, c9, X114, hr9, RI, hic9⟩ := RI.swap.app _ _ IC.swap 25 (by rw [chG_length]; omega)
            have RI := RI.swap
            rw [if_pos (by rfl)]
            refine Lib.wp_append_run _ (.tmp 63) (.tmp 65) _ _ rfl _ _ rfl rfl _ _ hr9 (hK _ _ ?_)
            clear hK K hr9 hic9
            refine wpAny_ready (rs := [11]) (by kernel_rfl) (by simp) ?_
            refine AllReady.cons rfl (fun K hK => ?_) AllReady.nil
            have hc := (rd_cells RI.heap).2.1
            have hf := (rd_cells RI.heap).2.2.2.2.1
            have RS := RI.store hSS
            have hh := rd_put1 RI.heap (.slice o4 l4 c4)
            have hc2 := (rd_cells hh).2.2.1
            have hf2 := (rd_cells hh).2.2.2.2.2
            go_simp
            refine hK _ _ ?_
            clear hK K hc hf
            refine wpAny_take (i := 12) (v := ?va80) rfl (by kernel_rfl) (by kernel_rfl) (by kernel_rfl) (fun _ _ _ h => (by cases h.1)) (Or.inl ⟨by rfl, ?ha80⟩) ?ra80
            case ha80 => (intro w; (go_simp <;> with_reducible rfl))
            refine wpAny_ready (rs := [13]) (by kernel_rfl) (by simp) ?_
            refine AllReady.cons rfl (fun K hK => ?_) AllReady.nil
            go_simp
            refine hK _ _ ?_
            clear hK K hc2 hf2
            refine wpAny_done (by kernel_rfl) ?_ _
            exact ⟨rfl, rfl, rfl, fun i hi => (by match i, hi with | 0, _ | 1, _ | 2, _ | 3, _ | 4, _ | 5, _ | 6, _ | 7, _ | 8, _ | 9, _ | 10, _ | 11, _ | 12, _ | 13, _ | 14, _ | 15, _ | 16, _ | 17, _ | 18, _ | 19, _ | 20, _ | 21, _ | 22, _ | 23, _ | 24, _ | 25, _ | 26, _ | 27, _ | 28, _ | 29, _ | 30, _ | 31, _ | 32, _ | 33, _ | 34, _ => rfl | n + 35, h => exact absurd h (by omega)), fun i hi => (by match i, hi with | 0, _ | 1, _ | 2, _ | 3, _ | 4, _ | 5, _ | 6, _ | 7, _ | 8, _ | 9, _ | 10, _ | 11, _ | 12, _ | 13, _ => rfl | n + 14, h => exact absurd h (by omega)), _, _, RS⟩
          refine AllReady.cons rfl (fun K hK => ?_) AllReady.nil
          have hc := (rd_cells RI.heap).2.2.1
          go_simp
          refine hK _ _ ?_
          clear hK K hc
          refine wpAny_ready (rs := [1, 3]) (by kernel_rfl) (by simp) ?_
          refine AllReady.cons rfl (fun K hK => ?_) ?_
          · have hc := (rd_cells RI.heap).2.1
            go_simp
            refine hK _ _ ?_
            clear hK K hc
            refine wpAny_ready (rs := [3]) (by kernel_rfl) (by simp) ?_
            refine AllReady.cons rfl (fun K hK => ?_) AllReady.nil
            have IE := RI.new ((gnL (grpG bs l k) m).length : Int)
            have RI := RI.later (below_new X99 (Obj.cells #[Value.int IntKind.i64 ((gnL (grpG bs l k) m).length : Int)] 3))
            have IC := IC.later (below_new X99 (Obj.cells #[Value.int IntKind.i64 ((gnL (grpG bs l k) m).length : Int)] 3))
            go_simp
            refine hK _ _ ?_
            clear hK K
            generalize World.alloc X99 (Obj.cells #[Value.int IntKind.i64 ((gnL (grpG bs l k) m).length : Int)] 3) = X115 at RI IE IC ⊢
            refine wpAny_ready (rs := [4]) (by kernel_rfl) (by simp) ?_
            refine AllReady.cons rfl (fun K hK => ?_) AllReady.nil
            obtain ⟨o4, l4, c4, X116, hr4, RI, hic4⟩ := RI.app _ _ IE 25 (by rw [erG_length]; omega)
            have IC := hic4 _ _ IC
            rw [if_pos (by rfl)]
            refine Lib.wp_append_run _ (.tmp 58) (.tmp 60) _ _ rfl _ _ rfl rfl _ _ hr4 (hK _ _ ?_)
            clear hK K hr4 hic4
            refine wpAny_take (i := 10) (v := ?va81) rfl (by kernel_rfl) (by kernel_rfl) (by kernel_rfl) (fun _ _ _ h => (by cases h.1)) (Or.inl ⟨by rfl, ?ha81⟩) ?ra81
            case ha81 => (intro w; (go_simp <;> with_reducible rfl))
            refine wpAny_ready (rs := [9]) (by kernel_rfl) (by simp) ?_
            refine AllReady.cons rfl (fun K hK => ?_) AllReady.nil
            obtain ⟨o9, l9, c9, X117, hr9, RI, hic9⟩ := RI.swap.app _ _ IC.swap 25 (by rw [chG_length]; omega)
            have RI := RI.swap
            rw [if_pos (by rfl)]
            refine Lib.wp_append_run _ (.tmp 63) (.tmp 65) _ _ rfl _ _ rfl rfl _ _ hr9 (hK _ _ ?_)
            clear hK K hr9 hic9
            refine wpAny_ready (rs := [11]) (by kernel_rfl) (by simp) ?_
            refine AllReady.cons rfl (fun K hK => ?_) AllReady.nil
            have hc := (rd_cells RI.heap).2.1
            have hf := (rd_cells RI.heap).2.2.2.2.1
            have RS := RI.store hSS
            have hh := rd_put1 RI.heap (.slice o4 l4 c4)
            have hc2 := (rd_cells hh).2.2.1
            have hf2 := (rd_cells hh).2.2.2.2.2
            go_simp
            refine hK _ _ ?_
            clear hK K hc hf
            refine wpAny_take (i := 12) (v := ?va82) rfl (by kernel_rfl) (by kernel_rfl) (by kernel_rfl) (fun _ _ _ h => (by cases h.1)) (Or.inl ⟨by rfl, ?ha82⟩) ?ra82
            case ha82 => (intro w; (go_simp <;> with_reducible rfl))
            refine wpAny_ready (rs := [13]) (by kernel_rfl) (by simp) ?_
            refine AllReady.cons rfl (fun K hK => ?_) AllReady.nil
            go_simp
            refine hK _ _ ?_
            clear hK K hc2 hf2
            refine wpAny_done (by kernel_rfl) ?_ _
            exact ⟨rfl, rfl, rfl, fun i hi => (by match i, hi with | 0, _ | 1, _ | 2, _ | 3, _ | 4, _ | 5, _ | 6, _ | 7, _ | 8, _ | 9, _ | 10, _ | 11, _ | 12, _ | 13, _ | 14, _ | 15, _ | 16, _ | 17, _ | 18, _ | 19, _ | 20, _ | 21, _ | 22, _ | 23, _ | 24, _ | 25, _ | 26, _ | 27, _ | 28, _ | 29, _ | 30, _ | 31, _ | 32, _ | 33, _ | 34, _ => rfl | n + 35, h => exact absurd h (by omega)), fun i hi => (by match i, hi with | 0, _ | 1, _ | 2, _ | 3, _ | 4, _ | 5, _ | 6, _ | 7, _ | 8, _ | 9, _ | 10, _ | 11, _ | 12, _ | 13, _ => rfl | n + 14, h => exact absurd h (by omega)), _, _, RS⟩
          refine AllReady.cons rfl (fun K hK => ?_) AllReady.nil
          have IE := RI.new ((gnL (grpG bs l k) m).length : Int)
          have RI := RI.later (below_new X99 (Obj.cells #[Value.int IntKind.i64 ((gnL (grpG bs l k) m).length : Int)] 3))
          have IC := IC.later (below_new X99 (Obj.cells #[Value.int IntKind.i64 ((gnL (grpG bs l k) m).length : Int)] 3))
          go_simp
          refine hK _ _ ?_
          clear hK K
          generalize World.alloc X99 (Obj.cells #[Value.int IntKind.i64 ((gnL (grpG bs l k) m).length : Int)] 3) = X118 at RI IE IC ⊢
          refine wpAny_ready (rs := [1]) (by kernel_rfl) (by simp) ?_
          refine AllReady.cons rfl (fun K hK => ?_) AllReady.nil
          have hc := (rd_cells RI.heap).2.1
          go_simp
          refine hK _ _ ?_
          clear hK K hc
          refine wpAny_ready (rs := [4]) (by kernel_rfl) (by simp) ?_
          refine AllReady.cons rfl (fun K hK => ?_) AllReady.nil
          obtain ⟨o4, l4, c4, X119, hr4, RI, hic4⟩ := RI.app _ _ IE 25 (by rw [erG_length]; omega)
          have IC := hic4 _ _ IC
          rw [if_pos (by rfl)]
          refine Lib.wp_append_run _ (.tmp 58) (.tmp 60) _ _ rfl _ _ rfl rfl _ _ hr4 (hK _ _ ?_)
          clear hK K hr4 hic4
          refine wpAny_take (i := 10) (v := ?va83) rfl (by kernel_rfl) (by kernel_rfl) (by kernel_rfl) (fun _ _ _ h => (by cases h.1)) (Or.inl ⟨by rfl, ?ha83⟩) ?ra83
          case ha83 => (intro w; (go_simp <;> with_reducible rfl))
          refine wpAny_ready (rs := [9]) (by kernel_rfl) (by simp) ?_
          refine AllReady.cons rfl (fun K hK => ?_) AllReady.nil
          obtain ⟨o9, l9, c9, X120, hr9, RI, hic9⟩ := RI.swap.app _ _ IC.swap 25 (by rw [chG_length]; omega)
          have RI := RI.swap
          rw [if_pos (by rfl)]
          refine Lib.wp_append_run _ (.tmp 63) (.tmp 65) _ _ rfl _ _ rfl rfl _ _ hr9 (hK _ _ ?_)
          clear hK K hr9 hic9
          refine wpAny_ready (rs := [11]) (by kernel_rfl) (by simp) ?_
          refine AllReady.cons rfl (fun K hK => ?_) AllReady.nil
          have hc := (rd_cells RI.heap).2.1
          have hf := (rd_cells RI.heap).2.2.2.2.1
          have RS := RI.store hSS
          have hh := rd_put1 RI.heap (.slice o4 l4 c4)
          have hc2 := (rd_cells hh).2.2.1
          have hf2 := (rd_cells hh).2.2.2.2.2
          go_simp
          refine hK _ _ ?_
          clear hK K hc hf
          refine wpAny_take (i := 12) (v := ?va84) rfl (by kernel_rfl) (by kernel_rfl) (by kernel_rfl) (fun _ _ _ h => (by cases h.1)) (Or.inl ⟨by rfl, ?ha84⟩) ?ra84
          case ha84 => (intro w; (go_simp <;> with_reducible rfl))
          refine wpAny_ready (rs := [13]) (by kernel_rfl) (by simp) ?_
          refine AllReady.cons rfl (fun K hK => ?_) AllReady.nil
          go_simp
          refine hK _ _ ?_
          clear hK K hc2 hf2
          refine wpAny_done (by kernel_rfl) ?_ _
          exact ⟨rfl, rfl, rfl, fun i hi => (by match i, hi with | 0, _ | 1, _ | 2, _ | 3, _ | 4, _ | 5, _ | 6, _ | 7, _ | 8, _ | 9, _ | 10, _ | 11, _ | 12, _ | 13, _ | 14, _ | 15, _ | 16, _ | 17, _ | 18, _ | 19, _ | 20, _ | 21, _ | 22, _ | 23, _ | 24, _ | 25, _ | 26, _ | 27, _ | 28, _ | 29, _ | 30, _ | 31, _ | 32, _ | 33, _ | 34, _ => rfl | n + 35, h => exact absurd h (by omega)), fun i hi => (by match i, hi with | 0, _ | 1, _ | 2, _ | 3, _ | 4, _ | 5, _ | 6, _ | 7, _ | 8, _ | 9, _ | 10, _ | 11, _ | 12, _ | 13, _ => rfl | n + 14, h => exact absurd h (by omega)), _, _, RS⟩
        case rest15 =>
          clear RI0
          rintro e15 ⟨tm15, df15⟩ w6 ⟨rfl, hd15, hs15, hk15, hu15, vE1, vC1, hri⟩
          dsimp only at hd15 hs15 hk15 hu15
          subst hd15
          have e0 : tm15.getD 0 undef = .slice (some ⟨b0, off0, none⟩) r c0 := hk15 0 (by omega)
          have e1 : tm15.getD 1 undef = .int .i64 (n : Int) := hk15 1 (by omega)
          have e2 : tm15.getD 2 undef = undef := hk15 2 (by omega)
          have e3 : tm15.getD 3 undef = undef := hk15 3 (by omega)
          have e4 : tm15.getD 4 undef = .pointer (some ⟨w.heap.size, 0, none⟩) := hk15 4 (by omega)
          have e6 : tm15.getD 6 undef = .slice (some ⟨b1, off1, none⟩) l.length c1 := hk15 6 (by omega)
          have e7 : tm15.getD 7 undef = .nilIface := hk15 7 (by omega)
          have e8 : tm15.getD 8 undef = .pointer (some ⟨S, 0, none⟩) := hk15 8 (by omega)
          have e9 : tm15.getD 9 undef = undef := hk15 9 (by omega)
          have e10 : tm15.getD 10 undef = .int .i64 (s : Int) := hk15 10 (by omega)
          have e12 : tm15.getD 12 undef = .slice (some ⟨gO, 0, none⟩) m m := hk15 12 (by omega)
          have e16 : tm15.getD 16 undef = .tuple #[.slice (some ⟨b1, off1, none⟩) l.length c1, .nilIface] := hk15 16 (by omega)
          have e17 : tm15.getD 17 undef = .int .i64 (n : Int) := hk15 17 (by omega)
          have e18 : tm15.getD 18 undef = .tuple #[.slice (some ⟨b1, off1, none⟩) l.length c1, .nilIface] := hk15 18 (by omega)
          have e19 : tm15.getD 19 undef = .slice (some ⟨b1, off1, none⟩) l.length c1 := hk15 19 (by omega)
          have e20 : tm15.getD 20 undef = .nilIface := hk15 20 (by omega)
          have e21 : tm15.getD 21 undef = .nilIface := hk15 21 (by omega)
          have e22 : tm15.getD 22 undef = .bool false := hk15 22 (by omega)
          have e23 : tm15.getD 23 undef = undef := hk15 23 (by omega)
          have e24 : tm15.getD 24 undef = undef := hk15 24 (by omega)
          have e25 : tm15.getD 25 undef = .slice o N c := hk15 25 (by omega)
          have e26 : tm15.getD 26 undef = .int .i64 (N : Int) := hk15 26 (by omega)
          have e27 : tm15.getD 27 undef = .slice (some ⟨b1, off1, none⟩) l.length c1 := hk15 27 (by omega)
          have e28 : tm15.getD 28 undef = .int .i64 (N : Int) := hk15 28 (by omega)
          have e29 : tm15.getD 29 undef = .bool false := hk15 29 (by omega)
          have e30 : tm15.getD 30 undef = undef := hk15 30 (by omega)
          have e31 : tm15.getD 31 undef = undef := hk15 31 (by omega)
          have e32 : tm15.getD 32 undef = .slice (some ⟨b1, off1, none⟩) l.length c1 := hk15 32 (by omega)
          have e33 : tm15.getD 33 undef = .int .i64 (l.length : Int) := hk15 33 (by omega)
          have e34 : tm15.getD 34 undef = .int .i64 (k : Int) := hk15 34 (by omega)
          have e82 : tm15.getD 82 undef = undef := hu15 0 (by omega)
          have e83 : tm15.getD 83 undef = undef := hu15 1 (by omega)
          have e84 : tm15.getD 84 undef = undef := hu15 2 (by omega)
          have e85 : tm15.getD 85 undef = undef := hu15 3 (by omega)
          have e86 : tm15.getD 86 undef = undef := hu15 4 (by omega)
          have e87 : tm15.getD 87 undef = undef := hu15 5 (by omega)
          have e88 : tm15.getD 88 undef = undef := hu15 6 (by omega)
          have e89 : tm15.getD 89 undef = undef := hu15 7 (by omega)
          have e90 : tm15.getD 90 undef = undef := hu15 8 (by omega)
          have e91 : tm15.getD 91 undef = undef := hu15 9 (by omega)
          have e92 : tm15.getD 92 undef = undef := hu15 10 (by omega)
          have e93 : tm15.getD 93 undef = undef := hu15 11 (by omega)
          have e94 : tm15.getD 94 undef = undef := hu15 12 (by omega)
          have e95 : tm15.getD 95 undef = undef := hu15 13 (by omega)
          have e15 := lit_of tm15 96 hs15
          obtain ⟨f, hf⟩ : ∃ f : Nat → Value, (fun i => tm15.getD i undef) = f := ⟨_, rfl⟩
          have e16 : tm15 = #[.slice (some ⟨b0, off0, none⟩) r c0, .int .i64 (n : Int), undef, undef, .pointer (some ⟨w.heap.size, 0, none⟩), f 5, .slice (some ⟨b1, off1, none⟩) l.length c1, .nilIface, .pointer (some ⟨S, 0, none⟩), undef, .int .i64 (s : Int), f 11, .slice (some ⟨gO, 0, none⟩) m m, f 13, f 14, f 15, .tuple #[.slice (some ⟨b1, off1, none⟩) l.length c1, .nilIface], .int .i64 (n : Int), .tuple #[.slice (some ⟨b1, off1, none⟩) l.length c1, .nilIface], .slice (some ⟨b1, off1, none⟩) l.length c1, .nilIface, .nilIface, .bool false, undef, undef, .slice o N c, .int .i64 (N : Int), .slice (some ⟨b1, off1, none⟩) l.length c1, .int .i64 (N : Int), .bool false, undef, undef, .slice (some ⟨b1, off1, none⟩) l.length c1, .int .i64 (l.length : Int), .int .i64 (k : Int), f 35, f 36, f 37, f 38, f 39, f 40, f 41, f 42, f 43, f 44, f 45, f 46, f 47, f 48, f 49, f 50, f 51, f 52, f 53, f 54, f 55, f 56, f 57, f 58, f 59, f 60, f 61, f 62, f 63, f 64, f 65, f 66, f 67, f 68, f 69, f 70, f 71, f 72, f 73, f 74, f 75, f 76, f 77, f 78, f 79, f 80, f 81, undef, undef, undef, undef, undef, undef, undef, undef, undef, undef, undef, undef, undef, undef] := by
            refine e15.trans ?_
            show (#[tm15.getD 0 undef, tm15.getD 1 undef, tm15.getD 2 undef, tm15.getD 3 undef, tm15.getD 4 undef, tm15.getD 5 undef, tm15.getD 6 undef, tm15.getD 7 undef, tm15.getD 8 undef, tm15.getD 9 undef, tm15.getD 10 undef, tm15.getD 11 undef, tm15.getD 12 undef, tm15.getD 13 undef, tm15.getD 14 undef, tm15.getD 15 undef, tm15.getD 16 undef, tm15.getD 17 undef, tm15.getD 18 undef, tm15.getD 19 undef, tm15.getD 20 undef, tm15.getD 21 undef, tm15.getD 22 undef, tm15.getD 23 undef, tm15.getD 24 undef, tm15.getD 25 undef, tm15.getD 26 undef, tm15.getD 27 undef, tm15.getD 28 undef, tm15.getD 29 undef, tm15.getD 30 undef, tm15.getD 31 undef, tm15.getD 32 undef, tm15.getD 33 undef, tm15.getD 34 undef, tm15.getD 35 undef, tm15.getD 36 undef, tm15.getD 37 undef, tm15.getD 38 undef, tm15.getD 39 undef, tm15.getD 40 undef, tm15.getD 41 undef, tm15.getD 42 undef, tm15.getD 43 undef, tm15.getD 44 undef, tm15.getD 45 undef, tm15.getD 46 undef, tm15.getD 47 undef, tm15.getD 48 undef, tm15.getD 49 undef, tm15.getD 50 undef, tm15.getD 51 undef, tm15.getD 52 undef, tm15.getD 53 undef, tm15.getD 54 undef, tm15.getD 55 undef, tm15.getD 56 undef, tm15.getD 57 undef, tm15.getD 58 undef, tm15.getD 59 undef, tm15.getD 60 undef, tm15.getD 61 undef, tm15.getD 62 undef, tm15.getD 63 undef, tm15.getD 64 undef, tm15.getD 65 undef, tm15.getD 66 undef, tm15.getD 67 undef, tm15.getD 68 undef, tm15.getD 69 undef, tm15.getD 70 undef, tm15.getD 71 undef, tm15.getD 72 undef, tm15.getD 73 undef, tm15.getD 74 undef, tm15.getD 75 undef, tm15.getD 76 undef, tm15.getD 77 undef, tm15.getD 78 undef, tm15.getD 79 undef, tm15.getD 80 undef, tm15.getD 81 undef, tm15.getD 82 undef, tm15.getD 83 undef, tm15.getD 84 undef, tm15.getD 85 undef, tm15.getD 86 undef, tm15.getD 87 undef, tm15.getD 88 undef, tm15.getD 89 undef, tm15.getD 90 undef, tm15.getD 91 undef, tm15.getD 92 undef, tm15.getD 93 undef, tm15.getD 94 undef, tm15.getD 95 undef] : Array Value) = _
            rw [e0, e1, e2, e3, e4, e6, e7, e8, e9, e10, e12, e16, e17, e18, e19, e20, e21, e22, e23, e24, e25, e26, e27, e28, e29, e30, e31, e32, e33, e34, e82, e83, e84, e85, e86, e87, e88, e89, e90, e91, e92, e93, e94, e95, ← hf]
          subst e16
          dsimp only
          have HRI := Lib.hid hri
          clear hk15 hu15 hs15 e15 hri hf e0 e1 e2 e3 e4 e6 e7 e8 e9 e10 e12 e16 e17 e18 e19 e20 e21 e22 e23 e24 e25 e26 e27 e28 e29 e30 e31 e32 e33 e34 e82 e83 e84 e85 e86 e87 e88 e89 e90 e91 e92 e93 e94 e95
          obtain ⟨wq, hwq⟩ : ∃ wq, w6.drew = wq := ⟨_, rfl⟩
          have hbq : Below w6.heap.size w6 wq := by rw [← hwq]; exact (Below.refl _ _).drew
          have hsm : (s : Int) ≤ (m : Int) := by omega
          have hs0 : (0 : Int) ≤ (s : Int) := by omega
          have hcn := concatY_any (((List.range m).map (mbk vs)).take s) (some ⟨gO, 0, none⟩) s m wq (((md_rb (HRI.out.kept.mat HMAT.out)).take s (by simp; omega)).later hbq) (by simp; omega) (by omega) (by omega) (fun i hi => by rw [bi_take _ _ _ hi, bi_map _ _ _ (by omega)]; simp)
          have HRQ := Lib.hid (HRI.out.later hbq)
          have HCN := Lib.hid hcn
          have hcc := rd_cells HRQ.out.heap
          clear hcn hbq
          have hfl : (fileG l V k).length ≤ 8 * N := by
            rw [fileG_length _ _ _ (by omega), HT.out]
            have := sumN_take_le l k
            omega
          have hcat : catY (((List.range m).map (mbk vs)).take s) s = prt vs s := catY_prt _ _ s s (fun i hi => by rw [bi_take _ _ _ hi, bi_map _ _ _ (by omega)]) (Nat.le_refl _)
          obtain ⟨U, hU⟩ : ∃ U : Nat → Nat → List UInt8, (fun g => if g = k then vs else V g) = U := ⟨_, rfl⟩
          have hUV : ∀ a, a < k → V a = U a := fun a ha => by rw [← hU]; simp [Nat.ne_of_lt ha]
          have hUk : U k = vs := by rw [← hU]; simp
          have HFU : Hid (fileG l U (k + 1) = fileG l V k ++ prt vs s) := Lib.hid (by
            show fileG l U k ++ prt (U k) (szG l k) = _
            rw [hUk, HSZ.out, fileG_congr l hUV])
          have HEU : Hid (erG bs l (k + 1) = erG bs l k ++ [((gnL (grpG bs l k) m).length : Int)]) := Lib.hid (by
            show erG bs l k ++ [((gnL (grpG bs l k) (szG l k + 32)).length : Int)] = _
            rw [HSZ.out, HMQ.out])
          have HCU : Hid (chG bs l U (k + 1) = chG bs l V k ++ [(chN (grpG bs l k) vs m : Int)]) := Lib.hid (by
            show chG bs l U k ++ [(chN (grpG bs l k) (U k) (szG l k + 32) : Int)] = _
            rw [hUk, HSZ.out, HMQ.out, chG_congr bs l hUV])
          have HMU : Hid (MndAll bs l U (k + 1)) := Lib.hid fun h hh => by
            by_cases e : h = k
            · subst e
              rw [hUk, HSZ.out, HMQ.out]
              exact HMN.out
            · rw [← hUV h (by omega)]
              exact HMV.out h (by omega)
          have HCT := Lib.hid hcat
          clear hcat hU hUV hUk
          go_wp2_with fail
          refine wp_region_any (by kernel_rfl) ?_
          change wpAny _ _ _ _ _ _ _ (World.drew w6)
          rw [hwq]
          refine wpAny_take (i := 0) (v := ?vb1) rfl (by kernel_rfl) (by kernel_rfl) (by kernel_rfl) (fun _ _ _ h => h) (Or.inl ⟨by rfl, ?hb1⟩) ?rb1
          case hb1 => (intro w; (go_simp <;> with_reducible rfl))
          refine wpAny_take (i := 2) (v := ?vb2) rfl (by kernel_rfl) (by kernel_rfl) (by kernel_rfl) (fun _ _ _ h => h) (Or.inl ⟨by rfl, ?hb2⟩) ?rb2
          case hb2 => (intro w; (go_simp <;> with_reducible rfl))
          refine wpAny_take (i := 3) (v := ?vb3) rfl (by kernel_rfl) (by kernel_rfl) (by kernel_rfl) (fun _ _ _ h => h) (Or.inl ⟨by rfl, ?hb3⟩) ?rb3
          case hb3 => (intro w; (go_simp <;> with_reducible rfl))
          refine wpAny_take (i := 4) (v := ?vb4) rfl (by kernel_rfl) (by kernel_rfl) (by kernel_rfl) (fun _ _ _ h => h) (Or.inl ⟨by rfl, ?hb4⟩) ?rb4
          case hb4 => (intro w; (go_simp <;> with_reducible rfl))
          refine wpAny_ready (rs := [1, 5]) (by kernel_rfl) (by simp) ?_
          refine AllReady.cons rfl (fun K hK => ?_) (AllReady.cons rfl (fun K hK => ?_) AllReady.nil)
          · go_simp
            refine hK _ _ ?_
            clear hK K
            refine wpAny_ready (rs := [5]) (by kernel_rfl) (by simp) ?_
            refine AllReady.cons rfl (fun K hK => ?_) AllReady.nil
            go_simp
            go_wp2_with (refine HCN.out.mono ?_; rintro e w7 ⟨gc, capc, rfl, hgc, hbc, hb7⟩)
            rw [HCT.out] at hbc
            have HBC := Lib.hid hbc
            have HR7 := Lib.hid (HRQ.out.later hb7)
            clear hgc hbc hb7
            refine wpAny_ready (rs := [6]) (by kernel_rfl) (by simp) ?_
            refine AllReady.cons rfl (fun K hK => ?_) AllReady.nil
            rw [if_pos (by rfl)]
            refine wp_append_row (.tmp 70) (.tmp 74) rfl w2'.heap.size vF (fileG l V k).length (fileG l V k) rfl HR7.out.f _ (8 * s) capc (prt vs s) rfl (by simp) HBC.out.row (by omega) HR7.out.below.size fun v8 w8 hv8 hg8 => hK _ _ ?_
            clear hK K
            obtain ⟨o8, l8, c8, rfl⟩ := own_slice hv8
            have hfn := Ri.fin HR7.out hg8 hv8 (by simp) (by rw [HSQ.out]; exact Nat.le_refl _) HFU.out HEU.out HCU.out
            have HFN := Lib.hid hfn.2
            have hc8 := rd_cells hfn.1
            clear hfn hv8 hg8
            refine wpAny_take (i := 7) (v := ?vb7) rfl (by kernel_rfl) (by kernel_rfl) (by kernel_rfl) (fun _ _ _ h => h) (Or.inl ⟨by rfl, ?hb7⟩) ?rb7
            case hb7 => (intro w; (go_simp <;> with_reducible rfl))
            refine wpAny_ready (rs := [8]) (by kernel_rfl) (by simp) ?_
            refine AllReady.cons rfl (fun K hK => ?_) AllReady.nil
            go_simp
            refine hK _ _ ?_
            clear hK K hc8
            refine wpAny_done (by kernel_rfl) ?_ _
            have hdr : (bs.drop (B + m)).length = r - m := by
              have h1 := HN.out
              have h2 := HRR.out
              rw [List.length_drop]
              omega
            have hd2 := HDD.out
            rw [HMQ.out] at hd2
            have hle2 := hd2.le.1
            have HD2 := Lib.hid hd2
            clear hd2
            by_cases hcm : c0 = m
            · have hdz : bs.drop (B + m) = [] := List.eq_nil_of_length_eq_zero (by omega)
              go_wp2_with fail
              go_roundw
              case rel => exact ⟨k + 1, B + m, U, _, _, _, by omega, by have := HST.out; have := HMQ.out; omega, by go_num, ⟨_, _, by rw [hdr], by rw [hdz]; exact RbIs.empty _ _ (by unfold maxLen; omega) (by simp)⟩, HMU.out, HFN.out⟩
              case measure => simp [intOf]; omega
            · go_wp2_with fail
              go_roundw
              case rel => exact ⟨k + 1, B + m, U, _, _, _, by omega, by have := HST.out; have := HMQ.out; omega, by go_num, ⟨_, _, by rw [hdr], HD2.out⟩, HMU.out, HFN.out⟩
              case measure => simp [intOf]; omega
          · go_simp
            go_wp2_with (refine HCN.out.mono ?_; rintro e w7 ⟨gc, capc, rfl, hgc, hbc, hb7⟩)
            rw [HCT.out] at hbc
            have HBC := Lib.hid hbc
            have HR7 := Lib.hid (HRQ.out.later hb7)
            clear hgc hbc hb7
            refine wpAny_ready (rs := [1]) (by kernel_rfl) (by simp) ?_
            refine AllReady.cons rfl (fun K hK => ?_) AllReady.nil
            have hc7 := (rd_cells HR7.out.heap).1
            go_simp
            refine hK _ _ ?_
            clear hK K
            clear hc7
            refine wpAny_ready (rs := [6]) (by kernel_rfl) (by simp) ?_
            refine AllReady.cons rfl (fun K hK => ?_) AllReady.nil
            rw [if_pos (by rfl)]
            refine wp_append_row (.tmp 70) (.tmp 74) rfl w2'.heap.size vF (fileG l V k).length (fileG l V k) rfl HR7.out.f _ (8 * s) capc (prt vs s) rfl (by simp) HBC.out.row (by omega) HR7.out.below.size fun v8 w8 hv8 hg8 => hK _ _ ?_
            clear hK K
            obtain ⟨o8, l8, c8, rfl⟩ := own_slice hv8
            have hfn := Ri.fin HR7.out hg8 hv8 (by simp) (by rw [HSQ.out]; exact Nat.le_refl _) HFU.out HEU.out HCU.out
            have HFN := Lib.hid hfn.2
            have hc8 := rd_cells hfn.1
            clear hfn hv8 hg8
            refine wpAny_take (i := 7) (v := ?vb9) rfl (by kernel_rfl) (by kernel_rfl) (by kernel_rfl) (fun _ _ _ h => h) (Or.inl ⟨by rfl, ?hb9⟩) ?rb9
            case hb9 => (intro w; (go_simp <;> with_reducible rfl))
            refine wpAny_ready (rs := [8]) (by kernel_rfl) (by simp) ?_
            refine AllReady.cons rfl (fun K hK => ?_) AllReady.nil
            go_simp
            refine hK _ _ ?_
            clear hK K hc8
            refine wpAny_done (by kernel_rfl) ?_ _
            have hdr : (bs.drop (B + m)).length = r - m := by
              have h1 := HN.out
              have h2 := HRR.out
              rw [List.length_drop]
              omega
            have hd2 := HDD.out
            rw [HMQ.out] at hd2
            have hle2 := hd2.le.1
            have HD2 := Lib.hid hd2
            clear hd2
            by_cases hcm : c0 = m
            · have hdz : bs.drop (B + m) = [] := List.eq_nil_of_length_eq_zero (by omega)
              go_wp2_with fail
              go_roundw
              case rel => exact ⟨k + 1, B + m, U, _, _, _, by omega, by have := HST.out; have := HMQ.out; omega, by go_num, ⟨_, _, by rw [hdr], by rw [hdz]; exact RbIs.empty _ _ (by unfold maxLen; omega) (by simp)⟩, HMU.out, HFN.out⟩
              case measure => simp [intOf]; omega
            · go_wp2_with fail
              go_roundw
              case rel => exact ⟨k + 1, B + m, U, _, _, _, by omega, by have := HST.out; have := HMQ.out; omega, by go_num, ⟨_, _, by rw [hdr], HD2.out⟩, HMU.out, HFN.out⟩
              case measure => simp [intOf]; omega
    · obtain rfl : k = l.length := by omega
      have hfl : (fileG l V l.length).length = 8 * nbk n := by rw [fileG_length _ _ _ (Nat.le_refl _), List.take_length, HSS.out]
      have hnle := HNL.out
      have HRS := HRD
      obtain ⟨gF, capF, rfl, hgF, hbF⟩ := own_buf HRD.out.f (by omega) rfl
      obtain ⟨oE, lE, cE, rfl⟩ := own_slice HRD.out.e
      obtain ⟨oC, lC, cC, rfl⟩ := own_slice HRD.out.c
      have hgq := rd_keeps HG2.out HRD.out.below
      have hqS : w.heap.size ≠ S := by
        rw [← HSQ.out]
        have := (Array.getElem?_eq_some_iff.1 HG2.out).1
        omega
      have hgz : (wr.setCell ⟨S, 0, none⟩ (.slice (some ⟨gF, 0, none⟩) n capF)).heap[w.heap.size]? = some (.cells #[.slice none 0 0, .slice none 0 0, .slice none 0 0] 27 (0, 0)) := by rw [heap_setCell_other wr ⟨S, 0, none⟩ w.heap.size _ hqS]; exact hgq
      have HGQ := Lib.hid hgq
      have HGZ := Lib.hid hgz
      have hcq := rd_cells hgq
      have hcz := rd_cells hgz
      have HQS := Lib.hid hqS
      have hbz := Kit.step HB2.out HRD.out.below
      have HBZ := Lib.hid hbz
      clear hgq hgz hqS hbz
      have hle := hbF.le
      rw [hfl] at hle
      have hmx := hle.2
      unfold maxLen at hmx
      have hdl2 : ((fileG l V l.length).drop n).length = 8 * nbk n - n := by rw [List.length_drop, hfl]
      have hrow : RowIs wr (if capF = n then some ⟨gF, 0, none⟩ else some ⟨gF, n, none⟩) (bytesV ((fileG l V l.length).drop n)) (capF - n) := by
        by_cases hcf : capF = n
        · rw [if_pos hcf, List.eq_nil_of_length_eq_zero (show ((fileG l V l.length).drop n).length = 0 by omega)]
          exact RowIs.empty _ _ (by unfold maxLen; omega) (by simp)
        · rw [if_neg hcf]
          have h1 := hbF.row.part n (8 * nbk n - n) (by rw [bytesV_length, hfl]; omega) (capF - n) (by omega) (by unfold maxLen; omega)
          have h2 : ((bytesV (fileG l V l.length)).drop n).take (8 * nbk n - n) = bytesV ((fileG l V l.length).drop n) := by
            rw [List.take_of_length_le (by rw [List.length_drop, bytesV_length, hfl]; omega)]
            simp [bytesV]
          rw [h2, Nat.zero_add] at h1
          exact h1
      have hcc := rd_cells HRD.out.heap
      rw [hfl] at hcc
      have HBF := Lib.hid hbF
      have HDL := Lib.hid hdl2
      have HHR := Lib.hid hrow
      have HFL := Lib.hid hfl
      have HCC := Lib.hid hcc
      obtain ⟨L, hL⟩ : ∃ L, 8 * nbk n = L := ⟨_, rfl⟩
      rw [hL] at hle hcc hdl2 hfl hnle
      have hd1 := hle.1
      have hLn : (n : Int) ≤ (L : Int) := by omega
      have hn0 : (0 : Int) ≤ (n : Int) := by omega
      have hlc : (L : Int) ≤ (capF : Int) := by omega
      have HLL := Lib.hid hL
      have hSS : w.heap.size ≤ S := by have := HB2.out.size; have := HSQ.out; omega
      have hnl : n ≤ (fileG l V l.length).length := by rw [HFL.out]; exact HNL.out
      by_cases hz : zall ((fileG l V l.length).drop n)
      · have HNY := Lib.hid (noughts_yes _ _ _ _ HHR.out hz)
        have HZ := Lib.hid hz
        rw [hdl2] at HNY
        clear hrd hmv hv0 hB hgF hbF hrow hdl2 hfl hz hL
        by_cases hcf : capF = n
        · have HNQ : Hid (Calls _ _ _ _ _) := Lib.hid HNY.out
          rw [if_pos hcf, show capF - n = 0 by omega] at HNQ
          clear HNY
          go_wp2_with fail
          refine HNQ.out.mono ?_; rintro e wz ⟨rfl, rfl⟩
          clear HNQ hcf
          go_wp2_with fail
          refine bodyPost_ret (results_cell_row2 rfl _ _ w.heap.size 27 #[.slice (some ⟨gF, 0, none⟩) n capF, .slice oE lE cE, .slice oC lC cC] (0, 0) _ rfl (rd_set HGZ.out _ _ _) Tryz.underlying27 rfl rd_size) rfl ?_
          exact rd_last HRD.out HBF.out HGQ.out HQS.out HBZ.out hSS hnl HMV.out HZ.out
        · have HNQ : Hid (Calls _ _ _ _ _) := Lib.hid HNY.out
          rw [if_neg hcf] at HNQ
          clear HNY
          go_wp2_with fail
          refine HNQ.out.mono ?_; rintro e wz ⟨rfl, rfl⟩
          clear HNQ hcf
          go_wp2_with fail
          refine bodyPost_ret (results_cell_row2 rfl _ _ w.heap.size 27 #[.slice (some ⟨gF, 0, none⟩) n capF, .slice oE lE cE, .slice oC lC cC] (0, 0) _ rfl (rd_set HGZ.out _ _ _) Tryz.underlying27 rfl rd_size) rfl ?_
          exact rd_last HRD.out HBF.out HGQ.out HQS.out HBZ.out hSS hnl HMV.out HZ.out
      · have HNY := Lib.hid (noughts_no _ _ _ _ HHR.out hz)
        rw [hdl2] at HNY
        have HZ : Hid (∀ U, MndAll bs l U l.length → ¬ zall ((fileG l U l.length).drop n)) := Lib.hid fun U hU hq => hz (by rw [(MndAll.uniq HMV.out hU).1]; exact hq)
        have hce := (HE.out.later HBZ.out).c16
        have h16 : 1 < w.heap.size := cell_in HE.out.c16
        have h16a : ¬ (w.heap.size = 1) := by omega
        have h16b : ¬ (1 = w.heap.size) := by omega
        clear hrd hmv hv0 hB hgF hbF hrow hdl2 hfl hz hL
        by_cases hcf : capF = n
        · have HNQ : Hid (Calls _ _ _ _ _) := Lib.hid HNY.out
          rw [if_pos hcf, show capF - n = 0 by omega] at HNQ
          clear HNY
          go_wp2_with fail
          refine HNQ.out.mono ?_; rintro e wz ⟨rfl, rfl⟩
          clear HNQ hcf
          go_wp2_with fail
          go_region
          all_goals go_wp2_with fail
          all_goals refine bodyPost_ret (results_cell_row2 rfl _ _ w.heap.size 27 #[.slice none 0 0, .slice none 0 0, .slice none 0 0] (0, 0) _ rfl (rd_set (w := World.drew wz) HGQ.out _ _ _) Tryz.underlying27 rfl rd_size) rfl ?_
          all_goals exact ⟨below_fx HBZ.out.drew (Nat.le_refl _) _ _ _, .inl ⟨HZ.out, rfl⟩⟩
        · have HNQ : Hid (Calls _ _ _ _ _) := Lib.hid HNY.out
          rw [if_neg hcf] at HNQ
          clear HNY
          go_wp2_with fail
          refine HNQ.out.mono ?_; rintro e wz ⟨rfl, rfl⟩
          clear HNQ hcf
          go_wp2_with fail
          go_region
          all_goals go_wp2_with fail
          all_goals refine bodyPost_ret (results_cell_row2 rfl _ _ w.heap.size 27 #[.slice none 0 0, .slice none 0 0, .slice none 0 0] (0, 0) _ rfl (rd_set (w := World.drew wz) HGQ.out _ _ _) Tryz.underlying27 rfl rd_size) rfl ?_
          all_goals exact ⟨below_fx HBZ.out.drew (Nat.le_refl _) _ _ _, .inl ⟨HZ.out, rfl⟩⟩
end Go.Proofs.YtgifbpjmblemhaaGreatDoor
