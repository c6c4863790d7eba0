/- The code's split of a padded file into blocks: slices.Chunk walked, its round. -/
import Derived.Test.YtgifbpjmblemhaaDoorBm
import Derived.Test.YtgifbpjmblemhaaDoorTm
import Derived.Test.YtgifbpjmblemhaaDoorRf
namespace Go.Proofs.YtgifbpjmblemhaaDoor
open Go.RowKit Go.Shelf
set_option linter.unusedVariables false
set_option linter.unusedSimpArgs false
attribute [local go_sem] Oper.semAt_some
theorem chunk_any (o : Option Addr) (n c : Nat) (w : World) :
    Calls Tryd.prog 34 #[.slice o n c, .int .i64 8] w fun e w' => e = .returned (.func (.func 51) #[] #[.pointer (some ⟨w.heap.size, 0, none⟩), .pointer (some ⟨w.heap.size + 1, 0, none⟩)]) ∧ w' = (w.alloc (.cells #[.slice o n c] 22)).alloc (.cells #[.int .i64 8] 3) := by
  have hmf := @makes Tryd.prog
  go_enter Tryd.func34, Tryd.ntmps34
  go_wp2
  go_ret
  exact ⟨rfl, rfl⟩
set_option maxRecDepth 100000 in
set_option maxHeartbeats 1000000 in
theorem chunk_walk (l : Nat) (I : Nat → World → Prop) (B Bx : World → Prop) (g m M cap Qs Qn : Nat) (w : World) (hM : M = 8 * m) (hm : m ≤ 1000) (hcap : M ≤ cap) (hcap2 : cap ≤ maxLen)
    (hI : ∀ i X, I i X → X.cell? ⟨Qs, 0, none⟩ = some (.slice (some ⟨g, 0, none⟩) M cap) ∧ X.cell? ⟨Qn, 0, none⟩ = some (.int .i64 8))
    (hdn : ∀ i X n, I i X → I i (X.drewN n)) (hBk : ∀ X n, B X → B (X.drewN n))
    (hturn : ∀ i a X, a = 8 * i → I i X → B X → i < m →
      YieldAt Fence.wide 0 Tryd.prog l #[.slice (some ⟨g, a, none⟩) 8 8] X fun e X' => (e = .returned (.bool true) ∧ I (i + 1) X' ∧ B X') ∨ (e = .returned (.bool false) ∧ Bx X'))
    (h0 : I 0 w) (hB : B w) :
    Calls Tryd.prog 51 #[.func (.yield l) #[] #[], .pointer (some ⟨Qs, 0, none⟩), .pointer (some ⟨Qn, 0, none⟩)] w fun e X => (∃ v, e = .returned v) ∧ ((I m X ∧ B X) ∨ Bx X) := by
  have HI := Lib.hid hI
  have HDN := Lib.hid hdn
  have HBK := Lib.hid hBk
  have HTN := Lib.hid hturn
  have HM := Lib.hid hM
  unfold maxLen at hcap2
  refine (callsIn_wide (n := 0)).1 (callsIn_of_wp Tryd.func51 rfl trivial ?_ rfl)
  simp only [Tryd.ntmps51, List.size_toArray, List.length_cons, List.length_nil, Nat.reduceAdd, Nat.reduceSub, Array.replicate_succ, Array.replicate_zero, List.push_toArray, List.append_toArray, List.nil_append, List.cons_append]
  clear hI hdn hBk hturn hM
  gi_wp2
  gi_loopw [4, 5] (fun p _ wr => ∃ k a : Nat, k ≤ m ∧ a = 8 * k ∧ p = .int .i64 (a : Int) ∧ I k wr ∧ B wr) (fun p _ _ => M - (intOf p).toNat)
  case atStart => exact ⟨0, 0, Nat.zero_le _, rfl, rfl, h0, hB⟩
  case round =>
    obtain ⟨k, a, hk, ha, rfl, hi, hb⟩ := hrel
    have hq1 := (HI.out _ _ hi).1
    have hq2 := (HI.out _ _ hi).2
    have H1 := Lib.hid hi
    have H2 := Lib.hid hb
    have HA := Lib.hid ha
    by_cases hlt : k < m
    · have haM : a + 8 ≤ M := by have := HM.out; omega
      have hd1 : decide ((a : Int) < (M : Int)) = true := decide_eq_true (by omega)
      have ha0 : (0 : Int) ≤ (a : Int) := by omega
      have ha1 : (a : Int) ≤ (M : Int) := by omega
      clear hi hb ha h0 hB
      have hne : ¬ cap = a := by omega
      gi_wp2
      gi_quiet (fail)
      rename_i nq
      obtain ⟨fn, tmps, assign, body, hy, hR⟩ := HTN.out k a (wr.drewN nq) HA.out (HDN.out _ _ _ H1.out) (HBK.out _ _ H2.out) hlt
      have HR := Lib.hid hR
      clear hR
      gi_wp2
      refine ⟨rfl, HR.out.mono ?_⟩
      rintro e W3 (⟨rfl, hi3, hb3⟩ | ⟨rfl, hx3⟩)
      · have hq3 := (HI.out _ _ hi3).2
        have HI3 := Lib.hid hi3
        have HB3 := Lib.hid hb3
        clear hi3 hb3 hq1 hq2 hy
        gi_wp2
        go_roundw
        case rel => exact ⟨k + 1, a + 8, by omega, by have := HA.out; omega, by go_num, HI3.out, HB3.out⟩
        case measure => simp [intOf]; omega
      · have HX := Lib.hid hx3
        clear hx3 hq1 hq2 hy
        gi_wp2
        refine bodyPost_ret (results_none rfl _ _ _) rfl ?_
        exact ⟨⟨_, rfl⟩, .inr HX.out⟩
    · obtain rfl : k = m := by omega
      have haM : a = M := by have := HM.out; omega
      subst haM
      clear hi hb ha h0 hB
      gi_wp2
      go_end0
      exact ⟨⟨_, rfl⟩, .inl ⟨H1.out, H2.out⟩⟩
theorem blk_part (p : List UInt8) (s : Nat) (h : 8 * s + 8 ≤ p.length) : ((bytesV p).drop (8 * s)).take 8 = bytesV (blk p s) := by
  refine List.ext_getElem? fun i => ?_
  by_cases hi : i < 8
  · rw [List.getElem?_take_of_lt hi, List.getElem?_drop, bytesV_get p (8 * s + i) (by omega), bytesV_get _ i (by simpa using hi)]
    have := co_blk p s i hi
    unfold co at this
    rw [this]
  · rw [List.getElem?_eq_none (by simp; omega), List.getElem?_eq_none (by simp; omega)]
theorem opIn_append {P : Program} {ops : Array Oper} {Q : Exit → Act → World → Prop} {K : Act → World → Prop} {a : Act} {w : World} {o : Oper} (hg : o.guard = none) (s x : Operand) (t tn : TypeId)
    (hop : o.op = .call { callee := .builtin .append, args := #[s, x], argTypes := #[t, tn] }) (vs vx : Value) (hs : a.eval s = vs) (hx : a.eval x = vx) (v' : Value) (w' : World)
    (hr : (Builtin.append_ #[t, tn] o.type #[vs, vx]).run P w = .ok v' w') (h : K (a.put o.dst v') w') :
    if Region.wanted o (yielded ops a.tmps) = true then Oper.wpIn Fence.wide 0 P o a w K Q else (∀ f, o.about P w a.eval = some f → Fence.wide.fn f) ∧ K (a.put o.dst undef) w := by
  have hw : Region.wanted o (yielded ops a.tmps) = true := by simp [Region.wanted, hg]
  rw [if_pos hw]
  refine ⟨fun _ _ => trivial, ?_⟩
  rw [Fence.wide_round, Oper.semAt_none]
  unfold execOp
  simp only [hop, resolve, invoke, builtin, Sem.run_bind, Sem.run_pure, Result.andThen_ok, List.map_toArray, List.map_cons, List.map_nil, hs, hx, hr]
  exact h
/-- what lay below, but block b, lies as it lay -/
structure Rst (b : Nat) (w X : World) : Prop where
  os : X.os = w.os
  tape : X.tape = w.tape
  output : X.output = w.output
  size : w.heap.size ≤ X.heap.size
  same : ∀ k, k < w.heap.size → k ≠ b → X.heap[k]? = w.heap[k]?
theorem Rst.refl (b : Nat) (w : World) : Rst b w w := ⟨rfl, rfl, rfl, Nat.le_refl _, fun _ _ _ => rfl⟩
theorem Rst.nc {b : Nat} {w X X' : World} (h : Rst b w X) (k : Rf.NC w.heap.size X X') : Rst b w X' :=
  ⟨k.os.trans h.os, k.tape.trans h.tape, k.output.trans h.output, Nat.le_trans h.size k.size, fun i hi hne => by
    have h1 := h.same i hi hne
    rw [← h1]
    have hlt : i < X.heap.size := Nat.lt_of_lt_of_le hi h.size
    rw [Array.getElem?_eq_getElem hlt]
    exact k.same i _ (Array.getElem?_eq_getElem hlt) (.inr hi)⟩
theorem Rst.grown {b : Nat} {w X X' : World} {r : Option Nat} (h : Rst b w X) (hg : X.grownBy X' r) (hr : ∀ k, r = some k → k = b ∨ w.heap.size ≤ k) : Rst b w X' :=
  ⟨hg.os.trans h.os, hg.tape.trans h.tape, hg.output.trans h.output, Nat.le_trans h.size hg.size, fun i hi hne => by
    rw [← h.same i hi hne]
    exact hg.block i (Nat.lt_of_lt_of_le hi h.size) fun e => by
      rcases hr i e.symm with h1 | h1
      · exact hne h1
      · omega⟩
theorem Rst.later {b : Nat} {w X X' : World} (h : Rst b w X) (hb : Below X.heap.size X X') : Rst b w X' := h.grown (r := none) ⟨hb.os, hb.tape, hb.output, hb.size, fun k hk _ => hb.block k hk⟩ (fun k e => by cases e)
theorem Rst.boxed {b k : Nat} {t : TypeId} {v : Value} {w X : World} (h : Rst b w X) (hx : Boxed w k t v) (hne : k ≠ b) : Boxed X k t v := by
  unfold Boxed at *
  rw [h.same k (Array.getElem?_eq_some_iff.1 hx).1 hne]; exact hx
theorem Rst.row {b : Nat} {w X : World} (h : Rst b w X) {o : Option Addr} {vs : List Value} {c : Nat} (hr : RowIs w o vs c) (hne : 0 < vs.length → ∀ p, o = some p → p.block ≠ b) : RowIs X o vs c :=
  ⟨hr.le, hr.cap, hr.nil, fun h0 => by
    obtain ⟨p, off, e, hlt, hc⟩ := hr.cells h0
    refine ⟨p, off, e, Nat.lt_of_lt_of_le hlt h.size, fun i v hv => ?_⟩
    have := hc i v hv
    unfold World.cell? at *
    rw [h.same p hlt (hne h0 _ e)]
    exact this⟩
theorem Rst.below {b n : Nat} {w0 w X : World} (h : Rst b w X) (hb : Below n w0 w) (hn : n ≤ b) (hn2 : n ≤ w.heap.size) : Below n w0 X :=
  hb.trans ⟨h.os, h.tape, h.output, h.size, fun k hk => h.same k (by omega) (by omega)⟩
/-- the blocks that have been taken so far -/
structure SpI (b0 : Nat) (w : World) (p : List UInt8) (s : Nat) (v : Value) (xs : List Value) (X : World) : Prop where
  box : Boxed X b0 25 v
  own : X.ownsRow w.heap.size 22 1 v s xs
  els : ElsB 0 X (dat p 0 s) xs
  rst : Rst b0 w X
theorem ElsB.nc {B base : Nat} {X X' : World} {bs : List (List UInt8)} {xs : List Value} (h : ElsB base X bs xs) (k : Rf.NC B X X') : ElsB base X' bs xs :=
  ⟨⟨h.els.len, fun i x hx => by
    obtain ⟨o, c, e, hr⟩ := h.els.at_ i x hx
    exact ⟨o, c, e, hr.nc k⟩⟩, fun x hx ad l c e h0 => by
    rcases h.kind x hx ad l c e h0 with h1 | ⟨cur, h1⟩
    · exact .inl h1
    · exact .inr ⟨cur, k.cells h1⟩⟩
theorem SpI.nc {b0 : Nat} {w X X' : World} {p : List UInt8} {s : Nat} {v : Value} {xs : List Value} (h : SpI b0 w p s v xs X) (k : Rf.NC w.heap.size X X') : SpI b0 w p s v xs X' :=
  ⟨k.cells h.box, k.owns h.own, h.els.nc k, h.rst.nc k⟩
theorem SpI.later {b0 : Nat} {w X X' : World} {p : List UInt8} {s : Nat} {v : Value} {xs : List Value} (h : SpI b0 w p s v xs X) (hb : Below X.heap.size X X') : SpI b0 w p s v xs X' :=
  ⟨boxed_later h.box hb, World.ownsRow.kept (row := none) h.own ⟨hb.os, hb.tape, hb.output, hb.size, fun i hi _ => hb.block i hi⟩ (by cases v.ownBlock <;> simp), h.els.later hb, h.rst.later hb⟩
theorem SpI.step {b0 : Nat} {w X X3 : World} {p : List UInt8} {s g cap : Nat} {v v' : Value} {xs : List Value} (h : SpI b0 w p s v xs X) (hb0 : b0 < w.heap.size) (hbuf : Buf X g cap (blk p s))
    (hown : X3.ownsRow w.heap.size 22 1 v' (s + 1) (xs ++ [.slice (some ⟨g, 0, none⟩) 8 cap])) (hg : X.grownBy X3 v.ownBlock) :
    SpI b0 w p (s + 1) v' (xs ++ [.slice (some ⟨g, 0, none⟩) 8 cap]) (X3.setCell ⟨b0, 0, none⟩ v') ∧ KeepsOthers X (X3.setCell ⟨b0, 0, none⟩ v') := by
  have hlt := fun k (e : v.ownBlock = some k) => (World.ownsRow.lt h.own k e).1
  have hne : some b0 ≠ v.ownBlock := fun e => by
    have := hlt b0 e.symm
    omega
  have hbox3 : Boxed X3 b0 25 v := by
    unfold Boxed
    rw [hg.block b0 (Array.getElem?_eq_some_iff.1 h.box).1 hne]
    exact h.box
  have hst : X3.grownBy (X3.setCell ⟨b0, 0, none⟩ v') (some b0) := grownBy_setCell' _ _ _
  have hel : ElsB 0 X3 (dat p 0 (s + 1)) (xs ++ [.slice (some ⟨g, 0, none⟩) 8 cap]) := by
    have h1 : ElsB 0 X [blk p s] [.slice (some ⟨g, 0, none⟩) 8 cap] := ElsB.one ⟨_, cap, by rw [blk_length], hbuf.row⟩ (by
      have := hbuf.kind 0
      rwa [blk_length] at this)
    have h2 := (h.els.app h1).grown h.own hg (Nat.zero_le _)
    rw [dat_succ, Nat.zero_add]
    exact h2
  refine ⟨⟨hbox3.set _, World.ownsRow.kept hown hst (.inr fun e => ?_), hel.keep hst fun k e => ?_, ?_⟩, ?_⟩
  · have := (World.ownsRow.lt hown b0 e).1
    omega
  · cases e
    exact ⟨Nat.zero_le _, _, _, _, hbox3, by decide⟩
  · exact (h.rst.grown hg (fun k e => .inr (hlt k e))).grown hst fun k e => .inl (by cases e; rfl)
  · refine (KeepsOthers.of_grownBy hg fun j o e ho => ?_).trans (KeepsOthers.setCell _ _ _)
    obtain ⟨_, cur, T, f, h2, _⟩ := own_kind h.own (by decide) j e
    rw [h2] at ho
    cases ho
    rfl
set_option maxRecDepth 100000 in
set_option maxHeartbeats 1000000 in
theorem split_any (p : List UInt8) (m M g cap : Nat) (w : World) (hM : M = 8 * m) (hm : m ≤ 1000) (hP : Buf w g cap p) (hl : p.length = M) :
    Calls Tryd.prog 23 #[.slice (some ⟨g, 0, none⟩) M cap] w fun e w' => ∃ x, e = .returned x ∧ RbV (dat p 0 m) x w' ∧ Below w.heap.size w w' := by
  have hca := hP.le
  rw [hl] at hca
  have hc1 := hca.1
  have hc2 := hca.2
  have hglt := hP.lt
  have HP := Lib.hid hP.row
  have HL := Lib.hid hl
  have HM := Lib.hid hM
  refine Rf.calls_marks Tryd.func23 rfl ?_
  simp only [Tryd.ntmps23, List.size_toArray, List.length_cons, List.length_nil, Nat.reduceAdd, Nat.reduceSub, Array.replicate_succ, Array.replicate_zero, List.push_toArray, List.append_toArray, List.nil_append, List.cons_append]
  clear hP hl hM hca
  go_wp2_with fail
  refine (chunk_any (some ⟨g, 0, none⟩) M cap _).mono ?_; rintro e w2 ⟨rfl, hw2⟩
  have hsz : (w.alloc (Obj.cells #[Value.slice none 0 0] 25)).heap.size = w.heap.size + 1 := by simp
  rw [hsz]
  have hX0 : Boxed w2 w.heap.size 25 (.slice none 0 0) := by rw [hw2]; exact ((Boxed.new w _ _).alloc _).alloc _
  have hXs : Boxed w2 (w.heap.size + 1) 22 (.slice (some ⟨g, 0, none⟩) M cap) := by
    rw [hw2]
    have := Boxed.new (w.alloc (Obj.cells #[Value.slice none 0 0] 25)) 22 (.slice (some ⟨g, 0, none⟩) M cap)
    rw [hsz] at this
    exact this.alloc _
  have hXn : Boxed w2 (w.heap.size + 1 + 1) 3 (.int .i64 8) := by
    rw [hw2]
    have := Boxed.new ((w.alloc (Obj.cells #[Value.slice none 0 0] 25)).alloc (.cells #[.slice (some ⟨g, 0, none⟩) M cap] 22)) 3 (.int .i64 8)
    rw [World.size_alloc, hsz] at this
    exact this
  have hb2 : Below w.heap.size w w2 := by rw [hw2]; exact (((Below.refl _ w).alloc (Nat.le_refl _) _).alloc (by simp) _).alloc (by simp; omega) _
  have hb0 := hX0.lt
  have HXS := Lib.hid hXs
  have HXN := Lib.hid hXn
  have HB2 := Lib.hid hb2
  have HP2 := Lib.hid (HP.out.later hb2)
  obtain ⟨b0, hbq⟩ : ∃ b0, w.heap.size = b0 := ⟨_, rfl⟩
  have HS0 : Hid (SpI b0 w2 p 0 (.slice none 0 0) [] w2) := Lib.hid ⟨by rw [← hbq]; exact hX0, World.ownsRow_nil _ _ _ _, ElsB.nil _ _, Rst.refl _ _⟩
  rw [hbq] at HXS HXN hb0 hglt ⊢
  have HBQ := Lib.hid hbq
  clear hw2 hX0 hXs hXn hb2 hsz hbq
  go_wp2_with fail
  refine Rf.range_told (α := Nat) (σ := Nat) rfl (enters_of Tryd.func51 (by kernel_rfl) rfl) (fun x => #[.slice (some ⟨g, x, none⟩) 8 8]) (fun _ => rfl)
    (fun s X => s ≤ m ∧ ∃ v xs, SpI b0 w2 p s v xs X)
    (fun c X => False)
    (fun s x s' X => s' = s + 1 ∧ s < m ∧ x = 8 * s)
    0 (fun s => s = m) ?hI ?hIx ?hV ?h0 ?hseq ?round ?done ?stop
  case hI => exact fun s X X' ⟨h, v, xs, hs⟩ k => ⟨h, v, xs, hs.nc k⟩
  case hIx => exact fun c X X' h k => h
  case hV => exact fun s x s' X X' h k => h
  case h0 => exact ⟨Nat.zero_le _, _, _, HS0.out⟩
  case hseq =>
    intro l B Bx X hnc hi hB hk ht
    refine (chunk_walk l (fun s X => s ≤ m ∧ ∃ v xs, SpI b0 w2 p s v xs X) B Bx g m M cap (b0 + 1) (b0 + 1 + 1) X HM.out hm hc1 hc2 ?_ ?_ ?_ ?_ hi hB).mono ?_
    · exact fun i X ⟨_, v, xs, h⟩ => ⟨(h.rst.boxed HXS.out (by omega)).cell, (h.rst.boxed HXN.out (by omega)).cell⟩
    · exact fun i X n ⟨h1, v, xs, h⟩ => ⟨h1, v, xs, h.later (Kit.dn' X n)⟩
    · exact fun X n h => hk X _ h (keeps_below (Kit.dn' X n))
    · intro i a X ha h hB hlt
      exact (ht i a (i + 1) X h hB ⟨rfl, hlt, ha⟩).mono fun e X' h => h.imp (fun h => ⟨h.1, h.2.1, h.2.2⟩) id
    · rintro e X' ⟨hv, (⟨h, hB⟩ | hx)⟩
      · exact ⟨hv, .inl ⟨m, rfl, h, hB⟩⟩
      · exact ⟨hv, .inr hx⟩
  case round =>
    rintro l s x s' X Z To ⟨h1, v, xs, h⟩ ⟨rfl, hlt, rfl⟩ HN HR HE
    have hrow := h.rst.row HP2.out (fun _ p e => by cases e; show g ≠ b0; omega)
    have hrp := hrow.part (8 * s) 8 (by rw [bytesV_length, HL.out, HM.out]; omega) 8 (Nat.le_refl _) (by unfold maxLen; omega)
    rw [blk_part p s (by rw [HL.out, HM.out]; omega), Nat.zero_add] at hrp
    have hcal := clone_own (blk p s) (some ⟨g, 8 * s, none⟩) 8 X.drew (hrp.later (Below.refl _ _).drew) (by simp) (by simp)
    rw [blk_length] at hcal
    have HCAL : Hid (Calls Tryd.prog 35 #[.slice (some ⟨g, 8 * s, none⟩) 8 8] X.drew fun e X1 => ∃ g' cap', e = .returned (.slice (some ⟨g', 0, none⟩) 8 cap') ∧ Buf X1 g' cap' (blk p s) ∧ Below X.heap.size X X1) := Lib.hid (hcal.mono fun e X1 ⟨g', cap', h1, _, h2, h3⟩ => ⟨g', cap', by rw [h1, blk_length], h2, (Below.refl _ _).drew.trans h3⟩)
    have c0 := h.box.cell
    have HSP := Lib.hid h
    have hmix : Tryd.prog.follows .mixedOrders = true := by kernel_rfl
    have FIN : Hid (∀ g' cap' X1, Buf X1 g' cap' (blk p s) → Below X.heap.size X X1 → ∃ (v' : Value) (X3 : World), (∃ o' l' q', v' = .slice o' l' q') ∧
        (Builtin.append_ #[25, 25] 25 #[v, .slice (some ⟨X1.heap.size, 0, none⟩) 1 1]).run Tryd.prog (X1.alloc (.cells #[.slice (some ⟨g', 0, none⟩) 8 cap'] 22)) = .ok v' X3 ∧
        X3.cell? ⟨b0, 0, none⟩ = some v ∧ X3.frozen? ⟨b0, 0, none⟩ = false ∧ KeepsOthers X (X3.setCell ⟨b0, 0, none⟩ v') ∧ s + 1 ≤ m ∧ ∃ v xs, SpI b0 w2 p (s + 1) v xs (X3.setCell ⟨b0, 0, none⟩ v')) := Lib.hid fun g' cap' X1 hbuf hb => by
      have hb2 : Below X.heap.size X (X1.alloc (.cells #[.slice (some ⟨g', 0, none⟩) 8 cap'] 22)) := hb.alloc hb.size _
      have hs2 := HSP.out.later hb2
      have hrow2 : RowIs (X1.alloc (.cells #[.slice (some ⟨g', 0, none⟩) 8 cap'] 22)) (some ⟨X1.heap.size, 0, none⟩) [.slice (some ⟨g', 0, none⟩) 8 cap'] 1 :=
        ⟨Nat.le_refl _, by unfold maxLen; omega, (fun e => by cases e), fun _ => ⟨X1.heap.size, 0, rfl, by simp, fun i v hv => by
          match i, hv with
          | 0, hv =>
            rw [cell_new _ _ _ _ rfl]
            exact hv
          | i + 1, hv => simp at hv⟩⟩
      obtain ⟨v', X3, hr, ho, hg⟩ := append_rowsH_run _ 25 w2.heap.size v s xs hs2.own ⟨X1.heap.size, 0, none⟩ 1 [.slice (some ⟨g', 0, none⟩) 8 cap'] hrow2 (fun u hu => by rw [List.mem_singleton] at hu; subst hu; rfl) (by simp; omega) hs2.rst.size
      have hst := hs2.step hb0 (hbuf.later ((Below.refl _ _).alloc (Nat.le_refl _) _)) ho hg
      have hne : some b0 ≠ v.ownBlock := fun e => by
        have := (World.ownsRow.lt hs2.own b0 e.symm).1
        omega
      have hbox3 : Boxed X3 b0 25 v := by
        unfold Boxed
        rw [hg.block b0 (Array.getElem?_eq_some_iff.1 hs2.box).1 hne]
        exact hs2.box
      have hform : ∃ o' l' q', v' = Value.slice o' l' q' := by
        rcases ho.2 with ⟨rfl, _⟩ | ⟨_, _, _, rfl, _⟩
        · exact ⟨_, _, _, rfl⟩
        · exact ⟨_, _, _, rfl⟩
      exact ⟨v', X3, hform, hr, hbox3.cell, hbox3.frozen, (keeps_below hb2).trans hst.2, by omega, v', _, hst.1⟩
    clear hrow hrp hcal h
    gi_wp2
    refine ⟨trivial, ?_⟩
    gi_wp2
    refine Rf.region_round hmix (by kernel_rfl) ?_
    refine wpAnyIn_take (i := 1) (v := .slice (some ⟨g, 8 * s, none⟩) 8 8) rfl rfl (by kernel_rfl) (by kernel_rfl) (by kernel_rfl) (fun _ _ _ h => h) ⟨Or.inl ⟨by rfl, fun w => by go_simp⟩, fun _ => rfl⟩ ?_
    refine wpAnyIn_ready (rs := [0, 2]) (by kernel_rfl) (by simp) ?_
    refine AllReadyIn.cons rfl (fun K hK => ?_) ?_
    · go_simp
      refine hK _ _ ?_
      clear hK K
      refine wpAnyIn_ready (rs := [2]) (by kernel_rfl) (by simp) ?_
      refine AllReadyIn.cons rfl (fun K hK => ?_) AllReadyIn.nil
      go_simp
      refine ⟨trivial, rfl, ?_⟩
      refine ((callsIn_wide (n := 0)).2 HCAL.out).mono ?_
      rintro e X1 ⟨g', cap', rfl, hbuf, hb⟩
      refine hK _ _ ?_
      clear hK K
      obtain ⟨v', X3, ⟨o', l', q', rfl⟩, hrun, hc3, hf3, hk3, hs3⟩ := FIN.out g' cap' X1 hbuf hb
      have c1 := cell_laterB hb c0
      have c2 := cell_laterB (below_new X1 (.cells #[.slice (some ⟨g', 0, none⟩) 8 cap'] 22)) c1
      refine wpAnyIn_ready (rs := [3]) (by kernel_rfl) (by simp) ?_
      refine AllReadyIn.cons rfl (fun K hK => ?_) AllReadyIn.nil
      go_simp
      refine hK _ _ ?_
      clear hK K
      refine wpAnyIn_ready (rs := [4]) (by kernel_rfl) (by simp) ?_
      refine AllReadyIn.cons rfl (fun K hK => ?_) AllReadyIn.nil
      refine opIn_append ?_ (.tmp 8) (.tmp 11) 25 25 ?_ v (.slice (some ⟨X1.heap.size, 0, none⟩) 1 1) ?_ ?_ (.slice o' l' q') X3 ?_ ?_
      · rfl
      · rfl
      · rfl
      · rfl
      · exact hrun
      refine hK _ _ ?_
      clear hK K
      refine wpAnyIn_ready (rs := [5]) (by kernel_rfl) (by simp) ?_
      refine AllReadyIn.cons rfl (fun K hK => ?_) AllReadyIn.nil
      go_simp
      refine hK _ _ ?_
      clear hK K
      refine wpAnyIn_done (by kernel_rfl) ?_ _
      exact HN.out _ _ hk3 hs3
    refine AllReadyIn.cons rfl (fun K hK => ?_) AllReadyIn.nil
    go_simp
    refine ⟨trivial, rfl, ?_⟩
    refine ((callsIn_wide (n := 0)).2 HCAL.out).mono ?_
    rintro e X1 ⟨g', cap', rfl, hbuf, hb⟩
    refine hK _ _ ?_
    clear hK K
    obtain ⟨v', X3, ⟨o', l', q', rfl⟩, hrun, hc3, hf3, hk3, hs3⟩ := FIN.out g' cap' X1 hbuf hb
    have c1 := cell_laterB hb c0
    have c2 := cell_laterB (below_new X1 (.cells #[.slice (some ⟨g', 0, none⟩) 8 cap'] 22)) c1
    refine wpAnyIn_ready (rs := [0, 3]) (by kernel_rfl) (by simp) ?_
    refine AllReadyIn.cons rfl (fun K hK => ?_) ?_
    · go_simp
      refine hK _ _ ?_
      clear hK K
      refine wpAnyIn_ready (rs := [3]) (by kernel_rfl) (by simp) ?_
      refine AllReadyIn.cons rfl (fun K hK => ?_) AllReadyIn.nil
      go_simp
      refine hK _ _ ?_
      clear hK K
      refine wpAnyIn_ready (rs := [4]) (by kernel_rfl) (by simp) ?_
      refine AllReadyIn.cons rfl (fun K hK => ?_) AllReadyIn.nil
      refine opIn_append ?_ (.tmp 8) (.tmp 11) 25 25 ?_ v (.slice (some ⟨X1.heap.size, 0, none⟩) 1 1) ?_ ?_ (.slice o' l' q') X3 ?_ ?_
      · rfl
      · rfl
      · rfl
      · rfl
      · exact hrun
      refine hK _ _ ?_
      clear hK K
      refine wpAnyIn_ready (rs := [5]) (by kernel_rfl) (by simp) ?_
      refine AllReadyIn.cons rfl (fun K hK => ?_) AllReadyIn.nil
      go_simp
      refine hK _ _ ?_
      clear hK K
      refine wpAnyIn_done (by kernel_rfl) ?_ _
      exact HN.out _ _ hk3 hs3
    refine AllReadyIn.cons rfl (fun K hK => ?_) AllReadyIn.nil
    go_simp
    refine hK _ _ ?_
    clear hK K
    refine wpAnyIn_ready (rs := [0]) (by kernel_rfl) (by simp) ?_
    refine AllReadyIn.cons rfl (fun K hK => ?_) AllReadyIn.nil
    go_simp
    refine hK _ _ ?_
    clear hK K
    refine wpAnyIn_ready (rs := [4]) (by kernel_rfl) (by simp) ?_
    refine AllReadyIn.cons rfl (fun K hK => ?_) AllReadyIn.nil
    refine opIn_append ?_ (.tmp 8) (.tmp 11) 25 25 ?_ v (.slice (some ⟨X1.heap.size, 0, none⟩) 1 1) ?_ ?_ (.slice o' l' q') X3 ?_ ?_
    · rfl
    · rfl
    · rfl
    · rfl
    · exact hrun
    refine hK _ _ ?_
    clear hK K
    refine wpAnyIn_ready (rs := [5]) (by kernel_rfl) (by simp) ?_
    refine AllReadyIn.cons rfl (fun K hK => ?_) AllReadyIn.nil
    go_simp
    refine hK _ _ ?_
    clear hK K
    refine wpAnyIn_done (by kernel_rfl) ?_ _
    exact HN.out _ _ hk3 hs3
  case done =>
    rintro D s X hD rfl ⟨h1, v, xs, h⟩ hK
    have c0 := h.box.cell
    have HRB := Lib.hid (owns_rb h.own (by rw [dat_length]) h.els.els)
    have HRS := Lib.hid h.rst
    clear h
    go_wp2_with fail
    refine Rf.leaves hK (results_tmp rfl _ _ _) ?_
    obtain ⟨o, c, e, ys, hr, hel⟩ := HRB.out
    have hn := Rf.NC.put (B := 0) (.deferred none) (Nat.zero_le _) hK rfl
    refine ⟨v, rfl, ⟨o, c, e, ys, hr.nc hn, (ElsB.nc hel.old hn).els⟩, ?_⟩
    exact (HRS.out.below HB2.out (by rw [HBQ.out]; exact Nat.le_refl _) (by rw [HBQ.out]; omega)).trans (belowK_b (w := w) (Nat.le_refl _) X D _ _ (by rw [HBQ.out]; omega) hK rfl rfl)
  case stop => exact fun D c X hD h => h.elim
end Go.Proofs.YtgifbpjmblemhaaDoor
