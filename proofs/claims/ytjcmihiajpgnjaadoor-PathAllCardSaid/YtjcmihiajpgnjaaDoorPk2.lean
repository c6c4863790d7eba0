/- What a path makes of a leaf, byte string by byte string: made, an iterator that loops over another. made: its iterator's contract. -/
import Derived.Test.YtjcmihiajpgnjaaDoorPk1
import Derived.Test.YtjcmihiajpgnjaaDoorStq
import Derived.Test.YtjcmihiajpgnjaaDoorTn12
namespace Go.Proofs.YtjcmihiajpgnjaaDoor
open Go.RowKit
set_option linter.unusedVariables false
set_option linter.unusedSimpArgs false
attribute [local go_sem] Oper.semAt_some
theorem Buf.block {W W' : World} {g cap : Nat} {ys : List UInt8} (h : Buf W g cap ys) (hk : W'.heap[g]? = W.heap[g]?) : Buf W' g cap ys := by
  obtain ⟨h1, h2⟩ := h
  refine ⟨h1, ?_⟩
  rcases h2 with h2 | ⟨g', cap', cur, e, hg, hh, r1, r2, r3, r4⟩
  · exact .inl h2
  · refine .inr ⟨g', cap', cur, e, hg, ?_, r1, r2, r3, r4⟩
    cases e
    rw [hk]
    exact hh
theorem box_block {W W' : World} {g : Nat} {t : TypeId} {v : Value} (h : Boxed W g t v) (hk : W'.heap[g]? = W.heap[g]?) : Boxed W' g t v := by
  unfold Boxed at *
  rw [hk]
  exact h
theorem box_ne {W : World} {p q : Nat} {t u : TypeId} {v x : Value} (h : Boxed W p t v) (k : Boxed W q u x) (hne : t ≠ u) : p ≠ q := fun e => by
  subst e
  unfold Boxed at *
  rw [h] at k
  cases k
  exact hne rfl
theorem Buf.ne {W : World} {g cap q : Nat} {ys : List UInt8} {u : TypeId} {x : Value} (h : Buf W g cap ys) (k : Boxed W q u x) (hne : u ≠ 5) : g ≠ q := fun e => by
  subst e
  obtain ⟨cur, hc⟩ := h.cells
  unfold Boxed at k
  rw [hc] at k
  cases k
  exact hne rfl
/-- a node's bytes -/
theorem tinn_any (t : Nat × Nat × Bool) (own other : List UInt8) (ho : own.length = 32) (hd : other.length = 32) (w : World) :
    Calls Tryd.prog 52 #[tnV t, .agg (bytesV own).toArray, .agg (bytesV other).toArray] w fun e w' => ∃ g cap, e = .returned (.slice (some ⟨g, 0, none⟩) 65 cap) ∧ w.heap.size ≤ g ∧ Buf w' g cap (Da.inn t.2.2 own other) ∧ Below w.heap.size w w' := by
  obtain ⟨tf, tt, tl⟩ := t
  obtain ⟨D, hD⟩ : ∃ D, tnD (tf, tt, tl) = D := ⟨_, rfl⟩
  obtain ⟨A, hA⟩ : ∃ A, (bytesV own).toArray = A := ⟨_, rfl⟩
  obtain ⟨B, hB⟩ : ∃ B, (bytesV other).toArray = B := ⟨_, rfl⟩
  obtain ⟨p, hp⟩ : ∃ p, w.heap.size = p := ⟨_, rfl⟩
  obtain ⟨W1, hW1⟩ : ∃ W1, w.alloc (.cells D 65) = W1 := ⟨_, rfl⟩
  have hs1 : W1.heap.size = p + 1 := by rw [← hW1, World.size_alloc, hp]
  obtain ⟨W2, hW2⟩ : ∃ W2, W1.alloc (.cells A 38) = W2 := ⟨_, rfl⟩
  have hs2 : W2.heap.size = p + 1 + 1 := by rw [← hW2, World.size_alloc, hs1]
  obtain ⟨W3, hW3⟩ : ∃ W3, W2.alloc (.cells B 38) = W3 := ⟨_, rfl⟩
  have hb1 : Below w.heap.size w W1 := by rw [← hW1]; exact new12 _ _
  have hb2 : Below W1.heap.size W1 W2 := by rw [← hW2]; exact new12 _ _
  have hb3 : Below W2.heap.size W2 W3 := by rw [← hW3]; exact new12 _ _
  have h1 : W3.heap[p]? = some (.cells D 65 (0, 0)) := by
    rw [hb3.block p (by omega), hb2.block p (by omega), ← hW1, ← hp]
    exact World.alloc_heap_new w _
  have h2 : W3.heap[p + 1]? = some (.cells A 38 (0, 0)) := by
    rw [hb3.block (p + 1) (by omega), ← hW2, ← hs1]
    exact World.alloc_heap_new W1 _
  have h3 : W3.heap[p + 1 + 1]? = some (.cells B 38 (0, 0)) := by
    rw [← hW3, ← hs2]
    exact World.alloc_heap_new W2 _
  have hAs : A.size = 32 := by rw [← hA]; simp [ho]
  have hBs : B.size = 32 := by rw [← hB]; simp [hd]
  have HAS : Hid ((Tryd.prog.info? 38).map (·.size) = some A.size) := Lib.hid (by rw [dg_info, hAs])
  have HBS : Hid ((Tryd.prog.info? 38).map (·.size) = some B.size) := Lib.hid (by rw [dg_info, hBs])
  have hc : W3.cell? ⟨p, 2, none⟩ = some (.bool tl) := by unfold World.cell?; rw [h1, ← hD]; rfl
  have HB3 := Lib.hid (Kit.step (Kit.step hb1 hb2) hb3)
  have TL := tinner_any other own hd ho W3
  have TR := tinner_any own other ho hd W3
  rw [hA, hB] at TL TR ⊢
  have HTL := Lib.hid TL
  have HTR := Lib.hid TR
  have H2 := Lib.hid h2
  have H3 := Lib.hid h3
  have HW1 := Lib.hid hW1
  have HW2 := Lib.hid hW2
  have HW3 := Lib.hid hW3
  have HP := Lib.hid hp
  have HS1 := Lib.hid hs1
  have HS2 := Lib.hid hs2
  unfold tnV
  rw [hD]
  clear TL TR h1 h2 h3 hb1 hb2 hb3 hW1 hW2 hW3 hp hs1 hs2 hA hB hD hAs hBs
  go_enter Tryd.func52, Tryd.ntmps52
  go_upto_region 1 with fail
  rw [HW1.out, HW2.out, HW3.out, HP.out]
  clear HW1 HW2 HW3
  cases tl with
  | true =>
    go_upto_region 2 with fail
    apply wp_region_lit
    refine wpList_load_row rfl 38 (.tmp 5) rfl (p + 1 + 1) rfl 38 B (0, 0) _ H3.out dg_under rfl HBS.out ?_
    refine wpList_load_row rfl 38 (.tmp 4) rfl (p + 1) rfl 38 A (0, 0) _ H2.out dg_under rfl HAS.out ?_
    (refine wpList_plain rfl (fun K hK => ?_); go_simp)
    refine HTL.out.mono ?_
    rintro e W4 ⟨g, cap, rfl, hg, hbuf, hb4⟩
    refine hK _ _ ?_
    clear hK K
    have HBF := Lib.hid hbuf
    have HG := Lib.hid (Nat.le_trans HB3.out.size hg)
    have HB4 := Lib.hid (Kit.step HB3.out hb4)
    clear hg hbuf hb4
    go_wp2_with fail
    go_ret
    exact ⟨g, cap, rfl, HG.out, HBF.out, HB4.out⟩
  | false =>
    go_upto_region 3 with fail
    apply wp_region_lit
    refine wpList_load_row rfl 38 (.tmp 4) rfl (p + 1) rfl 38 A (0, 0) _ H2.out dg_under rfl HAS.out ?_
    refine wpList_load_row rfl 38 (.tmp 5) rfl (p + 1 + 1) rfl 38 B (0, 0) _ H3.out dg_under rfl HBS.out ?_
    (refine wpList_plain rfl (fun K hK => ?_); go_simp)
    refine HTR.out.mono ?_
    rintro e W4 ⟨g, cap, rfl, hg, hbuf, hb4⟩
    refine hK _ _ ?_
    clear hK K
    have HBF := Lib.hid hbuf
    have HG := Lib.hid (Nat.le_trans HB3.out.size hg)
    have HB4 := Lib.hid (Kit.step HB3.out hb4)
    clear hg hbuf hb4
    go_wp2_with fail
    go_ret
    exact ⟨g, cap, rfl, HG.out, HBF.out, HB4.out⟩
/-- the closure that made makes -/
theorem mmade_any (n i : Int) (ol op : Option Addr) (L cl m cp : Nat) (w : World) :
    Calls Tryd.prog 36 #[.int .i64 n, .int .i64 i, .slice ol L cl, .slice op m cp] w fun e w' =>
      e = .returned (.func (.func 50) #[] #[.pointer (some ⟨w.heap.size + 1 + 1, 0, none⟩), .pointer (some ⟨w.heap.size + 1 + 1 + 1, 0, none⟩), .pointer (some ⟨w.heap.size, 0, none⟩), .pointer (some ⟨w.heap.size + 1, 0, none⟩)]) ∧
      w' = (((w.alloc (.cells #[.int .i64 n] 3)).alloc (.cells #[.int .i64 i] 3)).alloc (.cells #[.slice ol L cl] 40)).alloc (.cells #[.slice op m cp] 25) := by
  have hmf := @makes Tryd.prog
  go_enter Tryd.func36, Tryd.ntmps36
  go_wp2
  go_ret
  simp
end Go.Proofs.YtjcmihiajpgnjaaDoor
namespace Go.Proofs.YtjcmihiajpgnjaaDoor
open Go.RowKit
set_option linter.unusedVariables false
set_option linter.unusedSimpArgs false
attribute [local go_sem] Oper.semAt_some
/-- the nodes above a leaf, to whoever asks -/
theorem turns_gives (n i q1 q2 : Nat) (hi : i < n) (hn : n ≤ 1000000) : Rf.GivesM Tryd.prog 45 #[.pointer (some ⟨q1, 0, none⟩), .pointer (some ⟨q2, 0, none⟩)] (fun x => #[tnV x])
    (fun X => Boxed X q1 3 (.int .i64 (n : Int)) ∧ Boxed X q2 3 (.int .i64 (i : Int))) (fun M p x p' X => p' = p ++ [x] ∧ p' <+: Da.trn 0 n i) [] (fun p => p = Da.trn 0 n i) := by
  intro l X0 I Bx O0 hl hO hP hI hBx hT h0
  have h00 := h0 (fun _ => False) (fun k h => h.elim)
  have hp := hP _ _ _ _ h00
  refine (turns_seq n i q1 q2 hi hn l (fun p X => ∃ O, (∀ k, O k → k < X.heap.size) ∧ X0.heap.size ≤ X.heap.size ∧ I O (fun _ => False) p X) (fun X => ∃ O, Bx O (fun _ => False) X) ?_ X0 hp.1 hp.2 ⟨O0, hO, Nat.le_refl _, h00⟩).mono ?_
  · rintro p x X hpx ⟨O, hO, hs, hi⟩
    refine (hT O (fun _ => False) p x (p ++ [x]) X (fun k h => h.elim) (fun k h => h.elim) hO hs hi ⟨rfl, hpx⟩).mono ?_
    rintro e X' ⟨O', (⟨rfl, h⟩ | ⟨rfl, h⟩), hf⟩
    · exact .inl ⟨rfl, O', fun k hk => (hf.ext k hk).1, Nat.le_trans hs hf.size, h⟩
    · exact .inr ⟨rfl, O', h⟩
  · rintro e X ⟨hv, (⟨O, hol, _, h⟩ | ⟨O, h⟩)⟩
    · exact ⟨hv, .inl ⟨O, fun _ => False, _, fun k h => h.elim, fun k h => h.elim, hol, rfl, h⟩⟩
    · exact ⟨hv, .inr ⟨O, fun _ => False, fun k h => h.elim, h⟩⟩
/-- behind made's first statement -/
structure Md1 (W1 : World) (leaf : List UInt8) (vp : Value) (p6 p7 gb cb : Nat) (X : World) : Prop where
  b6 : Boxed X p6 40 (.slice (some ⟨gb, 0, none⟩) (leaf.length + 1) cb)
  b7 : Boxed X p7 25 vp
  buf : Buf X gb cb (0 :: leaf)
  below : Below W1.heap.size W1 X
  g6 : W1.heap.size ≤ p6
  g7 : W1.heap.size ≤ p7
  gg : W1.heap.size ≤ gb
/-- what stays, in made's loop -/
structure MdE where
  leaf : List UInt8
  ps : List (List UInt8)
  us : List Bool
  p5 : Nat
  p6 : Nat
  p7 : Nat
  q : Nat
  D : Nat
  n : Nat
  i : Nat
  m : Nat
  cp : Nat
  op : Option Addr
  yf : Value
structure MdE.ok (E : MdE) : Prop where
  h6 : E.p5 < E.p6
  h7 : E.p5 < E.p7
  q6 : E.p6 < E.q
  q7 : E.p7 < E.q
  qd : E.q + 2 = E.D
def mo (E : MdE) (M : Rf.Blk) : Rf.Blk := fun k => M k ∨ k = E.p6 ∨ k = E.p7 ∨ k = E.D ∨ k = E.D + 1
theorem mo_new {E : MdE} (hE : E.ok) {M : Rf.Blk} {B : Nat} (hM : ∀ k, M k → E.D + 2 ≤ k) (hB : B ≤ E.p5) : ∀ k, mo E M k → B ≤ k := fun k hk => by
  have e1 := hE.h6
  have e2 := hE.h7
  have e3 := hE.q6
  have e5 := hE.qd
  rcases hk with h | h | h | h | h
  · have := hM k h; omega
  · omega
  · omega
  · omega
  · omega
/-- between two rounds, but for what the caller knows -/
structure MdB (E : MdE) (O M : Rf.Blk) (s : Nat) (Oo : Rf.Blk) (gb cb : Nat) (o' : Option Addr) (c' : Nat) (X : World) : Prop where
  eo : ∀ k, O k ↔ Oo k ∨ k = E.p6 ∨ k = E.p7
  lo : ∀ k, Oo k → k < E.p5 ∨ E.D + 2 ≤ k
  ol : ∀ k, Oo k → k < X.heap.size
  b5 : Boxed X E.p5 93 E.yf
  b6 : Boxed X E.p6 40 (.slice (some ⟨gb, 0, none⟩) (Da.mbs (0 :: E.leaf) E.us E.ps s).length cb)
  b7 : Boxed X E.p7 25 (.slice o' (E.m - s) c')
  bn : Boxed X E.q 3 (.int .i64 (E.n : Int))
  bi : Boxed X (E.q + 1) 3 (.int .i64 (E.i : Int))
  buf : Buf X gb cb (Da.mbs (0 :: E.leaf) E.us E.ps s)
  og : ¬ Oo gb
  mg : ¬ mo E M gb
  rs : ∀ Y, DgIs Y E.op E.ps E.cp → DgIs Y o' (E.ps.drop s) c'
theorem MdB.move {E : MdE} {O M O' : Rf.Blk} {s : Nat} {Oo Oo' : Rf.Blk} {gb cb c' : Nat} {o' : Option Addr} {X X' : World} (h : MdB E O M s Oo gb cb o' c' X) (hs : X.heap.size ≤ X'.heap.size)
    (hk : ∀ k, k = E.p5 ∨ k = E.p6 ∨ k = E.p7 ∨ k = E.q ∨ k = E.q + 1 ∨ k = gb → X'.heap[k]? = X.heap[k]?) (eo : ∀ k, O' k ↔ Oo' k ∨ k = E.p6 ∨ k = E.p7) (lo : ∀ k, Oo' k → k < E.p5 ∨ E.D + 2 ≤ k) (ol : ∀ k, Oo' k → k < X'.heap.size) (og : ¬ Oo' gb) : MdB E O' M s Oo' gb cb o' c' X' :=
  ⟨eo, lo, ol, box_block h.b5 (hk _ (by simp)), box_block h.b6 (hk _ (by simp)), box_block h.b7 (hk _ (by simp)), box_block h.bn (hk _ (by simp)), box_block h.bi (hk _ (by simp)), h.buf.block (hk _ (by simp)), og, h.mg, h.rs⟩
theorem MdB.mut {E : MdE} (hE : E.ok) {O M : Rf.Blk} {s : Nat} {Oo : Rf.Blk} {gb cb c' : Nat} {o' : Option Addr} {X X' : World} (h : MdB E O M s Oo gb cb o' c' X) (hM : ∀ k, M k → E.D + 2 ≤ k) (k : Rf.Mut (Rf.own2 E.D M) X X') : MdB E O M s Oo gb cb o' c' X' := by
  have e1 := hE.h6
  have e2 := hE.h7
  have e3 := hE.q6
  have e4 := hE.q7
  have e5 := hE.qd
  have hn : ∀ k, k < E.D → ¬ Rf.own2 E.D M k := fun k hk hh => by
    rcases hh with h1 | h1 | h1
    · have := hM k h1; omega
    · omega
    · omega
  refine h.move k.size (fun j hj => ?_) h.eo h.lo (fun j hj => Nat.lt_of_lt_of_le (h.ol j hj) k.size) h.og
  rcases hj with rfl | rfl | rfl | rfl | rfl | rfl
  · exact k.same _ h.b5.lt (hn _ (by omega))
  · exact k.same _ h.b6.lt (hn _ (by omega))
  · exact k.same _ h.b7.lt (hn _ (by omega))
  · exact k.same _ h.bn.lt (hn _ (by omega))
  · exact k.same _ h.bi.lt (hn _ (by omega))
  · refine k.same _ h.buf.lt fun hh => h.mg ?_
    rcases hh with h1 | h1 | h1
    · exact .inl h1
    · exact .inr (.inr (.inr (.inl h1)))
    · exact .inr (.inr (.inr (.inr h1)))
theorem MdB.below {E : MdE} {O M : Rf.Blk} {s : Nat} {Oo : Rf.Blk} {gb cb c' : Nat} {o' : Option Addr} {X X' : World} (h : MdB E O M s Oo gb cb o' c' X) (hb : Below X.heap.size X X') : MdB E O M s Oo gb cb o' c' X' := by
  refine h.move hb.size (fun j hj => hb.block j ?_) h.eo h.lo (fun j hj => Nat.lt_of_lt_of_le (h.ol j hj) hb.size) h.og
  rcases hj with rfl | rfl | rfl | rfl | rfl | rfl
  · exact h.b5.lt
  · exact h.b6.lt
  · exact h.b7.lt
  · exact h.bn.lt
  · exact h.bi.lt
  · exact h.buf.lt
/-- a round of the caller's has run -/
theorem MdB.fr {E : MdE} (hE : E.ok) {O M : Rf.Blk} {s : Nat} {Oo Oo' : Rf.Blk} {gb cb c' : Nat} {o' : Option Addr} {X X' : World} (h : MdB E O M s Oo gb cb o' c' X) (hD : E.D + 2 ≤ X.heap.size) (hf : Rf.Fr Oo X Oo' X') : MdB E (fun k => Oo' k ∨ k = E.p6 ∨ k = E.p7) M s Oo' gb cb o' c' X' := by
  have e1 := hE.h6
  have e2 := hE.h7
  have e3 := hE.q6
  have e4 := hE.q7
  have e5 := hE.qd
  have hn : ∀ k, E.p5 ≤ k → k < E.D + 2 → ¬ Oo k := fun k h1 h2 hh => by
    have := h.lo k hh
    omega
  refine h.move hf.size (fun j hj => ?_) (fun _ => Iff.rfl) (fun k hk => ?_) (fun k hk => (hf.ext k hk).1) (fun hk => ?_)
  · rcases hj with rfl | rfl | rfl | rfl | rfl | rfl
    · exact hf.same _ h.b5.lt (hn _ (by omega) (by omega))
    · exact hf.same _ h.b6.lt (hn _ (by omega) (by omega))
    · exact hf.same _ h.b7.lt (hn _ (by omega) (by omega))
    · exact hf.same _ h.bn.lt (hn _ (by omega) (by omega))
    · exact hf.same _ h.bi.lt (hn _ (by omega) (by omega))
    · exact hf.same _ h.buf.lt h.og
  · rcases (hf.ext k hk).2 with h1 | h1
    · exact h.lo k h1
    · exact .inr (by omega)
  · rcases (hf.ext gb hk).2 with h1 | h1
    · exact h.og h1
    · have := h.buf.lt; omega
theorem Da.mbs_len (b : List UInt8) (us : List Bool) (ps : List (List UInt8)) (s : Nat) (h : (bi ps s).length = 32) : (Da.mbs b us ps (s + 1)).length = 65 := by
  rw [Da.mbs, Da.inn]
  split <;> simp [h, Da.sha_length]
theorem Md1.of {W1 V : World} {leaf : List UInt8} {vp : Value} {p6 p7 gb cb : Nat} (h6 : Boxed V p6 40 (.slice none 0 0)) (h7 : Boxed V p7 25 (.slice none 0 0)) (hb : Buf V gb cb (0 :: leaf)) (hB : Below W1.heap.size W1 V)
    (g6 : W1.heap.size ≤ p6) (g7 : W1.heap.size ≤ p7) (gg : W1.heap.size ≤ gb) :
    Boxed (V.setCell ⟨p6, 0, none⟩ (.slice (some ⟨gb, 0, none⟩) (leaf.length + 1) cb)) p7 25 (.slice none 0 0) ∧
    Md1 W1 leaf vp p6 p7 gb cb ((V.setCell ⟨p6, 0, none⟩ (.slice (some ⟨gb, 0, none⟩) (leaf.length + 1) cb)).setCell ⟨p7, 0, none⟩ vp) := by
  have hne := box_ne h6 h7 (by decide)
  have hn6 := hb.ne h6 (by decide)
  have hn7 := hb.ne h7 (by decide)
  have k6 := h6.set (.slice (some ⟨gb, 0, none⟩) (leaf.length + 1) cb)
  have k7 := h7.other (B' := p6) (fun e => hne e.symm) (.slice (some ⟨gb, 0, none⟩) (leaf.length + 1) cb)
  have kb : Buf (V.setCell ⟨p6, 0, none⟩ (.slice (some ⟨gb, 0, none⟩) (leaf.length + 1) cb)) gb cb (0 :: leaf) := hb.block ((grownBy_setCell' V p6 _).block gb hb.lt (by simp; exact hn6))
  refine ⟨k7, k6.other hne _, k7.set _, kb.block ((grownBy_setCell' _ p7 _).block gb kb.lt (by simp; exact hn7)), ?_, g6, g7, gg⟩
  exact (hB.setCell (p := ⟨p6, 0, none⟩) g6 _).setCell (p := ⟨p7, 0, none⟩) g7 _
set_option maxRecDepth 100000 in
set_option maxHeartbeats 8000000 in
theorem made_gives (leaf : List UInt8) (ol : Option Addr) (cl : Nat) (ps : List (List UInt8)) (op : Option Addr) (m cp n i QL QP QN QI : Nat) (hm : ps.length = m) (hu : (Da.ups n i).length = m) (hi : i < n) (h5 : n ≤ 512) (hl5 : leaf.length ≤ 8900) :
    Rf.GivesM Tryd.prog 50 #[.pointer (some ⟨QL, 0, none⟩), .pointer (some ⟨QP, 0, none⟩), .pointer (some ⟨QN, 0, none⟩), .pointer (some ⟨QI, 0, none⟩)] (fun x : Nat × Nat × List UInt8 => #[.slice (some ⟨x.1, 0, none⟩) x.2.2.length x.2.1])
      (fun X => Boxed X QL 40 (.slice ol leaf.length cl) ∧ Boxed X QP 25 (.slice op m cp) ∧ Boxed X QN 3 (.int .i64 (n : Int)) ∧ Boxed X QI 3 (.int .i64 (i : Int)) ∧ RowIs X ol (bytesV leaf) cl ∧ DgIs X op ps cp ∧ Cds X)
      (fun M s x s' X => s' = s + 1 ∧ s ≤ m ∧ x.2.2 = Da.mbs (0 :: leaf) (Da.ups n i) ps s ∧ Buf X x.1 x.2.1 x.2.2 ∧ ¬ M x.1) 0 (fun s => s = m + 1) := by
  intro l X0 I Bx O0 hl hO hP hI hBx hT h0
  obtain ⟨p5, hp5⟩ : ∃ p, X0.heap.size = p := ⟨_, rfl⟩
  have hPre := hP _ _ _ _ (h0 (fun _ => False) (fun k h => h.elim))
  obtain ⟨W1, hW1⟩ : ∃ W1, X0.alloc (.cells #[.func (.yield l) #[] #[]] 93) = W1 := ⟨_, rfl⟩
  have hb1 : Below X0.heap.size X0 W1 := by rw [← hW1]; exact new12 _ _
  have hX5 : Boxed W1 p5 93 (.func (.yield l) #[] #[]) := by rw [← hW1, ← hp5]; exact Boxed.new _ _ _
  have hs1 : W1.heap.size = p5 + 1 := by rw [← hW1, World.size_alloc, hp5]
  obtain ⟨hQL, hQP, hQN, hQI, hRL, hDP, hCd⟩ := hPre
  obtain ⟨L, hLL⟩ : ∃ L, leaf.length = L := ⟨_, rfl⟩
  obtain ⟨C, hC⟩ : ∃ C : World → Prop, (fun v => Below W1.heap.size W1 v) = C := ⟨_, rfl⟩
  have HC1 : Hid (∀ v, Below W1.heap.size W1 v → C v) := Lib.hid fun v hv => by rw [← hC]; exact hv
  have HC2 : Hid (∀ v, C v → Below W1.heap.size W1 v) := Lib.hid fun v hv => by rw [← hC] at hv; exact hv
  have hQL1 := boxed_later hQL hb1
  have hQP1 := boxed_later hQP hb1
  have HCL : Hid (∀ w, C w → w.cell? ⟨QL, 0, none⟩ = some (.slice ol L cl)) := Lib.hid fun w hw => by rw [← hLL]; exact (boxed_later hQL1 (HC2.out w hw)).cell
  have HCP : Hid (∀ w, C w → w.cell? ⟨QP, 0, none⟩ = some (.slice op m cp)) := Lib.hid fun w hw => (boxed_later hQP1 (HC2.out w hw)).cell
  have HOU : Hid (∀ v, Below W1.heap.size W1 v → Calls Tryd.prog 51 #[.slice ol L cl] v fun e w' => ∃ g cap, e = .returned (.slice (some ⟨g, 0, none⟩) (L + 1) cap) ∧ v.heap.size ≤ g ∧ Buf w' g cap (0 :: leaf) ∧ Below v.heap.size v w') := Lib.hid fun v hv => by
    have := touter_any leaf ol cl v ((hRL.later hb1).later hv) (by omega)
    rw [hLL] at this
    exact this
  have HB1 := Lib.hid hb1
  have HP5 := Lib.hid hp5
  have HW1 := Lib.hid hW1
  have HX5 := Lib.hid hX5
  have HS1 := Lib.hid hs1
  have HM := Lib.hid hm
  have HU := Lib.hid hu
  have HI' := Lib.hid hi
  have HH5 := Lib.hid h5
  have HLL := Lib.hid hLL
  have HL := Lib.hid hl
  have HO := Lib.hid hO
  have HPP := Lib.hid hP
  have HII := Lib.hid hI
  have HBX := Lib.hid hBx
  have HT := Lib.hid hT
  have H00 := Lib.hid h0
  have HQS := Lib.hid (show QL < X0.heap.size ∧ QP < X0.heap.size ∧ QN < X0.heap.size ∧ QI < X0.heap.size from ⟨hQL.lt, hQP.lt, hQN.lt, hQI.lt⟩)
  have hdm : m ≤ 9 := by rw [← hu]; exact Da.ups_nine h5 i
  clear hb1 hp5 hW1 hX5 hs1 hm hu hi hLL hl hO hP hI hBx hT h0 hQL hQP hQN hQI hRL hDP hCd hQL1 hQP1 hC
  refine Rf.calls_marks Tryd.func50 rfl ?_
  simp only [Tryd.ntmps50, List.size_toArray, List.length_cons, List.length_nil, Nat.reduceAdd, Nat.reduceSub, Array.replicate_succ, Array.replicate_zero, List.push_toArray, List.append_toArray, List.nil_append, List.cons_append]
  go_upto_region 1 with fail
  rw [HW1.out, HP5.out]
  clear HW1
  refine Code.wp_mono (Q := fun e b' v => e = .normal ∧ ∃ p6 p7 gb cb, Md1 W1 leaf (.slice op m cp) p6 p7 gb cb v ∧ b' = { tmps := #[.func (.yield l) #[] #[], .pointer (some ⟨QL, 0, none⟩), .pointer (some ⟨QP, 0, none⟩), .pointer (some ⟨QN, 0, none⟩), .pointer (some ⟨QI, 0, none⟩), .pointer (some ⟨p5, 0, none⟩), .pointer (some ⟨p6, 0, none⟩), .pointer (some ⟨p7, 0, none⟩), undef, .slice ol L cl, .slice (some ⟨gb, 0, none⟩) (L + 1) cb, .slice op m cp, undef, undef, undef, undef, undef, undef, undef, undef, undef, undef, undef, undef, undef, undef, undef, undef, undef, undef, undef, undef, undef], defers := [] }) ?rest ?reg
  case reg =>
    refine Rgt.region C (fun _ => false) (by kernel_rfl) ?_
    have hC0 : C W1.drew := HC1.out _ (Kit.dn' W1 1)
    have HBL : Hid (Below W1.heap.size W1 W1.drew) := Lib.hid (Kit.dn' W1 1)
    refine Rgt.take (i := 0) (x := .slice ol L cl) rfl rfl (by kernel_rfl) (by kernel_rfl) (by kernel_rfl) (by kernel_rfl) (fun _ _ _ h => (by cases h.1)) (Or.inl ⟨by kernel_rfl, fun w hw => by have hc := HCL.out w hw; (go_simp <;> with_reducible rfl)⟩) hC0 ?_
    go_simp
    refine Rgt.take (i := 2) (x := .slice op m cp) rfl rfl (by kernel_rfl) (by kernel_rfl) (by kernel_rfl) (by kernel_rfl) (fun _ _ _ h => (by cases h.1)) (Or.inl ⟨by kernel_rfl, fun w hw => by have hc := HCP.out w hw; (go_simp <;> with_reducible rfl)⟩) hC0 ?_
    go_simp
    obtain ⟨V0, hV⟩ : ∃ V, W1.drew = V := ⟨_, rfl⟩
    rw [hV] at HBL ⊢
    clear hV hC0
    refine Rgt.ready3 (i := 1) (j := 3) (k := 4) (by kernel_rfl) rfl rfl rfl (by kernel_rfl) (by kernel_rfl) (by kernel_rfl) (fun K hK => ?_) (fun K hK => ?_) (fun K hK => ?_)
    · go_simp
      refine (HOU.out _ HBL.out).mono ?_
      rintro e V1 ⟨gb, cb, rfl, hgb, hbuf, hb⟩
      refine hK _ _ (HC1.out _ (Kit.step HBL.out hb)) ?_
      clear hK K
      have HGB := Lib.hid (Nat.le_trans HBL.out.size hgb)
      have HBUF := Lib.hid hbuf
      have HBL := Lib.hid (Kit.step HBL.out hb)
      clear hb hbuf hgb
      refine Rgt.ready2 (i := 3) (j := 4) (by kernel_rfl) rfl rfl (by kernel_rfl) (by kernel_rfl) (fun K hK => ?_) (fun K hK => ?_)
      · go_simp
        have hb := new12 V1 (.cells #[.slice none 0 0] 40)
        refine hK _ _ (HC1.out _ (Kit.step HBL.out hb)) ?_
        clear hK K
        obtain ⟨p6, hp6⟩ : ∃ p, V1.heap.size = p := ⟨_, rfl⟩
        have hx : Boxed (V1.alloc (.cells #[.slice none 0 0] 40)) p6 40 (.slice none 0 0) := by rw [← hp6]; exact Boxed.new _ _ _
        have HG6 : Hid (W1.heap.size ≤ p6) := Lib.hid (by rw [← hp6]; exact HBL.out.size)
        obtain ⟨V2, hV2⟩ : ∃ U, V1.alloc (.cells #[.slice none 0 0] 40) = U := ⟨_, rfl⟩
        rw [hV2] at hb hx ⊢
        rw [hp6]
        have H6 := Lib.hid hx
        have HBUF := Lib.hid (HBUF.out.later hb)
        have HBL := Lib.hid (Kit.step HBL.out hb)
        clear hb hx hV2 hp6
        refine Rgt.ready (i := 4) (by kernel_rfl) rfl (by kernel_rfl) (fun K hK => ?_)
        go_simp
        have hb := new12 V2 (.cells #[.slice none 0 0] 25)
        refine hK _ _ (HC1.out _ (Kit.step HBL.out hb)) ?_
        clear hK K
        obtain ⟨p7, hp7⟩ : ∃ p, V2.heap.size = p := ⟨_, rfl⟩
        have hx : Boxed (V2.alloc (.cells #[.slice none 0 0] 25)) p7 25 (.slice none 0 0) := by rw [← hp7]; exact Boxed.new _ _ _
        have HG7 : Hid (W1.heap.size ≤ p7) := Lib.hid (by rw [← hp7]; exact HBL.out.size)
        obtain ⟨V3, hV2⟩ : ∃ U, V2.alloc (.cells #[.slice none 0 0] 25) = U := ⟨_, rfl⟩
        rw [hV2] at hb hx ⊢
        rw [hp7]
        have H7 := Lib.hid hx
        have HBUF := Lib.hid (HBUF.out.later hb)
        have H6 := Lib.hid (boxed_later H6.out hb)
        have HBL := Lib.hid (Kit.step HBL.out hb)
        clear hb hx hV2 hp7
        obtain ⟨k7, HM⟩ := Md1.of (vp := .slice op m cp) H6.out H7.out HBUF.out HBL.out HG6.out HG7.out HGB.out
        have hc6 := H6.out.cell
        have hf6 := H6.out.frozen
        have hc7 := k7.cell
        have hf7 := k7.frozen
        rw [HLL.out] at hc7 hf7 HM
        have HMM := Lib.hid HM
        clear k7 HM
        refine Rgt.ready (i := 5) (by kernel_rfl) rfl (by kernel_rfl) (fun K hK => ?_)
        go_simp
        refine hK _ _ (HC1.out _ (HBL.out.setCell (p := ⟨p6, 0, none⟩) HG6.out _)) ?_
        clear hK K
        refine Rgt.ready (i := 6) (by kernel_rfl) rfl (by kernel_rfl) (fun K hK => ?_)
        go_simp
        refine hK _ _ (HC1.out _ HMM.out.below) ?_
        clear hK K
        refine Rgt.done (by kernel_rfl) ?_ _
        exact ⟨rfl, p6, p7, gb, cb, HMM.out, rfl⟩
      · go_simp
        have hb := new12 V1 (.cells #[.slice none 0 0] 25)
        refine hK _ _ (HC1.out _ (Kit.step HBL.out hb)) ?_
        clear hK K
        obtain ⟨p7, hp7⟩ : ∃ p, V1.heap.size = p := ⟨_, rfl⟩
        have hx : Boxed (V1.alloc (.cells #[.slice none 0 0] 25)) p7 25 (.slice none 0 0) := by rw [← hp7]; exact Boxed.new _ _ _
        have HG7 : Hid (W1.heap.size ≤ p7) := Lib.hid (by rw [← hp7]; exact HBL.out.size)
        obtain ⟨V2, hV2⟩ : ∃ U, V1.alloc (.cells #[.slice none 0 0] 25) = U := ⟨_, rfl⟩
        rw [hV2] at hb hx ⊢
        rw [hp7]
        have H7 := Lib.hid hx
        have HBUF := Lib.hid (HBUF.out.later hb)
        have HBL := Lib.hid (Kit.step HBL.out hb)
        clear hb hx hV2 hp7
        refine Rgt.ready (i := 3) (by kernel_rfl) rfl (by kernel_rfl) (fun K hK => ?_)
        go_simp
        have hb := new12 V2 (.cells #[.slice none 0 0] 40)
        refine hK _ _ (HC1.out _ (Kit.step HBL.out hb)) ?_
        clear hK K
        obtain ⟨p6, hp6⟩ : ∃ p, V2.heap.size = p := ⟨_, rfl⟩
        have hx : Boxed (V2.alloc (.cells #[.slice none 0 0] 40)) p6 40 (.slice none 0 0) := by rw [← hp6]; exact Boxed.new _ _ _
        have HG6 : Hid (W1.heap.size ≤ p6) := Lib.hid (by rw [← hp6]; exact HBL.out.size)
        obtain ⟨V3, hV2⟩ : ∃ U, V2.alloc (.cells #[.slice none 0 0] 40) = U := ⟨_, rfl⟩
        rw [hV2] at hb hx ⊢
        rw [hp6]
        have H6 := Lib.hid hx
        have HBUF := Lib.hid (HBUF.out.later hb)
        have H7 := Lib.hid (boxed_later H7.out hb)
        have HBL := Lib.hid (Kit.step HBL.out hb)
        clear hb hx hV2 hp6
        obtain ⟨k7, HM⟩ := Md1.of (vp := .slice op m cp) H6.out H7.out HBUF.out HBL.out HG6.out HG7.out HGB.out
        have hc6 := H6.out.cell
        have hf6 := H6.out.frozen
        have hc7 := k7.cell
        have hf7 := k7.frozen
        rw [HLL.out] at hc7 hf7 HM
        have HMM := Lib.hid HM
        clear k7 HM
        refine Rgt.ready (i := 5) (by kernel_rfl) rfl (by kernel_rfl) (fun K hK => ?_)
        go_simp
        refine hK _ _ (HC1.out _ (HBL.out.setCell (p := ⟨p6, 0, none⟩) HG6.out _)) ?_
        clear hK K
        refine Rgt.ready (i := 6) (by kernel_rfl) rfl (by kernel_rfl) (fun K hK => ?_)
        go_simp
        refine hK _ _ (HC1.out _ HMM.out.below) ?_
        clear hK K
        refine Rgt.done (by kernel_rfl) ?_ _
        exact ⟨rfl, p6, p7, gb, cb, HMM.out, rfl⟩
    · go_simp
      have hb := new12 V0 (.cells #[.slice none 0 0] 40)
      refine hK _ _ (HC1.out _ (Kit.step HBL.out hb)) ?_
      clear hK K
      obtain ⟨p6, hp6⟩ : ∃ p, V0.heap.size = p := ⟨_, rfl⟩
      have hx : Boxed (V0.alloc (.cells #[.slice none 0 0] 40)) p6 40 (.slice none 0 0) := by rw [← hp6]; exact Boxed.new _ _ _
      have HG6 : Hid (W1.heap.size ≤ p6) := Lib.hid (by rw [← hp6]; exact HBL.out.size)
      obtain ⟨V1, hV2⟩ : ∃ U, V0.alloc (.cells #[.slice none 0 0] 40) = U := ⟨_, rfl⟩
      rw [hV2] at hb hx ⊢
      rw [hp6]
      have H6 := Lib.hid hx
      have HBL := Lib.hid (Kit.step HBL.out hb)
      clear hb hx hV2 hp6
      refine Rgt.ready2 (i := 1) (j := 4) (by kernel_rfl) rfl rfl (by kernel_rfl) (by kernel_rfl) (fun K hK => ?_) (fun K hK => ?_)
      · go_simp
        refine (HOU.out _ HBL.out).mono ?_
        rintro e V2 ⟨gb, cb, rfl, hgb, hbuf, hb⟩
        refine hK _ _ (HC1.out _ (Kit.step HBL.out hb)) ?_
        clear hK K
        have HGB := Lib.hid (Nat.le_trans HBL.out.size hgb)
        have HBUF := Lib.hid hbuf
        have H6 := Lib.hid (boxed_later H6.out hb)
        have HBL := Lib.hid (Kit.step HBL.out hb)
        clear hb hbuf hgb
        refine Rgt.ready (i := 4) (by kernel_rfl) rfl (by kernel_rfl) (fun K hK => ?_)
        go_simp
        have hb := new12 V2 (.cells #[.slice none 0 0] 25)
        refine hK _ _ (HC1.out _ (Kit.step HBL.out hb)) ?_
        clear hK K
        obtain ⟨p7, hp7⟩ : ∃ p, V2.heap.size = p := ⟨_, rfl⟩
        have hx : Boxed (V2.alloc (.cells #[.slice none 0 0] 25)) p7 25 (.slice none 0 0) := by rw [← hp7]; exact Boxed.new _ _ _
        have HG7 : Hid (W1.heap.size ≤ p7) := Lib.hid (by rw [← hp7]; exact HBL.out.size)
        obtain ⟨V3, hV2⟩ : ∃ U, V2.alloc (.cells #[.slice none 0 0] 25) = U := ⟨_, rfl⟩
        rw [hV2] at hb hx ⊢
        rw [hp7]
        have H7 := Lib.hid hx
        have H6 := Lib.hid (boxed_later H6.out hb)
        have HBUF := Lib.hid (HBUF.out.later hb)
        have HBL := Lib.hid (Kit.step HBL.out hb)
        clear hb hx hV2 hp7
        obtain ⟨k7, HM⟩ := Md1.of (vp := .slice op m cp) H6.out H7.out HBUF.out HBL.out HG6.out HG7.out HGB.out
        have hc6 := H6.out.cell
        have hf6 := H6.out.frozen
        have hc7 := k7.cell
        have hf7 := k7.frozen
        rw [HLL.out] at hc7 hf7 HM
        have HMM := Lib.hid HM
        clear k7 HM
        refine Rgt.ready (i := 5) (by kernel_rfl) rfl (by kernel_rfl) (fun K hK => ?_)
        go_simp
        refine hK _ _ (HC1.out _ (HBL.out.setCell (p := ⟨p6, 0, none⟩) HG6.out _)) ?_
        clear hK K
        refine Rgt.ready (i := 6) (by kernel_rfl) rfl (by kernel_rfl) (fun K hK => ?_)
        go_simp
        refine hK _ _ (HC1.out _ HMM.out.below) ?_
        clear hK K
        refine Rgt.done (by kernel_rfl) ?_ _
        exact ⟨rfl, p6, p7, gb, cb, HMM.out, rfl⟩
      · go_simp
        have hb := new12 V1 (.cells #[.slice none 0 0] 25)
        refine hK _ _ (HC1.out _ (Kit.step HBL.out hb)) ?_
        clear hK K
        obtain ⟨p7, hp7⟩ : ∃ p, V1.heap.size = p := ⟨_, rfl⟩
        have hx : Boxed (V1.alloc (.cells #[.slice none 0 0] 25)) p7 25 (.slice none 0 0) := by rw [← hp7]; exact Boxed.new _ _ _
        have HG7 : Hid (W1.heap.size ≤ p7) := Lib.hid (by rw [← hp7]; exact HBL.out.size)
        obtain ⟨V2, hV2⟩ : ∃ U, V1.alloc (.cells #[.slice none 0 0] 25) = U := ⟨_, rfl⟩
        rw [hV2] at hb hx ⊢
        rw [hp7]
        have H7 := Lib.hid hx
        have H6 := Lib.hid (boxed_later H6.out hb)
        have HBL := Lib.hid (Kit.step HBL.out hb)
        clear hb hx hV2 hp7
        refine Rgt.ready (i := 1) (by kernel_rfl) rfl (by kernel_rfl) (fun K hK => ?_)
        go_simp
        refine (HOU.out _ HBL.out).mono ?_
        rintro e V3 ⟨gb, cb, rfl, hgb, hbuf, hb⟩
        refine hK _ _ (HC1.out _ (Kit.step HBL.out hb)) ?_
        clear hK K
        have HGB := Lib.hid (Nat.le_trans HBL.out.size hgb)
        have HBUF := Lib.hid hbuf
        have H6 := Lib.hid (boxed_later H6.out hb)
        have H7 := Lib.hid (boxed_later H7.out hb)
        have HBL := Lib.hid (Kit.step HBL.out hb)
        clear hb hbuf hgb
        obtain ⟨k7, HM⟩ := Md1.of (vp := .slice op m cp) H6.out H7.out HBUF.out HBL.out HG6.out HG7.out HGB.out
        have hc6 := H6.out.cell
        have hf6 := H6.out.frozen
        have hc7 := k7.cell
        have hf7 := k7.frozen
        rw [HLL.out] at hc7 hf7 HM
        have HMM := Lib.hid HM
        clear k7 HM
        refine Rgt.ready (i := 5) (by kernel_rfl) rfl (by kernel_rfl) (fun K hK => ?_)
        go_simp
        refine hK _ _ (HC1.out _ (HBL.out.setCell (p := ⟨p6, 0, none⟩) HG6.out _)) ?_
        clear hK K
        refine Rgt.ready (i := 6) (by kernel_rfl) rfl (by kernel_rfl) (fun K hK => ?_)
        go_simp
        refine hK _ _ (HC1.out _ HMM.out.below) ?_
        clear hK K
        refine Rgt.done (by kernel_rfl) ?_ _
        exact ⟨rfl, p6, p7, gb, cb, HMM.out, rfl⟩
    · go_simp
      have hb := new12 V0 (.cells #[.slice none 0 0] 25)
      refine hK _ _ (HC1.out _ (Kit.step HBL.out hb)) ?_
      clear hK K
      obtain ⟨p7, hp7⟩ : ∃ p, V0.heap.size = p := ⟨_, rfl⟩
      have hx : Boxed (V0.alloc (.cells #[.slice none 0 0] 25)) p7 25 (.slice none 0 0) := by rw [← hp7]; exact Boxed.new _ _ _
      have HG7 : Hid (W1.heap.size ≤ p7) := Lib.hid (by rw [← hp7]; exact HBL.out.size)
      obtain ⟨V1, hV2⟩ : ∃ U, V0.alloc (.cells #[.slice none 0 0] 25) = U := ⟨_, rfl⟩
      rw [hV2] at hb hx ⊢
      rw [hp7]
      have H7 := Lib.hid hx
      have HBL := Lib.hid (Kit.step HBL.out hb)
      clear hb hx hV2 hp7
      refine Rgt.ready2 (i := 1) (j := 3) (by kernel_rfl) rfl rfl (by kernel_rfl) (by kernel_rfl) (fun K hK => ?_) (fun K hK => ?_)
      · go_simp
        refine (HOU.out _ HBL.out).mono ?_
        rintro e V2 ⟨gb, cb, rfl, hgb, hbuf, hb⟩
        refine hK _ _ (HC1.out _ (Kit.step HBL.out hb)) ?_
        clear hK K
        have HGB := Lib.hid (Nat.le_trans HBL.out.size hgb)
        have HBUF := Lib.hid hbuf
        have H7 := Lib.hid (boxed_later H7.out hb)
        have HBL := Lib.hid (Kit.step HBL.out hb)
        clear hb hbuf hgb
        refine Rgt.ready (i := 3) (by kernel_rfl) rfl (by kernel_rfl) (fun K hK => ?_)
        go_simp
        have hb := new12 V2 (.cells #[.slice none 0 0] 40)
        refine hK _ _ (HC1.out _ (Kit.step HBL.out hb)) ?_
        clear hK K
        obtain ⟨p6, hp6⟩ : ∃ p, V2.heap.size = p := ⟨_, rfl⟩
        have hx : Boxed (V2.alloc (.cells #[.slice none 0 0] 40)) p6 40 (.slice none 0 0) := by rw [← hp6]; exact Boxed.new _ _ _
        have HG6 : Hid (W1.heap.size ≤ p6) := Lib.hid (by rw [← hp6]; exact HBL.out.size)
        obtain ⟨V3, hV2⟩ : ∃ U, V2.alloc (.cells #[.slice none 0 0] 40) = U := ⟨_, rfl⟩
        rw [hV2] at hb hx ⊢
        rw [hp6]
        have H6 := Lib.hid hx
        have H7 := Lib.hid (boxed_later H7.out hb)
        have HBUF := Lib.hid (HBUF.out.later hb)
        have HBL := Lib.hid (Kit.step HBL.out hb)
        clear hb hx hV2 hp6
        obtain ⟨k7, HM⟩ := Md1.of (vp := .slice op m cp) H6.out H7.out HBUF.out HBL.out HG6.out HG7.out HGB.out
        have hc6 := H6.out.cell
        have hf6 := H6.out.frozen
        have hc7 := k7.cell
        have hf7 := k7.frozen
        rw [HLL.out] at hc7 hf7 HM
        have HMM := Lib.hid HM
        clear k7 HM
        refine Rgt.ready (i := 5) (by kernel_rfl) rfl (by kernel_rfl) (fun K hK => ?_)
        go_simp
        refine hK _ _ (HC1.out _ (HBL.out.setCell (p := ⟨p6, 0, none⟩) HG6.out _)) ?_
        clear hK K
        refine Rgt.ready (i := 6) (by kernel_rfl) rfl (by kernel_rfl) (fun K hK => ?_)
        go_simp
        refine hK _ _ (HC1.out _ HMM.out.below) ?_
        clear hK K
        refine Rgt.done (by kernel_rfl) ?_ _
        exact ⟨rfl, p6, p7, gb, cb, HMM.out, rfl⟩
      · go_simp
        have hb := new12 V1 (.cells #[.slice none 0 0] 40)
        refine hK _ _ (HC1.out _ (Kit.step HBL.out hb)) ?_
        clear hK K
        obtain ⟨p6, hp6⟩ : ∃ p, V1.heap.size = p := ⟨_, rfl⟩
        have hx : Boxed (V1.alloc (.cells #[.slice none 0 0] 40)) p6 40 (.slice none 0 0) := by rw [← hp6]; exact Boxed.new _ _ _
        have HG6 : Hid (W1.heap.size ≤ p6) := Lib.hid (by rw [← hp6]; exact HBL.out.size)
        obtain ⟨V2, hV2⟩ : ∃ U, V1.alloc (.cells #[.slice none 0 0] 40) = U := ⟨_, rfl⟩
        rw [hV2] at hb hx ⊢
        rw [hp6]
        have H6 := Lib.hid hx
        have H7 := Lib.hid (boxed_later H7.out hb)
        have HBL := Lib.hid (Kit.step HBL.out hb)
        clear hb hx hV2 hp6
        refine Rgt.ready (i := 1) (by kernel_rfl) rfl (by kernel_rfl) (fun K hK => ?_)
        go_simp
        refine (HOU.out _ HBL.out).mono ?_
        rintro e V3 ⟨gb, cb, rfl, hgb, hbuf, hb⟩
        refine hK _ _ (HC1.out _ (Kit.step HBL.out hb)) ?_
        clear hK K
        have HGB := Lib.hid (Nat.le_trans HBL.out.size hgb)
        have HBUF := Lib.hid hbuf
        have H7 := Lib.hid (boxed_later H7.out hb)
        have H6 := Lib.hid (boxed_later H6.out hb)
        have HBL := Lib.hid (Kit.step HBL.out hb)
        clear hb hbuf hgb
        obtain ⟨k7, HM⟩ := Md1.of (vp := .slice op m cp) H6.out H7.out HBUF.out HBL.out HG6.out HG7.out HGB.out
        have hc6 := H6.out.cell
        have hf6 := H6.out.frozen
        have hc7 := k7.cell
        have hf7 := k7.frozen
        rw [HLL.out] at hc7 hf7 HM
        have HMM := Lib.hid HM
        clear k7 HM
        refine Rgt.ready (i := 5) (by kernel_rfl) rfl (by kernel_rfl) (fun K hK => ?_)
        go_simp
        refine hK _ _ (HC1.out _ (HBL.out.setCell (p := ⟨p6, 0, none⟩) HG6.out _)) ?_
        clear hK K
        refine Rgt.ready (i := 6) (by kernel_rfl) rfl (by kernel_rfl) (fun K hK => ?_)
        go_simp
        refine hK _ _ (HC1.out _ HMM.out.below) ?_
        clear hK K
        refine Rgt.done (by kernel_rfl) ?_ _
        exact ⟨rfl, p6, p7, gb, cb, HMM.out, rfl⟩
  case rest =>
    rintro e a' X1 ⟨rfl, p6, p7, gb, cb, hM1, rfl⟩
    rename_i K0 hK0
    show K0 _ _
    refine hK0 _ _ ?_
    clear hK0 K0
    have hBX1 := Kit.step HB1.out hM1.below
    obtain ⟨hQL, hQP, hQN, hQI, hRL, hDP, hCd⟩ := HPP.out _ _ _ _ (H00.out (fun _ => False) (fun k h => h.elim))
    have hcn := (boxed_later hQN hBX1).cell
    have hci := (boxed_later hQI hBX1).cell
    obtain ⟨q, hq⟩ : ∃ q, X1.heap.size = q := ⟨_, rfl⟩
    obtain ⟨X2, hX2⟩ : ∃ X2, X1.alloc (.cells #[.int .i64 (n : Int)] 3) = X2 := ⟨_, rfl⟩
    have hb2 : Below X1.heap.size X1 X2 := by rw [← hX2]; exact new12 _ _
    have hs2 : X2.heap.size = q + 1 := by rw [← hX2, World.size_alloc, hq]
    have hxn : Boxed X2 q 3 (.int .i64 (n : Int)) := by rw [← hX2, ← hq]; exact Boxed.new _ _ _
    obtain ⟨X3, hX3⟩ : ∃ X3, X2.alloc (.cells #[.int .i64 (i : Int)] 3) = X3 := ⟨_, rfl⟩
    have hb3 : Below X2.heap.size X2 X3 := by rw [← hX3]; exact new12 _ _
    have hs3 : X3.heap.size = q + 2 := by rw [← hX3, World.size_alloc, hs2]
    have hxi : Boxed X3 (q + 1) 3 (.int .i64 (i : Int)) := by rw [← hX3, ← hs2]; exact Boxed.new _ _ _
    have MT := mturns_any (n : Int) (i : Int) X1
    rw [hX2, hX3, hq] at MT
    have hb13 := Kit.step hb2 hb3
    have hBX3 := Kit.step hBX1 hb13
    obtain ⟨E, hE⟩ : ∃ E : MdE, E = ⟨leaf, ps, Da.ups n i, p5, p6, p7, q, X3.heap.size, n, i, m, cp, op, .func (.yield l) #[] #[]⟩ := ⟨_, rfl⟩
    have hg6 := hM1.g6
    have hg7 := hM1.g7
    have hgg := hM1.gg
    have hl6 := hM1.b6.lt
    have hl7 := hM1.b7.lt
    have hlb := hM1.buf.lt
    have hs1 := HS1.out
    have hp5 := HP5.out
    have hEok : E.ok := by rw [hE]; exact ⟨by dsimp only; omega, by dsimp only; omega, by dsimp only; omega, by dsimp only; omega, by dsimp only; omega⟩
    have hn6 := hM1.buf.ne hM1.b6 (by decide)
    have hn7 := hM1.buf.ne hM1.b7 (by decide)
    have hI0 : ∀ M : Rf.Blk, (∀ k, M k → X3.heap.size + 2 ≤ k) → MdB E (fun k => O0 k ∨ k = p6 ∨ k = p7) M 0 O0 gb cb op cp X3 := fun M hM => by
      refine ⟨fun k => by rw [hE], fun k hk => .inl (by rw [hE]; have := HO.out k hk; dsimp only; omega), fun k hk => Nat.lt_of_lt_of_le (HO.out k hk) hBX3.size, ?_, ?_, ?_, ?_, ?_, hM1.buf.later hb13 |> (fun h => by rw [hE]; exact h), fun hk => by have := HO.out gb hk; omega, fun hk => ?_, fun Y h => by rw [hE] at h ⊢; exact h⟩
      · rw [hE]; exact boxed_later (boxed_later HX5.out hM1.below) hb13
      · rw [hE]; exact boxed_later hM1.b6 hb13
      · rw [hE]; exact boxed_later hM1.b7 hb13
      · rw [hE]; exact boxed_later hxn hb3
      · rw [hE]; exact hxi
      · rw [hE] at hk
        rcases hk with h1 | h1 | h1 | h1 | h1
        · have := hM gb h1; omega
        · exact hn6 h1
        · exact hn7 h1
        · dsimp only at h1; omega
        · dsimp only at h1; omega
    have HI0 := Lib.hid hI0
    have HMT := Lib.hid MT
    have HE := Lib.hid hE
    have HEK := Lib.hid hEok
    have HB3 := Lib.hid hBX3
    have HS3 := Lib.hid hs3
    have HLT : Hid (p5 < p6 ∧ p5 < p7 ∧ p6 < q ∧ p7 < q ∧ X0.heap.size = p5) := Lib.hid (by omega)
    have TG := turns_gives n i q (q + 1) HI'.out (by omega)
    have HTG := Lib.hid TG
    have HQ1 := Lib.hid (boxed_later hxn hb3)
    have HQ2 := Lib.hid hxi
    clear hBX1 hQL hQP hQN hQI hRL hDP hCd hq hX2 hb2 hs2 hxn hX3 hb3 hs3 hxi MT hb13 hBX3 hE hg6 hg7 hgg hl6 hl7 hlb hs1 hp5 hEok hn6 hn7 hI0 TG
    go_wp2_with fail
    refine HMT.out.mono ?_
    rintro e x3 ⟨rfl, rfl⟩
    rename World => X3
    clear HMT hcn hci
    go_wp2_with fail
    refine Rf.range_toldM (α := Nat × Nat × Bool) (σ := List (Nat × Nat × Bool)) rfl (enters_of Tryd.func45 (by kernel_rfl) rfl) (fun x => #[tnV x]) (fun _ => rfl) _ _ _ _ HTG.out
      (fun k => O0 k ∨ k = p6 ∨ k = p7)
      (fun O M p X => ∃ Oo gb cb o' c', MdB E O M p.length Oo gb cb o' c' X ∧ I Oo (mo E M) p.length X)
      (fun c O M X => c = .ret ∧ ∃ Oo, Bx Oo (mo E M) X)
      ?hO0 ?hI ?hIx ?hP ?hV ?h0 ?round ?done ?stop
    case hO0 =>
      intro k hk
      have h1 := HLT.out
      have h2 := HS3.out
      rcases hk with hk | rfl | rfl
      · have := HO.out k hk; omega
      · omega
      · omega
    case hI =>
      rintro O M p X X' hM ⟨Oo, gb, cb, o', c', h, hi⟩ k
      have hd : E.D = X3.heap.size := by rw [HE.out]
      refine ⟨Oo, gb, cb, o', c', h.mut HEK.out (by rw [hd]; exact hM) (by rw [hd]; exact k), HII.out _ _ _ _ _ (mo_new HEK.out (by rw [hd]; exact hM) (by rw [HE.out]; exact Nat.le_of_eq HP5.out)) hi (k.mono fun j hj => ?_)⟩
      unfold mo
      rw [hd]
      rcases hj with h1 | h1 | h1
      · exact .inl h1
      · exact .inr (.inr (.inr (.inl h1)))
      · exact .inr (.inr (.inr (.inr h1)))
    case hIx =>
      rintro c O M X X' hM ⟨hc, Oo, hi⟩ k
      have hd : E.D = X3.heap.size := by rw [HE.out]
      refine ⟨hc, Oo, HBX.out _ _ _ _ (mo_new HEK.out (by rw [hd]; exact hM) (by rw [HE.out]; exact Nat.le_of_eq HP5.out)) hi (k.mono fun j hj => ?_)⟩
      unfold mo
      rw [hd]
      rcases hj with h1 | h1 | h1
      · exact .inl h1
      · exact .inr (.inr (.inr (.inl h1)))
      · exact .inr (.inr (.inr (.inr h1)))
    case hP =>
      rintro O M p X ⟨Oo, gb, cb, o', c', h, _⟩
      have h1 := h.bn
      have h2 := h.bi
      rw [HE.out] at h1 h2
      exact ⟨h1, h2⟩
    case hV => exact fun M s x s' X X' h k => h
    case h0 =>
      intro M hM
      have hd : E.D = X3.heap.size := by rw [HE.out]
      have hn := mo_new (B := X0.heap.size) HEK.out (by rw [hd]; exact hM) (by rw [HE.out]; exact Nat.le_of_eq HP5.out)
      exact ⟨O0, gb, cb, op, cp, HI0.out M hM, HII.out _ _ _ _ _ hn (H00.out _ hn) (.of_below HB3.out)⟩
    case round =>
      rintro l2 O M p x p' X Z' To hM hMX hOX hDX ⟨Oo, gb, cb, o', c', hJ, hio⟩ ⟨rfl, hp⟩ hsz hrec hdef HN' HR' HE'
      clear hrec hdef
      have hd : E.D = X3.heap.size := by rw [HE.out]
      have hlen := hp.length_le
      rw [List.length_append, List.length_singleton, Da.trn_length, HU.out] at hlen
      have hus : (Da.ups n i).getD p.length false = x.2.2 := by
        obtain ⟨r, hr⟩ := hp
        rw [← Da.trn_ups n 0 i, ← hr]
        simp
      obtain ⟨s, hs⟩ : ∃ s, p.length = s := ⟨_, rfl⟩
      rw [hs] at hJ hio hlen hus
      obtain ⟨tf, tt, tl⟩ := x
      dsimp only at hus
      have HSS : Hid ((p ++ [(tf, tt, tl)]).length = s + 1) := Lib.hid (by rw [List.length_append, hs]; rfl)
      obtain ⟨D, hD⟩ : ∃ D, tnD (tf, tt, tl) = D := ⟨_, rfl⟩
      have hDs : D.size = 3 := by rw [← hD]; rfl
      have HDS3 : Hid ((Tryd.prog.info? 65).map (·.size) = some D.size) := Lib.hid (by rw [hDs]; kernel_rfl)
      have HDO : Hid (D.all (·.oneCell') = true) := Lib.hid (by rw [← hD]; simp [tnD, Value.oneCell'])
      have HDZ : Hid ((#[.int .i64 0, .int .i64 0, .bool false] : Array Value).size = D.size) := Lib.hid (by rw [hDs]; rfl)
      have HD := Lib.hid hD
      have HSZ := Lib.hid hsz
      have HJ := Lib.hid hJ
      have HIO := Lib.hid hio
      have HMN := Lib.hid hM
      have HMX := Lib.hid hMX
      have HOX := Lib.hid hOX
      have HDX := Lib.hid hDX
      have HUS := Lib.hid hus
      have HDD := Lib.hid hd
      rw [show tnV (tf, tt, tl) = .agg D by unfold tnV; rw [hD]]
      clear hd hus hs hp hD hDs hsz hJ hio hM hMX hOX hDX
      gi_upto_region 3 with fail
      refine Rf.plain_round (by kernel_rfl) (by rintro ⟨a, w, h⟩; exact h) ?_
      (refine wpList_plain rfl (fun K hK => ?_); go_simp; refine hK _ _ ?_; clear hK K)
      refine wpList_store_row rfl 65 (.tmp 8) (.tmp 15) rfl Z'.heap.size D rfl rfl 65 #[.int .i64 0, .int .i64 0, .bool false] (World.alloc_heap_new Z' _) HDS3.out HDZ.out HDO.out ?_
      refine wpList_nil ?_
      refine ⟨(new12 _ _).trans (below_row (Nat.le_refl _)), fun Y hY hnew hsy => ?_⟩
      rw [HSZ.out]
      obtain ⟨pt, hpt⟩ : ∃ pt, X.heap.size = pt := ⟨_, rfl⟩
      have hY8 : Y.heap[pt]? = some (.cells D 65 (0, 0)) := by
        rw [← hpt, hnew _ (Nat.le_refl _), ← HSZ.out]
        exact setRow_heap _ _ _ _ _ _ (World.alloc_heap_new Z' _)
      rw [hpt]
      have hJY := HJ.out.below hY
      have hmn := mo_new (B := X0.heap.size) HEK.out (by rw [HDD.out]; exact HMN.out) (by rw [HE.out]; exact Nat.le_of_eq HP5.out)
      have hioY := HII.out _ _ _ _ _ hmn HIO.out (.of_below hY)
      have hszY : X3.heap.size + 2 ≤ Y.heap.size := by have := HDX.out; have := hY.size; omega
      have hmY : ∀ k, mo E M k → k < Y.heap.size := fun k hk => by
        have h1 := HLT.out
        have h2 := HS3.out
        rw [HE.out] at hk
        rcases hk with h | h | h | h | h
        · have := HMX.out k h; have := hY.size; omega
        · dsimp only at h; omega
        · dsimp only at h; omega
        · dsimp only at h; omega
        · dsimp only at h; omega
      have hxy : X0.heap.size ≤ Y.heap.size := by have := HB3.out.size; omega
      have ht := HT.out Oo (mo E M) s (gb, cb, Da.mbs (0 :: leaf) (Da.ups n i) ps s) (s + 1) Y hmn hmY hJY.ol hxy hioY ⟨rfl, by omega, rfl, by have := hJY.buf; rw [HE.out] at this; exact this, hJY.mg⟩
      dsimp only at ht
      obtain ⟨fn, tmps, assign, body, hy, hR⟩ := ht
      have hc5 := hJY.b5.cell
      have hc6 := hJY.b6.cell
      rw [HE.out] at hc5 hc6
      dsimp only at hc5 hc6
      have hR2 : RoundIn (Fence.wide.inRound l2) 0 Tryd.prog l fn tmps assign body Y _ := hR
      have HR2 := Lib.hid hR2
      have HJY := Lib.hid hJY
      have HY := Lib.hid hY
      have HY8 := Lib.hid hY8
      have HSZY := Lib.hid hszY
      have HXP := Lib.hid hpt
      clear hR hR2 hJY hY hnew hsy hY8 hpt hmn hioY hszY hmY hxy
      gi_upto_region 5 with fail
      refine ⟨rfl, HR2.out.mono ?_⟩
      rintro e Y2 ⟨Oo', hcase, hf⟩
      have hfX : Rf.Fr O X (fun k => Oo' k ∨ k = E.p6 ∨ k = E.p7) Y2 := (Rf.Fr.of_below HY.out (fun k hk => (HOX.out k hk).1)).trans (hf.more HJY.out.eo (fun _ => Iff.rfl) (fun k hk => by
        have h1 := HLT.out
        have h2 := HS3.out
        have h3 := HSZY.out
        rw [HE.out] at hk
        rcases hk with rfl | rfl <;> first | omega | (dsimp only; omega)))
      rcases hcase with ⟨rfl, hi2⟩ | ⟨rfl, hbx⟩
      · have hJ2 := HJY.out.fr HEK.out (by rw [HDD.out]; exact HSZY.out) hf
        have hszY2 : X3.heap.size + 2 ≤ Y2.heap.size := Nat.le_trans HSZY.out hf.size
        obtain ⟨hQL, hQP, hQN, hQI, hRL, hDP, hCd⟩ := HPP.out _ _ _ _ hi2
        have hds := hJ2.rs Y2 (by rw [HE.out]; exact hDP)
        rw [HE.out] at hds
        dsimp only at hds
        have hdl : (ps.drop s).length = m - s := by rw [List.length_drop, HM.out]
        obtain ⟨b1, off1, rfl, hb1, hrng⟩ := hds.at_ 0 (by rw [hdl]; omega)
        rw [Nat.zero_mul, Nat.add_zero, show bi (ps.drop s) 0 = bi ps s by simp [bi]] at hrng
        have hpl : (bi ps s).length = 32 := hDP.all.at_ (by rw [HM.out]; omega)
        have hcl2 := hds.le
        rw [hdl] at hcl2
        have hclm := hds.cap
        have hpart : ∀ W', DgIs W' (some ⟨b1, off1, none⟩) (ps.drop s) c' → DgIs W' (some ⟨b1, off1 + 32, none⟩) (ps.drop (s + 1)) (c' - 1) := fun W' hW => by
          have := hW.part 1 (m - s - 1) (by rw [hdl]; omega) (c' - 1) (by omega) (by unfold maxLen at hclm ⊢; omega)
          rw [Nat.one_mul, List.drop_drop, List.take_of_length_le (by rw [List.length_drop, HM.out]; omega)] at this
          exact this
        have hptY2 : Y2.heap[pt]? = some (.cells D 65 (0, 0)) := by
          rw [hf.same pt (Array.getElem?_eq_some_iff.1 HY8.out).1 (fun h => by
            have h1 := (HOX.out pt ((HJY.out.eo pt).2 (.inl h))).1
            have := HXP.out
            omega)]
          exact HY8.out
        have hc6 := hJ2.b6
        have hc7 := hJ2.b7
        have hbf := hJ2.buf
        rw [HE.out] at hc6 hc7 hbf
        dsimp only at hc6 hc7 hbf
        obtain ⟨C, hC⟩ : ∃ C : World → Prop, (fun v => Below Y2.heap.size Y2 v) = C := ⟨_, rfl⟩
        have HC1 : Hid (∀ v, Below Y2.heap.size Y2 v → C v) := Lib.hid fun v hv => by rw [← hC]; exact hv
        have HC2 : Hid (∀ v, C v → Below Y2.heap.size Y2 v) := Lib.hid fun v hv => by rw [← hC] at hv; exact hv
        obtain ⟨B, hB⟩ : ∃ B, Da.mbs (0 :: leaf) (Da.ups n i) ps s = B := ⟨_, rfl⟩
        have hBl : B.length ≤ 9000 := by
          rw [← hB]
          cases s with
          | zero => show (0 :: leaf).length ≤ 9000; rw [List.length_cons]; omega
          | succ s' => rw [Da.mbs_len _ _ _ _ (hDP.all.at_ (by rw [HM.out]; omega))]; omega
        have hBS : Da.mbs (0 :: leaf) (Da.ups n i) ps (s + 1) = Da.inn tl (Da.sha B) (bi ps s) := by rw [Da.mbs, HUS.out, hB]
        rw [hB] at hc6 hbf
        have HC8 : Hid (∀ w, C w → w.heap[pt]? = some (.cells D 65 (0, 0))) := Lib.hid fun w hw => by rw [(HC2.out w hw).block pt (Array.getElem?_eq_some_iff.1 hptY2).1]; exact hptY2
        have HC6 : Hid (∀ w, C w → w.cell? ⟨p6, 0, none⟩ = some (.slice (some ⟨gb, 0, none⟩) B.length cb)) := Lib.hid fun w hw => (boxed_later hc6 (HC2.out w hw)).cell
        have HC7 : Hid (∀ w, C w → w.cell? ⟨p7, 0, none⟩ = some (.slice (some ⟨b1, off1, none⟩) (m - s) c')) := Lib.hid fun w hw => (boxed_later hc7 (HC2.out w hw)).cell
        have HCR : Hid (∀ w, C w → w.rangeAt b1 off1 (bytesV (bi ps s))) := Lib.hid fun w hw => rangeAt_later hrng (HC2.out w hw) hb1
        have HRS : Hid ((Tryd.prog.info? 38).map (·.size) = some (bytesV (bi ps s)).length) := Lib.hid (by rw [dg_info]; simp [hpl])
        have hdr : Below Y2.heap.size Y2 Y2.drew := Kit.dn' Y2 1
        have hC0 : C Y2.drew := HC1.out _ hdr
        have hba : Below Y2.drew.heap.size Y2.drew (Y2.alloc (.cells #[.slice (some ⟨gb, 0, none⟩) B.length cb] 40)).drew := new12 Y2.drew (.cells #[.slice (some ⟨gb, 0, none⟩) B.length cb] 40)
        have hone : RbIs (Y2.alloc (.cells #[.slice (some ⟨gb, 0, none⟩) B.length cb] 40)).drew (some ⟨Y2.heap.size, 0, none⟩) [B] 1 := one_part ((hbf.later hdr).row)
        obtain ⟨Y3, hY3⟩ : ∃ Y3, (Y2.alloc (.cells #[.slice (some ⟨gb, 0, none⟩) B.length cb] 40)).drew = Y3 := ⟨_, rfl⟩
        rw [hY3] at hone hba
        have hb23 := Kit.step hdr hba
        have SO := sof_any [B] _ 1 Y3 hone (hCd.later hb23) (by simp; omega) (by simp)
        rw [show ([B] : List (List UInt8)).flatten = B by simp, List.length_singleton] at SO
        have HC3 := Lib.hid (HC1.out _ hb23)
        have TI : ∀ v, Calls Tryd.prog 52 #[.agg D, .agg (bytesV (Da.sha B)).toArray, .agg (bytesV (bi ps s)).toArray] v fun e w' => ∃ g cap, e = .returned (.slice (some ⟨g, 0, none⟩) 65 cap) ∧ v.heap.size ≤ g ∧ Buf w' g cap (Da.inn tl (Da.sha B) (bi ps s)) ∧ Below v.heap.size v w' := fun v => by
          have := tinn_any (tf, tt, tl) (Da.sha B) (bi ps s) (Da.sha_length B) hpl v
          unfold tnV at this
          rw [HD.out] at this
          exact this
        obtain ⟨SA, hSA⟩ : ∃ SA, (bytesV (Da.sha B)).toArray = SA := ⟨_, rfl⟩
        obtain ⟨PA, hPA⟩ : ∃ PA, (bytesV (bi ps s)).toArray = PA := ⟨_, rfl⟩
        rw [hSA] at SO TI
        rw [hPA] at TI
        have hsn : s < m := by omega
        have hms : 0 < m - s := by omega
        have HSO := Lib.hid SO
        have HTI := Lib.hid TI
        have HJ2 := Lib.hid hJ2
        have HI2 := Lib.hid hi2
        have HFX := Lib.hid hfX
        have HF := Lib.hid hf
        have HB23 := Lib.hid hb23
        have HY3 := Lib.hid hY3
        have HPA := Lib.hid hPA
        have HBS := Lib.hid hBS
        have HPART := Lib.hid hpart
        have HDS := Lib.hid hds
        have HSZ2 := Lib.hid hszY2
        have HBB := Lib.hid hB
        have HK67 := Lib.hid (show Boxed Y2 p6 40 (.slice (some ⟨gb, 0, none⟩) B.length cb) ∧ Boxed Y2 p7 25 (.slice (some ⟨b1, off1, none⟩) (m - s) c') from ⟨hc6, hc7⟩)
        have HPL := Lib.hid hpl
        clear hJ2 hi2 hfX hf hQL hQP hQN hQI hRL hDP hCd hds hb1 hrng hpl hpart hptY2 hc6 hc7 hbf hC hB hBS hba hone hY3 hb23 SO TI hSA hPA hszY2 hdl hdr HJY HR2 HY8
        gi_upto_region 5 with fail
        refine Rgt.round C (fun t => t == 8) (by kernel_rfl) (by kernel_rfl) (by rintro ⟨a, w, h⟩; exact h) ?_
        refine Rgt.take (i := 0) (x := .agg D) rfl rfl (by kernel_rfl) (by kernel_rfl) (by kernel_rfl) (by kernel_rfl) (fun _ _ _ h => h) (Or.inl ⟨by kernel_rfl, fun w hw => exec_row (t := 65) (fr := (0, 0)) rfl rfl (HC8.out w hw) Tryd.underlying65 rfl HDS3.out⟩) hC0 ?_
        go_simp
        refine Rgt.take (i := 1) (x := .slice (some ⟨gb, 0, none⟩) B.length cb) rfl rfl (by kernel_rfl) (by kernel_rfl) (by kernel_rfl) (by kernel_rfl) (fun _ _ _ h => h) (Or.inl ⟨by kernel_rfl, fun w hw => by have hc := HC6.out w hw; (go_simp <;> with_reducible rfl)⟩) hC0 ?_
        go_simp
        refine Rgt.take (i := 4) (x := .slice (some ⟨b1, off1, none⟩) (m - s) c') rfl rfl (by kernel_rfl) (by kernel_rfl) (by kernel_rfl) (by kernel_rfl) (fun _ _ _ h => h) (Or.inl ⟨by kernel_rfl, fun w hw => by have hc := HC7.out w hw; (go_simp <;> with_reducible rfl)⟩) hC0 ?_
        go_simp
        refine Rgt.take (i := 5) (x := .pointer (some ⟨b1, off1, none⟩)) rfl rfl (by kernel_rfl) (by kernel_rfl) (by kernel_rfl) (by kernel_rfl) (fun _ _ _ h => h) (Or.inl ⟨by kernel_rfl, fun w hw => by (go_simp <;> with_reducible rfl)⟩) hC0 ?_
        go_simp
        refine Rgt.take (i := 6) (x := .agg PA) rfl rfl (by kernel_rfl) (by kernel_rfl) (by kernel_rfl) (by kernel_rfl) (fun _ _ _ h => h) (Or.inl ⟨by kernel_rfl, fun w hw => by rw [← HPA.out]; exact St.exec_load rfl rfl (bytesV (bi ps s)) _ (HCR.out w hw) dg_under rfl HRS.out⟩) hC0 ?_
        go_simp
        have HBL : Hid (B.length = B.length) := Lib.hid rfl
        refine Rgt.ready (i := 2) (by kernel_rfl) rfl (by kernel_rfl) (fun K hK => ?_)
        go_simp
        rw [HY3.out]
        refine hK _ _ HC3.out ?_
        clear hK K
        refine Rgt.ready (i := 3) (by kernel_rfl) rfl (by kernel_rfl) (fun K hK => ?_)
        go_simp
        refine HSO.out.mono ?_
        rintro e4 Y4 ⟨rfl, hb4⟩
        have HB24 := Lib.hid (Kit.step HB23.out hb4)
        refine hK _ _ (HC1.out _ HB24.out) ?_
        clear hK K hb4 HSO
        refine Rgt.ready (i := 7) (by kernel_rfl) rfl (by kernel_rfl) (fun K hK => ?_)
        go_simp
        refine (HTI.out Y4).mono ?_
        rintro e5 Y5 ⟨g2, cap2, rfl, hg2, hbf5, hb5⟩
        have hb25 := Kit.step HB24.out hb5
        refine hK _ _ (HC1.out _ hb25) ?_
        clear hK K HTI
        have hg2s : Y2.heap.size ≤ g2 := Nat.le_trans HB24.out.size hg2
        have hJ5 := HJ2.out.below hb25
        have h65 := boxed_later HK67.out.1 hb25
        have h75 := boxed_later HK67.out.2 hb25
        have hn6 := hbf5.ne h65 (by decide)
        have hn7 := hbf5.ne h75 (by decide)
        have hne67 := box_ne h65 h75 (by decide)
        obtain ⟨Y6, hY6⟩ : ∃ Y6, Y5.setCell ⟨p6, 0, none⟩ (.slice (some ⟨g2, 0, none⟩) 65 cap2) = Y6 := ⟨_, rfl⟩
        have h66 : Boxed Y6 p6 40 (.slice (some ⟨g2, 0, none⟩) 65 cap2) := by rw [← hY6]; exact h65.set _
        have h76 : Boxed Y6 p7 25 (.slice (some ⟨b1, off1, none⟩) (m - s) c') := by rw [← hY6]; exact h75.other (fun e => hne67 e.symm) _
        have hgr6 : Y5.grownBy Y6 (some p6) := by rw [← hY6]; exact grownBy_setCell' _ _ _
        have hc65 := h65.cell
        have hf65 := h65.frozen
        have hc76 := h76.cell
        have hf76 := h76.frozen
        have H66 := Lib.hid h66
        have H76 := Lib.hid h76
        have HY6 := Lib.hid hY6
        have HGR6 := Lib.hid hgr6
        have HB25 := Lib.hid hb25
        have HBF5 := Lib.hid hbf5
        have HG2S := Lib.hid hg2s
        have HJ5 := Lib.hid hJ5
        have HNS := Lib.hid (show g2 ≠ p6 ∧ g2 ≠ p7 ∧ p6 ≠ p7 from ⟨hn6, hn7, hne67⟩)
        have HSN := Lib.hid hsn
        clear hb5 hb25 hg2 hg2s hbf5 hJ5 h65 h75 h66 h76 hn6 hn7 hne67 hY6 hgr6
        refine Rgt.readyT (i := 8) (by kernel_rfl) rfl rfl (by kernel_rfl) (fun K hK => ?_)
        go_simp
        rw [HY6.out]
        refine hK _ _ ?_
        clear hK K hc65 hf65 HY6
        refine Rgt.done (by kernel_rfl) ?_ _
        by_cases hc1 : c' = 1
        case' pos =>
          have hck : ¬ c' < 1 := by omega
          obtain ⟨A2, c2, hA2, hc2, hst⟩ : ∃ (A2 : Option Addr) (c2 : Nat), (some ⟨b1, off1, none⟩ : Option Addr) = A2 ∧ c2 = c' - 1 ∧ Y6.setCell ⟨p7, 0, none⟩ (.slice (some ⟨b1, off1, none⟩) (m - s - 1) 0) = Y6.setCell ⟨p7, 0, none⟩ (.slice A2 (m - s - 1) c2) := ⟨_, 0, rfl, by omega, rfl⟩
        case' neg =>
          have hck : ¬ c' < 1 := by omega
          obtain ⟨A2, c2, hA2, hc2, hst⟩ : ∃ (A2 : Option Addr) (c2 : Nat), (some ⟨b1, off1 + 32, none⟩ : Option Addr) = A2 ∧ c2 = c' - 1 ∧ Y6.setCell ⟨p7, 0, none⟩ (.slice (some ⟨b1, off1 + 32, none⟩) (m - s - 1) (c' - 1)) = Y6.setCell ⟨p7, 0, none⟩ (.slice A2 (m - s - 1) c2) := ⟨_, c' - 1, rfl, rfl, rfl⟩
        all_goals
          have hrs2 : ∀ Y, DgIs Y op ps cp → DgIs Y A2 (ps.drop (s + 1)) c2 := fun Y hYd => by
            rw [hc2]
            have h0 := HJ5.out.rs Y (by rw [HE.out]; exact hYd)
            rw [HE.out] at h0
            have h1 := HPART.out Y h0
            first
              | (rw [← hA2]; exact h1)
              | (have h2 := h1.le
                 have h3 : (ps.drop (s + 1)).length = 0 := by omega
                 rw [List.eq_nil_of_length_eq_zero h3]
                 exact DgIs.empty _ _ (by unfold maxLen; omega) (fun e => by rw [← hA2] at e; cases e))
          obtain ⟨Y7, hY7⟩ : ∃ Y7, Y6.setCell ⟨p7, 0, none⟩ (.slice A2 (m - s - 1) c2) = Y7 := ⟨_, rfl⟩
          have HFIN : Hid (Rf.Fr O X (fun k => Oo' k ∨ k = E.p6 ∨ k = E.p7) Y7 ∧ ∃ Oo gb cb o' c', MdB E (fun k => Oo' k ∨ k = E.p6 ∨ k = E.p7) M (s + 1) Oo gb cb o' c' Y7 ∧ I Oo (mo E M) (s + 1) Y7) := Lib.hid (by
            have hgr7 : Y6.grownBy Y7 (some p7) := by rw [← hY7]; exact grownBy_setCell' _ _ _
            have h67 : Boxed Y7 p6 40 (.slice (some ⟨g2, 0, none⟩) 65 cap2) := by rw [← hY7]; exact H66.out.other HNS.out.2.2 _
            have h77 : Boxed Y7 p7 25 (.slice A2 (m - s - 1) c2) := by rw [← hY7]; exact H76.out.set _
            have hbk : ∀ k, k < Y5.heap.size → k ≠ p6 → k ≠ p7 → Y7.heap[k]? = Y5.heap[k]? := fun k hk h1 h2 => by
              rw [hgr7.block k (Nat.lt_of_lt_of_le hk HGR6.out.size) (by simp; omega), HGR6.out.block k hk (by simp; omega)]
            have e6 : E.p6 = p6 := by rw [HE.out]
            have e7 : E.p7 = p7 := by rw [HE.out]
            have hmut : Rf.Mut (fun k => k = p6 ∨ k = p7) Y5 Y7 := (Rf.Mut.grown HGR6.out (fun k e => by cases e; exact .inl rfl)).trans (Rf.Mut.grown hgr7 (fun k e => by cases e; exact .inr rfl))
            refine ⟨HFX.out.trans ((Rf.Fr.of_below HB25.out (fun k hk => ?_)).trans ((Rf.Fr.grown HGR6.out (fun k hk => ?_) (fun k e => by cases e; exact .inr (.inl e6.symm))).trans (Rf.Fr.grown hgr7 (fun k hk => ?_) (fun k e => by cases e; exact .inr (.inr e7.symm))))), Oo', g2, cap2, A2, c2, ?_, ?_⟩
            · exact (HFX.out.ext k hk).1
            · exact Nat.lt_of_lt_of_le (HFX.out.ext k hk).1 HB25.out.size
            · exact Nat.lt_of_lt_of_le (HFX.out.ext k hk).1 (Nat.le_trans HB25.out.size HGR6.out.size)
            · have hJ5 := HJ5.out
              have hq5 := HLT.out
              have hlen65 : (Da.mbs (0 :: leaf) (Da.ups n i) ps (s + 1)).length = 65 := Da.mbs_len _ _ _ _ HPL.out
              refine ⟨fun _ => Iff.rfl, hJ5.lo, fun k hk => Nat.lt_of_lt_of_le (hJ5.ol k hk) hmut.size, box_block hJ5.b5 (hbk _ hJ5.b5.lt ?_ ?_), ?_, ?_, box_block hJ5.bn (hbk _ hJ5.bn.lt ?_ ?_), box_block hJ5.bi (hbk _ hJ5.bi.lt ?_ ?_), ?_, fun hk => ?_, fun hk => ?_, ?_⟩
              · rw [HE.out]; dsimp only; omega
              · rw [HE.out]; dsimp only; omega
              · rw [HE.out]; dsimp only; rw [hlen65]; exact h67
              · rw [HE.out]; dsimp only; rw [show m - (s + 1) = m - s - 1 by omega]; exact h77
              · rw [HE.out]; dsimp only; omega
              · rw [HE.out]; dsimp only; omega
              · rw [HE.out]; dsimp only; omega
              · rw [HE.out]; dsimp only; omega
              · rw [HE.out]; dsimp only; rw [HBS.out]; exact HBF5.out.block (hbk g2 HBF5.out.lt HNS.out.1 HNS.out.2.1)
              · have := (HF.out.ext g2 hk).1
                have := HG2S.out
                omega
              · have h1 := HG2S.out
                have h2 := HSZ2.out
                rw [HE.out] at hk
                rcases hk with h | h | h | h | h
                · have := HMX.out g2 h
                  have := HFX.out.size
                  omega
                · exact HNS.out.1 h
                · exact HNS.out.2.1 h
                · dsimp only at h; omega
                · dsimp only at h; omega
              · rw [HE.out]; exact hrs2
            · refine HII.out _ _ _ _ _ (mo_new HEK.out (by rw [HDD.out]; exact HMN.out) (by rw [HE.out]; exact Nat.le_of_eq HP5.out)) HI2.out ((Rf.Mut.of_below HB25.out).trans (hmut.mono fun k hk => ?_))
              unfold mo
              rcases hk with h | h
              · exact .inr (.inl (h.trans e6.symm))
              · exact .inr (.inr (.inl (h.trans e7.symm))))
          have HST := Lib.hid hst
          have HY7 := Lib.hid hY7
          have hm1 : 1 ≤ m - s := by omega
          clear hA2 hc2 hst hY7 hrs2 H66 H76 HBF5 HJ5 HGR6 HB25
          gi_upto_region 6 with fail
          gi_wp2
          rw [HST.out, HY7.out]
          exact HN'.out _ _ _ HFIN.out.1 (by rw [HSS.out]; exact HFIN.out.2)
      · gi_wp2
        exact HR'.out _ _ _ hfX ⟨by simp, Oo', hbx⟩
    case done =>
      rintro O M p X hM hMX hOX hD1 rfl ⟨Oo, gb, cb, o', c', hJ, hio⟩ hK'
      rw [Da.trn_length, HU.out] at hJ hio
      have hd : E.D = X3.heap.size := by rw [HE.out]
      have hmn := mo_new (B := X0.heap.size) HEK.out (by rw [hd]; exact hM) (by rw [HE.out]; exact Nat.le_of_eq HP5.out)
      have hDX : X3.heap.size < X.heap.size := (Array.getElem?_eq_some_iff.1 hK').1
      have hxx : X0.heap.size ≤ X.heap.size := by have := HB3.out.size; omega
      have hmXX : ∀ k, mo E M k → k < X.heap.size := fun k hk => by
        have h1 := HLT.out
        have h2 := HS3.out
        have h3 := hJ.bi.lt
        rw [HE.out] at h3
        rw [HE.out] at hk
        rcases hk with h | h | h | h | h
        · exact hMX k h
        · dsimp only at h; omega
        · dsimp only at h; omega
        · dsimp only at h; omega
        · dsimp only at h; omega
      have ht := HT.out Oo (mo E M) m (gb, cb, Da.mbs (0 :: leaf) (Da.ups n i) ps m) (m + 1) X hmn hmXX hJ.ol hxx hio ⟨rfl, Nat.le_refl _, rfl, by have := hJ.buf; rw [HE.out] at this; exact this, hJ.mg⟩
      dsimp only at ht
      obtain ⟨fn, tmps, assign, body, hy, hR⟩ := ht
      have hc5 := hJ.b5.cell
      have hc6 := hJ.b6.cell
      rw [HE.out] at hc5 hc6
      dsimp only at hc5 hc6
      have HRR := Lib.hid hR
      have HMXX := Lib.hid hmXX
      have HJ := Lib.hid hJ
      have HMN := Lib.hid hmn
      have HKK := Lib.hid hK'
      have HDX := Lib.hid hDX
      have HOX := Lib.hid hOX
      clear hR hJ hmn hxx hio hMX hOX hDX hK' hmXX
      go_upto_region 7 with fail
      refine (wpIn_wide (n := 0)).1 ?_
      gi_wp2
      refine ⟨rfl, HRR.out.mono ?_⟩
      rintro e Y ⟨Oo', hcase, hf⟩
      have hno : ¬ Oo X3.heap.size := fun h => by
        have h1 := HJ.out.lo _ h
        have h2 := HLT.out
        have h3 := HS3.out
        rw [HE.out] at h1
        dsimp only at h1
        omega
      have hK2 : Y.heap[X3.heap.size]? = some (.deferred (some [])) := by rw [hf.same _ HDX.out hno]; exact HKK.out
      have hmut : Rf.Mut (mo E M) Y (Y.putObj X3.heap.size (.deferred none)) := Rf.Mut.put Y (by rw [← hd]; exact .inr (.inr (.inr (.inl rfl)))) _
      have hmY : ∀ k, mo E M k → k < Y.heap.size := fun k hk => Nat.lt_of_lt_of_le (HMXX.out k hk) hf.size
      rcases hcase with ⟨rfl, h2⟩ | ⟨rfl, h2⟩
      · have hi2 := HII.out _ _ _ _ _ HMN.out h2 hmut
        have HFI : Hid ((∀ k, mo E M k → k < (Y.putObj X3.heap.size (.deferred none)).heap.size) ∧ (∀ k, Oo' k → k < (Y.putObj X3.heap.size (.deferred none)).heap.size) ∧ I Oo' (mo E M) (m + 1) (Y.putObj X3.heap.size (.deferred none))) := Lib.hid ⟨fun k hk => by simpa using hmY k hk, fun k hk => by simpa using (hf.ext k hk).1, hi2⟩
        have HK2 := Lib.hid hK2
        clear hi2 hno hmut hmY h2 hf hK2
        go_wp2_with fail
        refine Rf.leaves HK2.out (results_none rfl _ _ _) ?_
        exact ⟨⟨_, rfl⟩, .inl ⟨Oo', mo E M, m + 1, HMN.out, HFI.out.1, HFI.out.2.1, rfl, HFI.out.2.2⟩⟩
      · have hi2 := HBX.out _ _ _ _ HMN.out h2 hmut
        have HFI := Lib.hid hi2
        have HK2 := Lib.hid hK2
        clear hi2 hno hmut hmY h2 hf hK2
        go_wp2_with fail
        refine Rf.leaves HK2.out (results_none rfl _ _ _) ?_
        exact ⟨⟨_, rfl⟩, .inr ⟨Oo', mo E M, HMN.out, HFI.out⟩⟩
    case stop =>
      rintro c O M X hM ⟨rfl, Oo, hbx⟩ hK'
      have hd : E.D = X3.heap.size := by rw [HE.out]
      have hmn := mo_new (B := X0.heap.size) HEK.out (by rw [hd]; exact hM) (by rw [HE.out]; exact Nat.le_of_eq HP5.out)
      have hb2 := HBX.out _ _ _ _ hmn hbx (Rf.Mut.put X (M := mo E M) (k := X3.heap.size) (by rw [← hd]; exact .inr (.inr (.inr (.inl rfl)))) (.deferred none))
      go_wp2_with fail
      refine Rf.leaves hK' (results_none rfl _ _ _) ?_
      exact ⟨⟨_, rfl⟩, .inr ⟨Oo, mo E M, hmn, hb2⟩⟩
end Go.Proofs.YtjcmihiajpgnjaaDoor
