/- The code's rootOf: digests that come one by one, whole trees on a stack. The code's Root, Over, Leaves; the document's Leaves, Over, Root. -/
import Derived.Test.YtfccpfmgkpcnoaaDoorTj
namespace Go.Proofs.YtfccpfmgkpcnoaaDoor.Da
theorem all32.ovs {rs : List (List (List UInt8))} (h : all32 rs.reverse.flatten) : all32 (rs.reverse.map ov) := by
  intro d hd
  obtain ⟨s, hs, rfl⟩ := List.mem_map.1 hd
  exact ov_length fun e he => h e (List.mem_flatten.2 ⟨s, hs, he⟩)
theorem Wt.keep {j c : Nat} {r : List (List (List UInt8))} (h : Wt j c r) : r.length ≤ c := by
  induction h with
  | nil j => exact Nat.le_refl _
  | even h ih => omega
  | odd hs h ih => simp; omega
end Go.Proofs.YtfccpfmgkpcnoaaDoor.Da
namespace Go.Proofs.YtfccpfmgkpcnoaaDoor
open Go.RowKit
set_option linter.unusedVariables false
set_option linter.unusedSimpArgs false
attribute [local go_sem] Oper.semAt_some
/-- the trees' roots, as they lie on the stack -/
def stk (rs : List (List (List UInt8))) : List Value := bytesV (rs.reverse.map Da.ov).flatten
/-- what rootOf's variables hold: B: where its own rows begin; g: its result; g + 1: the stack; g + 2: how many have come -/
structure RtB (ds : List (List UInt8)) (g : Nat) (w : World) (s : Nat) (rs : List (List (List UInt8))) (v : Value) (X : World) : Prop where
  own : X.ownsRow (g + 3) 41 32 v rs.length (stk rs)
  box : Boxed X (g + 1) 32 v
  cnt : Boxed X (g + 2) 3 (.int .i64 (s : Int))
  res : Arr X g 41 (bytesV (List.replicate 32 0))
  below : Below w.heap.size w X
  wg : w.heap.size ≤ g
structure RtI (ds : List (List UInt8)) (g : Nat) (w : World) (s : Nat) (rs : List (List (List UInt8))) (v : Value) (X : World) : Prop where
  b : RtB ds g w s rs v X
  le : s ≤ ds.length
  wt : Da.Wt 0 s rs
  flat : rs.reverse.flatten = ds.take s
theorem own_later12 {X X' : World} {T : TypeId} {base n sz : Nat} {v : Value} {xs : List Value} (h : X.ownsRow base T sz v n xs) (hb : Below X.heap.size X X') : X'.ownsRow base T sz v n xs :=
  World.ownsRow.kept (row := none) h ⟨hb.os, hb.tape, hb.output, hb.size, fun i hi _ => hb.block i hi⟩ (by cases v.ownBlock <;> simp)
theorem RtB.nc {ds : List (List UInt8)} {g s B : Nat} {w X X' : World} {rs : List (List (List UInt8))} {v : Value} (h : RtB ds g w s rs v X) (k : Rf.NC B X X') (hB : w.heap.size ≤ B) : RtB ds g w s rs v X' :=
  ⟨k.owns h.own, boxed_nc12 h.box k, boxed_nc12 h.cnt k, h.res.nc k, h.below.trans (k.below hB h.below.size), h.wg⟩
theorem RtB.later {ds : List (List UInt8)} {g s : Nat} {w X X' : World} {rs : List (List (List UInt8))} {v : Value} (h : RtB ds g w s rs v X) (hb : Below X.heap.size X X') : RtB ds g w s rs v X' :=
  ⟨own_later12 h.own hb, boxed_later h.box hb, boxed_later h.cnt hb, h.res.later hb h.res.lt, Kit.step h.below hb, h.wg⟩
theorem RtB.size {ds : List (List UInt8)} {g s : Nat} {w X : World} {rs : List (List (List UInt8))} {v : Value} (h : RtB ds g w s rs v X) : g + 3 ≤ X.heap.size := by
  have := h.cnt.lt
  omega
/-- in the inner loop: the digest that came lies, with all that was joined to it, in block p -/
structure RtL (ds : List (List UInt8)) (g p : Nat) (w X : World) (s left : Nat) (rs : List (List (List UInt8))) (cur : List (List UInt8)) (v : Value) (Y : World) : Prop where
  b : RtB ds g w s rs v Y
  cell : Arr Y p 41 (bytesV (Da.ov cur))
  keep : KeepsOthers X Y
  apart : ∀ k, v.ownBlock = some k → k < p
  pg : g + 3 ≤ p
  flat : rs.reverse.flatten ++ cur = ds.take (s + 1)
  lv : ∃ j, cur.length = 2 ^ j ∧ Da.Wt j left rs ∧ ∀ r, Da.Wt j (left + 1) r → Da.Wt 0 (s + 1) r
theorem RtL.later {ds : List (List UInt8)} {g p s left : Nat} {w X Y Y' : World} {rs : List (List (List UInt8))} {cur : List (List UInt8)} {v : Value} (h : RtL ds g p w X s left rs cur v Y) (hb : Below Y.heap.size Y Y') : RtL ds g p w X s left rs cur v Y' :=
  ⟨h.b.later hb, h.cell.later hb h.cell.lt, h.keep.trans (keeps_below hb), h.apart, h.pg, h.flat, h.lv⟩
theorem stk_all {ds : List (List UInt8)} (ha : Da.all32 ds) {s : Nat} {rs : List (List (List UInt8))} {cur : List (List UInt8)} (h : rs.reverse.flatten ++ cur = ds.take (s + 1)) : Da.all32 (rs.reverse.map Da.ov) ∧ (Da.ov cur).length = 32 := by
  have h2 : Da.all32 (rs.reverse.flatten ++ cur) := by rw [h]; exact ha.take _
  exact ⟨Da.all32.ovs fun d hd => h2 d (List.mem_append_left _ hd), Da.ov_length fun d hd => h2 d (List.mem_append_right _ hd)⟩
/-- the last tree on the stack is as great as the one that came -/
theorem RtL.odd {ds : List (List UInt8)} {g p s left : Nat} {w X Y : World} {rs : List (List (List UInt8))} {cur : List (List UInt8)} {v : Value} (h : RtL ds g p w X s left rs cur v Y) (ha : Da.all32 ds) (ho : left % 2 = 1) :
    ∃ (s0 : List (List UInt8)) (r' : List (List (List UInt8))) (g' cap : Nat), rs = s0 :: r' ∧ v = .slice (some ⟨g', 0, none⟩) (r'.length + 1) cap ∧ r'.length + 1 ≤ cap ∧ cap ≤ maxLen ∧ Y.rangeAt g' (r'.length * 32) (bytesV (Da.ov s0)) ∧ (Da.ov s0).length = 32 ∧
      Da.nd (Da.ov s0) (Da.ov cur) = Da.ov (s0 ++ cur) ∧ (Da.ov (s0 ++ cur)).length = 32 ∧ r'.length < left ∧
      ∀ Y', Below Y.heap.size Y Y' → RtL ds g p w X s (left / 2) r' (s0 ++ cur) (.slice (some ⟨g', 0, none⟩) r'.length cap) ((Y'.setRow p (bytesV (Da.ov (s0 ++ cur))).toArray).setCell ⟨g + 1, 0, none⟩ (.slice (some ⟨g', 0, none⟩) r'.length cap)) := by
  obtain ⟨j, hc, hw, hr⟩ := h.lv
  obtain ⟨s0, r', rfl, hs0, hw'⟩ := hw.last ho
  obtain ⟨al, _⟩ := stk_all ha h.flat
  have hov := h.b.own
  have hown := own_dg (T := 41) h.b.own al
  have e1 : ((s0 :: r').reverse.map Da.ov) = r'.reverse.map Da.ov ++ [Da.ov s0] := by simp
  rcases hov.2 with ⟨_, h0⟩ | ⟨g', cap, cur', rfl, hg', hh, hle, hm, hs, ht⟩
  · simp at h0
  obtain ⟨_, o, c, e2, hd⟩ := hown
  cases e2
  have hat := hd.at_ r'.length (by rw [e1]; simp)
  obtain ⟨b1, off1, e3, hb1, hrng⟩ := hat
  cases e3
  have e4 : bi ((s0 :: r').reverse.map Da.ov) r'.length = Da.ov s0 := by rw [e1]; simp [bi]
  rw [e4, Nat.zero_add] at hrng
  have hl0 : (Da.ov s0).length = 32 := al _ (by rw [e1]; simp)
  have hj := Da.ov_join hs0 (a := cur) (by rw [hc]; exact Nat.two_pow_pos _) (by omega)
  have hfl : r'.reverse.flatten ++ (s0 ++ cur) = ds.take (s + 1) := by rw [← h.flat]; simp
  have hjl := (stk_all ha hfl).2
  have hkeep := hw'.keep
  have hlen : (s0 :: r').length = r'.length + 1 := rfl
  refine ⟨s0, r', g', cap, rfl, by rw [hlen], by rw [← hlen]; exact hle, hm, hrng, hl0, hj.symm, hjl, by omega, fun Y' hb => ?_⟩
  have h2 := h.later hb
  have hgp : g' < p := h.apart g' rfl
  have hcell := h2.cell
  have hr1 : (Y'.setRow p (bytesV (Da.ov (s0 ++ cur))).toArray).grownBy ((Y'.setRow p (bytesV (Da.ov (s0 ++ cur))).toArray).setCell ⟨g + 1, 0, none⟩ (.slice (some ⟨g', 0, none⟩) r'.length cap)) (some (g + 1)) := grownBy_setCell' _ _ _
  have hr0 : Y'.grownBy (Y'.setRow p (bytesV (Da.ov (s0 ++ cur))).toArray) (some p) := grown_row _
  have hpg := h.pg
  have own1 : Y'.ownsRow (g + 3) 41 32 (.slice (some ⟨g', 0, none⟩) r'.length cap) r'.length (stk r') := by
    have := own_pop h2.b.own
    unfold stk at this ⊢
    rw [e1, List.flatten_append] at this
    have hlen2 : (bytesV (r'.reverse.map Da.ov).flatten).length = r'.length * 32 := by
      rw [bytesV_length, Da.flat_len (fun d hd => al d (by rw [e1]; exact List.mem_append_left _ hd))]; simp
    rw [bytesV_app, ← hlen2, List.take_left] at this
    exact this
  have box1 : Boxed (Y'.setRow p (bytesV (Da.ov (s0 ++ cur))).toArray) (g + 1) 32 _ := boxed_row_ne h2.b.box (by omega)
  refine ⟨⟨?_, box1.set _, ?_, ?_, ?_, h.b.wg⟩, ?_, ?_, fun k e => ?_, hpg, hfl, j + 1, by rw [List.length_append, hs0, hc, Nat.pow_succ]; omega, hw', fun r hr' => ?_⟩
  · exact World.ownsRow.kept (World.ownsRow.kept own1 hr0 (.inr (by simp [Value.ownBlock]; omega))) hr1 (.inr (by simp [Value.ownBlock]; omega))
  · have := boxed_row_ne (F := (bytesV (Da.ov (s0 ++ cur))).toArray) h2.b.cnt (g := p) (by omega)
    unfold Boxed at this ⊢
    rw [hr1.block _ (Array.getElem?_eq_some_iff.1 this).1 (by simp)]
    exact this
  · have := h2.b.res.row_ne (F := (bytesV (Da.ov (s0 ++ cur))).toArray) (g := p) (by omega)
    unfold Arr at this ⊢
    rw [hr1.block _ (Array.getElem?_eq_some_iff.1 this).1 (by simp)]
    exact this
  · have hgw := h.b.wg
    exact (h2.b.below.trans (below_row (by omega))).setCell (p := ⟨g + 1, 0, none⟩) (by show w.heap.size ≤ g + 1; omega) _
  · have := (hcell.row_same (ys := bytesV (Da.ov (s0 ++ cur))))
    unfold Arr at this ⊢
    rw [hr1.block _ (Array.getElem?_eq_some_iff.1 this).1 (by simp; omega)]
    exact this
  · exact h2.keep.trans ((keeps_row hcell).trans (KeepsOthers.setCell _ _ _))
  · cases e
    exact hgp
  · refine hr r ?_
    have e5 : left = 2 * (left / 2) + 1 := by omega
    have := Da.Wt.even hr'
    rwa [show 2 * (left / 2 + 1) = left + 1 by omega] at this
/-- it stands on the stack, and one more has come -/
theorem RtL.push {ds : List (List UInt8)} {g p s left : Nat} {w X Y Y1 Y2 : World} {rs : List (List (List UInt8))} {cur : List (List UInt8)} {v : Value} (h : RtL ds g p w X s left rs cur v Y) (hls : s < ds.length) (ho : left % 2 = 0) (hb : Below Y.heap.size Y Y1)
    {g2 cap2 : Nat} (hown : Y2.ownsRow (g + 3) 41 32 (.slice (some ⟨g2, 0, none⟩) (rs.length + 1) cap2) (rs.length + 1) (stk rs ++ bytesV (Da.ov cur))) (hg : Y1.grownBy Y2 v.ownBlock) :
    Boxed Y2 (g + 1) 32 v ∧ Boxed (Y2.setCell ⟨g + 1, 0, none⟩ (.slice (some ⟨g2, 0, none⟩) (rs.length + 1) cap2)) (g + 2) 3 (.int .i64 (s : Int)) ∧
    RtI ds g w (s + 1) (cur :: rs) (.slice (some ⟨g2, 0, none⟩) (rs.length + 1) cap2) ((Y2.setCell ⟨g + 1, 0, none⟩ (.slice (some ⟨g2, 0, none⟩) (rs.length + 1) cap2)).setCell ⟨g + 2, 0, none⟩ (.int .i64 ((s : Int) + 1))) ∧
    KeepsOthers X ((Y2.setCell ⟨g + 1, 0, none⟩ (.slice (some ⟨g2, 0, none⟩) (rs.length + 1) cap2)).setCell ⟨g + 2, 0, none⟩ (.int .i64 ((s : Int) + 1))) := by
  have h1 := h.later hb
  obtain ⟨j, hc, hw, hr⟩ := h.lv
  have hne : ∀ k, k < g + 3 → some k ≠ v.ownBlock := fun k hk e => by
    have := (own_blk h1.b.own k e.symm).1
    omega
  have bx : ∀ k T u, k < g + 3 → Boxed Y1 k T u → Boxed Y2 k T u := fun k T u hk hx => by
    unfold Boxed at *
    rw [hg.block k (Array.getElem?_eq_some_iff.1 hx).1 (hne k hk)]
    exact hx
  have hbox := bx _ _ _ (by omega) h1.b.box
  have hcnt := bx _ _ _ (by omega) h1.b.cnt
  have hres : Arr Y2 g 41 (bytesV (List.replicate 32 0)) := by
    have hx := h1.b.res
    unfold Arr at *
    rw [hg.block g (Array.getElem?_eq_some_iff.1 hx).1 (hne g (by omega))]
    exact hx
  have k1 : Y2.grownBy (Y2.setCell ⟨g + 1, 0, none⟩ (.slice (some ⟨g2, 0, none⟩) (rs.length + 1) cap2)) (some (g + 1)) := grownBy_setCell' _ _ _
  have hcnt1 : Boxed (Y2.setCell ⟨g + 1, 0, none⟩ (.slice (some ⟨g2, 0, none⟩) (rs.length + 1) cap2)) (g + 2) 3 (.int .i64 (s : Int)) := by
    unfold Boxed at *
    rw [k1.block _ (Array.getElem?_eq_some_iff.1 hcnt).1 (by simp)]
    exact hcnt
  have k2 : (Y2.setCell ⟨g + 1, 0, none⟩ (.slice (some ⟨g2, 0, none⟩) (rs.length + 1) cap2)).grownBy ((Y2.setCell ⟨g + 1, 0, none⟩ (.slice (some ⟨g2, 0, none⟩) (rs.length + 1) cap2)).setCell ⟨g + 2, 0, none⟩ (.int .i64 ((s : Int) + 1))) (some (g + 2)) := grownBy_setCell' _ _ _
  have hg2 := (own_blk hown g2 rfl).1
  have hwg := h.b.wg
  refine ⟨hbox, hcnt1, ⟨⟨?_, ?_, by have := hcnt1.set (.int .i64 ((s : Int) + 1)); rwa [show ((s : Int) + 1) = ((s + 1 : Nat) : Int) by omega] at this ⊢, ?_, ?_, hwg⟩, hls, ?_, ?_⟩, ?_⟩
  · have e : stk (cur :: rs) = stk rs ++ bytesV (Da.ov cur) := by
      unfold stk
      simp [bytesV]
    rw [e]
    exact World.ownsRow.kept (World.ownsRow.kept hown k1 (.inr (by simp [Value.ownBlock]; omega))) k2 (.inr (by simp [Value.ownBlock]; omega))
  · have hb1 := hbox.set (.slice (some ⟨g2, 0, none⟩) (rs.length + 1) cap2)
    unfold Boxed at hb1 ⊢
    rw [k2.block _ (Array.getElem?_eq_some_iff.1 hb1).1 (by simp)]
    exact hb1
  · have hr1 : Arr (Y2.setCell ⟨g + 1, 0, none⟩ (.slice (some ⟨g2, 0, none⟩) (rs.length + 1) cap2)) g 41 (bytesV (List.replicate 32 0)) := by
      unfold Arr at hres ⊢
      rw [k1.block _ (Array.getElem?_eq_some_iff.1 hres).1 (by simp)]
      exact hres
    unfold Arr at hr1 ⊢
    rw [k2.block _ (Array.getElem?_eq_some_iff.1 hr1).1 (by simp)]
    exact hr1
  · have b2 : Below w.heap.size w Y2 := Below.grown h1.b.below hg (by have := h1.b.below.size; omega) (fun k e => by have := (own_blk h1.b.own k e).1; omega)
    exact (b2.setCell (p := ⟨g + 1, 0, none⟩) (by show w.heap.size ≤ g + 1; omega) _).setCell (p := ⟨g + 2, 0, none⟩) (by show w.heap.size ≤ g + 2; omega) _
  · exact hr _ (hw.push ho hc)
  · have := h.flat
    simpa using this
  · refine h1.keep.trans ((KeepsOthers.of_grownBy hg fun k o e ho => ?_).trans ((KeepsOthers.setCell _ _ _).trans (KeepsOthers.setCell _ _ _)))
    obtain ⟨_, cur', h2⟩ := own_blk h1.b.own k e
    rw [h2] at ho
    cases ho
    rfl
theorem oper_append {o : Oper} {a : Act} {w : World} {K : Act → World → Prop} {Q : Exit → Act → World → Prop} (s x : Operand) (t : TypeId) (ho : o.op = .call { callee := .builtin .append, args := #[s, x], argTypes := #[t, t] }) (v y : Value) (hs : a.eval s = v) (hx : a.eval x = y)
    (v' : Value) (w' : World) (hrun : (Builtin.append_ #[t, t] o.type #[v, y]).run Tryd.prog w = .ok v' w') (h : K (a.put o.dst v') w') : o.wp Tryd.prog a w K Q := by
  unfold Oper.wp execOp
  simp only [ho, resolve, invoke, builtin, Sem.run_bind, Sem.run_pure, Result.andThen_ok, List.map_toArray, List.map_cons, List.map_nil, hs, hx, hrun]
  exact h
theorem oper_slice {o : Oper} {a : Act} {w : World} {K : Act → World → Prop} {Q : Exit → Act → World → Prop} (t : TypeId) (len : Nat) (parts : Array (Nat × Operand)) (ho : o.op = .buildSlice t len parts) (ps : Array (Nat × Value)) (hp : (parts.map fun (i, x) => (i, a.eval x)) = ps)
    (v' : Value) (w' : World) (hrun : (Instr.buildSlice t len ps).run Tryd.prog w = .ok v' w') (h : K (a.put o.dst v') w') : o.wp Tryd.prog a w K Q := by
  subst hp
  unfold Oper.wp execOp
  simp only [ho, Sem.run_bind, hrun, Result.andThen_ok]
  exact h
set_option maxRecDepth 100000 in
set_option maxHeartbeats 4000000 in
theorem rootOf_of (Z : Array Value) (hZ : Z = (bytesV (List.replicate 32 0)).toArray) (hzs : ∀ w, Sem.run Tryd.prog (zeroValue 41) w = .ok (.agg Z) w)
    (kf : Nat) (lb : Array Value) (ds : List (List UInt8)) (Pre : World → Prop) (hG : Gives kf lb ds Pre) (ek : ∀ args w, (callFunc kf args).run Tryd.prog w = .ok (.enter kf args) w)
    (w : World) (hP : ∀ X, Below w.heap.size w X → Pre X) (hV : Cds w) (ha : Da.all32 ds) (hl : ds.length ≤ 100000) :
    Calls Tryd.prog 50 #[.func (.func kf) #[] lb] w fun e w' => e = .returned (.agg (bytesV (Da.ov ds)).toArray) ∧ Below w.heap.size w w' := by
  obtain ⟨g, hg⟩ : ∃ g, w.heap.size = g := ⟨_, rfl⟩
  obtain ⟨W1, hW1⟩ : ∃ W1, w.alloc (Obj.cells Z 41) = W1 := ⟨_, rfl⟩
  obtain ⟨W2, hW2⟩ : ∃ W2, W1.alloc (.cells #[.slice none 0 0] 32) = W2 := ⟨_, rfl⟩
  obtain ⟨W3, hW3⟩ : ∃ W3, W2.alloc (.cells #[.int .i64 0] 3) = W3 := ⟨_, rfl⟩
  have hb1 : Below w.heap.size w W1 := by rw [← hW1]; exact new12 _ _
  have hb2 : Below W1.heap.size W1 W2 := by rw [← hW2]; exact new12 _ _
  have hb3 : Below W2.heap.size W2 W3 := by rw [← hW3]; exact new12 _ _
  have hs1 : W1.heap.size = g + 1 := by rw [← hW1, World.size_alloc, hg]
  have hs2 : W2.heap.size = g + 2 := by rw [← hW2, World.size_alloc, hs1]
  have hs3 : W3.heap.size = g + 3 := by rw [← hW3, World.size_alloc, hs2]
  have hA1 : Arr W1 g 41 (bytesV (List.replicate 32 0)) := by rw [← hW1, hZ, ← hg]; exact Arr.made _ _ _
  have hX2 : Boxed W2 (g + 1) 32 (.slice none 0 0) := by rw [← hW2, ← hs1]; exact Boxed.new _ _ _
  have hX3 : Boxed W3 (g + 2) 3 (.int .i64 0) := by rw [← hW3, ← hs2]; exact Boxed.new _ _ _
  have hZs : Z.size = 32 := by rw [hZ]; simp
  have hol := Da.ov_length (l := ds) ha
  obtain ⟨F, hF⟩ : ∃ F, (bytesV (Da.ov ds)).toArray = F := ⟨_, rfl⟩
  have hFs : F.size = 32 := by rw [← hF]; simp [hol]
  have HFS : Hid ((Tryd.prog.info? 41).map (·.size) = some F.size) := Lib.hid (by rw [dg_info, hFs])
  have HFO : Hid (F.all (·.oneCell') = true) := Lib.hid (by rw [← hF]; exact all_oneCell_toArray (bytesV_one _))
  have HFZ : Hid ((bytesV (List.replicate 32 0)).toArray.size = F.size) := Lib.hid (by rw [hFs]; simp)
  have HI0 : Hid (RtI ds g w 0 [] (.slice none 0 0) W3) := Lib.hid ⟨⟨World.ownsRow_nil _ _ _ _, boxed_later hX2 hb3, hX3, (hA1.later hb2 hA1.lt).later hb3 (Nat.lt_of_lt_of_le hA1.lt hb2.size), Kit.step (Kit.step hb1 hb2) hb3, Nat.le_of_eq hg⟩, Nat.zero_le _, Da.Wt.nil 0, rfl⟩
  have HGG := Lib.hid hG
  have HEK := Lib.hid ek
  have HP := Lib.hid hP
  have HV := Lib.hid hV
  have HAL := Lib.hid ha
  have HZS := Lib.hid hZs
  have HF := Lib.hid hF
  have HW1 := Lib.hid hW1
  have HW2 := Lib.hid hW2
  have HW3 := Lib.hid hW3
  have HS1 := Lib.hid hs1
  have HS2 := Lib.hid hs2
  have HS3 := Lib.hid hs3
  have HG := Lib.hid hg
  refine Rf.calls_marks Tryd.func50 rfl ?_
  simp only [Tryd.ntmps50, List.size_toArray, List.length_cons, List.length_nil, Nat.reduceAdd, Nat.reduceSub, Array.replicate_succ, Array.replicate_zero, List.push_toArray, List.append_toArray, List.nil_append, List.cons_append]
  rw [HF.out]
  obtain ⟨N, hN⟩ : ∃ N, ds.length = N := ⟨_, rfl⟩
  have HN := Lib.hid hN
  rw [hN] at hl
  clear hG ek hP hV ha hZ hW1 hW2 hW3 hb1 hb2 hb3 hs1 hs2 hs3 hA1 hX2 hX3 hF hFs hg hol hZs hN
  go_upto_region 1 with fail
  rw [HW1.out, HG.out]
  go_upto_region 2 with fail
  rw [HW2.out, HS1.out]
  go_upto_region 3 with fail
  rw [HW3.out, HS2.out]
  go_wp2_with fail
  refine Rf.range_toldA (α := List UInt8) (σ := Nat) rfl HEK.out (fun x => #[.agg (bytesV x).toArray]) (fun _ => rfl)
    (fun s X => ∃ rs v, RtI ds g w s rs v X)
    (fun c X => False)
    (fun s x s' X => s' = s + 1 ∧ s < N ∧ x = bi ds s)
    0 (fun s => s = N) ?hI ?hIx ?hV ?h0 ?hseq ?round ?done ?stop
  case hI => exact fun s X X' ⟨rs, v, h⟩ k => ⟨rs, v, h.b.nc k (by have := HI0.out.b.below.size; exact this), h.le, h.wt, h.flat⟩
  case hIx => exact fun c X X' h k => h
  case hV => exact fun s x s' X X' h k => h
  case h0 => exact ⟨_, _, HI0.out⟩
  case hseq =>
    intro l B Bx X hnc hi hB hk ht
    refine (HGG.out l (fun s X => ∃ rs v, RtI ds g w s rs v X) B Bx X ?_ ?_ hk ?_ hi hB).mono ?_
    · exact fun i X ⟨rs, v, h⟩ => HP.out X h.b.below
    · exact fun i X X' ⟨rs, v, h⟩ hb => ⟨rs, v, h.b.later hb, h.le, h.wt, h.flat⟩
    · intro i X h hB hlt
      rw [HN.out] at hlt
      exact (ht i (bi ds i) (i + 1) X h hB ⟨rfl, hlt, rfl⟩).mono fun e X' h => h.imp (fun h => ⟨h.1, h.2.1, h.2.2⟩) id
    · rintro e X' ⟨hv, (⟨h, hB⟩ | hx)⟩
      · exact ⟨hv, .inl ⟨ds.length, HN.out, h, hB⟩⟩
      · exact ⟨hv, .inr hx⟩
  case round =>
    rintro l s x s' X Z' To ⟨rs0, v0, hI⟩ ⟨rfl, hlt, rfl⟩ hsz HN' HR' HE'
    have hel := HAL.out.at_ (i := s) (by rw [HN.out]; exact hlt)
    obtain ⟨e, he⟩ : ∃ e, bi ds s = e := ⟨_, rfl⟩
    have HEQ := Lib.hid he
    rw [he] at hel
    rw [he]
    obtain ⟨E, hE⟩ : ∃ E, (bytesV e).toArray = E := ⟨_, rfl⟩
    have HES : Hid ((Tryd.prog.info? 41).map (·.size) = some E.size) := Lib.hid (by rw [dg_info, ← hE]; simp [hel])
    have HEO : Hid (E.all (·.oneCell') = true) := Lib.hid (by rw [← hE]; exact all_oneCell_toArray (bytesV_one _))
    have HEZ : Hid (Z.size = E.size) := Lib.hid (by rw [HZS.out, ← hE]; simp [hel])
    have HE := Lib.hid hE
    have HSZ := Lib.hid hsz
    have HII := Lib.hid hI
    rw [hE]
    clear hel he hE hsz hI
    gi_upto_region 4 with fail
    refine Rf.plain_round (by kernel_rfl) (by rintro ⟨a, w, h⟩; exact h) ?_
    (refine wpList_plain rfl (fun K hK => ?_); go_simp; refine hK _ _ ?_; clear hK K)
    refine wpList_store_row rfl 41 (.tmp 5) (.tmp 9) rfl Z'.heap.size E rfl rfl 41 Z (World.alloc_heap_new Z' _) HES.out HEZ.out HEO.out ?_
    refine wpList_nil ?_
    refine ⟨(new12 _ _).trans (below_row (Nat.le_refl _)), fun Y hY hnew hsy => ?_⟩
    rw [HSZ.out]
    obtain ⟨p, hp⟩ : ∃ p, X.heap.size = p := ⟨_, rfl⟩
    have hL0 : RtL ds g p w X s s rs0 [e] v0 Y := by
      have hI := HII.out
      refine ⟨hI.b.later hY, ?_, keeps_below hY, fun k e2 => ?_, by rw [← hp]; exact hI.b.size, ?_, 0, rfl, hI.wt, fun r h => h⟩
      · rw [Da.ov_one]
        unfold Arr
        rw [← hp, hnew _ (Nat.le_refl _), ← HSZ.out, HE.out]
        exact setRow_heap _ _ _ _ _ _ (World.alloc_heap_new Z' _)
      · obtain ⟨_, cur, h2⟩ := own_blk hI.b.own k e2
        rw [← hp]
        exact (Array.getElem?_eq_some_iff.1 h2).1
      · rw [hI.flat, List.take_add_one]
        congr 1
        have : s < ds.length := by rw [HN.out]; exact hlt
        rw [← HEQ.out]
        simp [bi, this]
    have hc4 := hL0.b.cnt.cell
    rw [hp]
    have HL0 := Lib.hid hL0
    clear hY hnew hsy hL0 hp
    gi_upto_region 6 with fail
    gi_loopw [6, 7] (fun t6 _ wr => ∃ (left : Nat) (rs : List (List (List UInt8))) (cur : List (List UInt8)) (v : Value), t6 = .int .i64 (left : Int) ∧ left ≤ N ∧ RtL ds g p w X s left rs cur v wr) (fun t6 _ _ => (intOf t6).toNat)
    case atStart => exact ⟨s, rs0, [e], v0, rfl, by omega, HL0.out⟩
    case round =>
      rename World => Y1
      obtain ⟨left, rs, cur, v, rfl, hln, hL⟩ := hrel
      have hc3 := hL.b.box.cell
      have hLd := hL.later (Kit.dn' Y1 1)
      by_cases ho : left % 2 = 1
      · obtain ⟨s0, r', g', cap, rfl, rfl, hrc, hcm, hrng, hl0, hnd, hjl, hrl, hnx⟩ := hLd.odd HAL.out ho
        have hcl := (stk_all HAL.out hLd.flat).2
        have NO := tnode_any (Da.ov s0) (Da.ov cur) hl0 hcl Y1.drew (HV.out.later hLd.b.below)
        rw [hnd] at NO
        have HLD := Lib.hid hLd
        have hpg := hLd.pg
        obtain ⟨m, hm⟩ : ∃ m, r'.length = m := ⟨_, rfl⟩
        rw [hm] at hrc hrng hrl hnx hc3 HLD hLd
        obtain ⟨A, hA⟩ : ∃ A, (bytesV (Da.ov s0)).toArray = A := ⟨_, rfl⟩
        obtain ⟨C, hC⟩ : ∃ C, (bytesV (Da.ov cur)).toArray = C := ⟨_, rfl⟩
        obtain ⟨G, hG⟩ : ∃ G, (bytesV (Da.ov (s0 ++ cur))).toArray = G := ⟨_, rfl⟩
        rw [hA, hC, hG] at NO
        rw [hG] at hnx
        have HCC : Hid (Y1.drew.heap[p]? = some (.cells C 41 (0, 0))) := Lib.hid (by rw [← hC]; exact hLd.cell)
        have HRS : Hid ((Tryd.prog.info? 41).map (·.size) = some (bytesV (Da.ov s0)).length) := Lib.hid (by rw [dg_info]; simp [hl0])
        have HCS : Hid ((Tryd.prog.info? 41).map (·.size) = some C.size) := Lib.hid (by rw [dg_info, ← hC]; simp [hcl])
        have HGS : Hid ((Tryd.prog.info? 41).map (·.size) = some G.size) := Lib.hid (by rw [dg_info, ← hG]; simp [hjl])
        have HGO : Hid (G.all (·.oneCell') = true) := Lib.hid (by rw [← hG]; exact all_oneCell_toArray (bytesV_one _))
        have HGZ : Hid (C.size = G.size) := Lib.hid (by rw [← hC, ← hG]; simp [hcl, hjl])
        have HA := Lib.hid hA
        have HC := Lib.hid hC
        have HNO := Lib.hid NO
        have HRNG := Lib.hid hrng
        have HNX := Lib.hid hnx
        have hrem : Int.tmod (left : Int) 2 = 1 := by rw [Int.tmod_eq_emod_of_nonneg (by omega)]; omega
        have hquo : Int.tdiv (left : Int) 2 = ((left / 2 : Nat) : Int) := by rw [Int.tdiv_eq_ediv_of_nonneg (by omega)]; omega
        have hc3d : Y1.drew.cell? ⟨g + 1, 0, none⟩ = some (.slice (some ⟨g', 0, none⟩) (m + 1) cap) := hc3
        have hml : (m : Int) < (m : Int) + 1 := by omega
        have hw1 : IntKind.i64.wrap (((m + 1 : Nat) : Int) - 1) = (m : Int) := by
          unfold maxLen at hcm
          rw [IntKind.wrap_i64]; omega
        unfold maxLen at hcm
        clear hL hLd NO hl0 hcl hjl hnd hA hC hG hrng hnx hm
        gi_upto_region 9 with fail
        refine Rf.region_round (by kernel_rfl) (by kernel_rfl) ?_
        refine wpAnyIn_take (i := 1) (v := .int .i64 (m : Int)) rfl rfl (by kernel_rfl) (by kernel_rfl) (by kernel_rfl) (fun _ _ _ h => h) ⟨Or.inl ⟨by rfl, fun w => by go_simp⟩, fun _ => rfl⟩ ?_
        refine wpAnyIn_ready (rs := [0, 4]) (by kernel_rfl) (by simp) ?_
        refine AllReadyIn.cons rfl (fun K hK => ?_) (AllReadyIn.cons rfl (fun K hK => ?_) AllReadyIn.nil)
        · (go_simp; refine hK _ _ ?_; clear hK K)
          refine wpAnyIn_take (i := 2) (v := .pointer (some ⟨g', m * 32, none⟩)) rfl rfl (by kernel_rfl) (by kernel_rfl) (by kernel_rfl) (fun _ _ _ h => h) ⟨Or.inl ⟨by rfl, fun w => by go_simp⟩, fun _ => rfl⟩ ?_
          refine wpAnyIn_ready (rs := [3, 4]) (by kernel_rfl) (by simp) ?_
          refine AllReadyIn.cons rfl (fun K hK => ?_) (AllReadyIn.cons rfl (fun K hK => ?_) AllReadyIn.nil)
          · (rw [if_pos (by rfl)]; refine Rf.oper_wide (wp_load_mid 41 (.tmp 21) rfl g' (m * 32) rfl (bytesV (Da.ov s0)) _ HRNG.out dg_under rfl HRS.out (hK _ _ ?_)); clear hK K; rw [HA.out])
            refine wpAnyIn_ready (rs := [4]) (by kernel_rfl) (by simp) ?_
            refine AllReadyIn.cons rfl (fun K hK => ?_) AllReadyIn.nil
            (rw [if_pos (by rfl)]; refine Rf.oper_wide (wp_load_row 41 (.tmp 5) rfl p rfl 41 C (0, 0) _ HCC.out dg_under rfl HCS.out (hK _ _ ?_)); clear hK K)
            refine wpAnyIn_ready (rs := [5]) (by kernel_rfl) (by simp) ?_
            refine AllReadyIn.cons rfl (fun K hK => ?_) AllReadyIn.nil
            rw [if_pos (by rfl)]
            refine Rf.oper_wide ?_
            go_simp
            refine HNO.out.mono ?_
            rintro e' Y2 ⟨rfl, hb2⟩
            refine hK _ _ ?_
            clear hK K
            have hn2 := HNX.out Y2 hb2
            have hc2 : Y2.heap[p]? = some (.cells C 41 (0, 0)) := by rw [← HC.out]; exact (HLD.out.later hb2).cell
            have hbx := boxed_row_ne (F := G) (HLD.out.later hb2).b.box (g := p) (by have := HLD.out.pg; omega)
            have hc3' := hbx.cell
            have hf3' := hbx.frozen
            have HN2 := Lib.hid hn2
            have HC2 := Lib.hid hc2
            clear hn2 hc2 hb2 hbx
            refine wpAnyIn_ready (rs := [6]) (by kernel_rfl) (by simp) ?_
            refine AllReadyIn.cons rfl (fun K hK => ?_) AllReadyIn.nil
            rw [if_pos (by rfl)]
            refine Rf.oper_wide (wp_store_row 41 (.tmp 5) (.tmp 24) rfl p G rfl rfl 41 C HC2.out HGS.out HGZ.out HGO.out (hK _ _ ?_))
            clear hK K
            refine wpAnyIn_done (by kernel_rfl) ?_ _
            gi_wp2
            go_roundw
            case rel => exact ⟨left / 2, r', s0 ++ cur, _, by go_num, by omega, HN2.out⟩
            case measure => simp [intOf]; omega
          · (rw [if_pos (by rfl)]; refine Rf.oper_wide (wp_load_row 41 (.tmp 5) rfl p rfl 41 C (0, 0) _ HCC.out dg_under rfl HCS.out (hK _ _ ?_)); clear hK K)
            refine wpAnyIn_ready (rs := [3]) (by kernel_rfl) (by simp) ?_
            refine AllReadyIn.cons rfl (fun K hK => ?_) AllReadyIn.nil
            (rw [if_pos (by rfl)]; refine Rf.oper_wide (wp_load_mid 41 (.tmp 21) rfl g' (m * 32) rfl (bytesV (Da.ov s0)) _ HRNG.out dg_under rfl HRS.out (hK _ _ ?_)); clear hK K; rw [HA.out])
            refine wpAnyIn_ready (rs := [5]) (by kernel_rfl) (by simp) ?_
            refine AllReadyIn.cons rfl (fun K hK => ?_) AllReadyIn.nil
            rw [if_pos (by rfl)]
            refine Rf.oper_wide ?_
            go_simp
            refine HNO.out.mono ?_
            rintro e' Y2 ⟨rfl, hb2⟩
            refine hK _ _ ?_
            clear hK K
            have hn2 := HNX.out Y2 hb2
            have hc2 : Y2.heap[p]? = some (.cells C 41 (0, 0)) := by rw [← HC.out]; exact (HLD.out.later hb2).cell
            have hbx := boxed_row_ne (F := G) (HLD.out.later hb2).b.box (g := p) (by have := HLD.out.pg; omega)
            have hc3' := hbx.cell
            have hf3' := hbx.frozen
            have HN2 := Lib.hid hn2
            have HC2 := Lib.hid hc2
            clear hn2 hc2 hb2 hbx
            refine wpAnyIn_ready (rs := [6]) (by kernel_rfl) (by simp) ?_
            refine AllReadyIn.cons rfl (fun K hK => ?_) AllReadyIn.nil
            rw [if_pos (by rfl)]
            refine Rf.oper_wide (wp_store_row 41 (.tmp 5) (.tmp 24) rfl p G rfl rfl 41 C HC2.out HGS.out HGZ.out HGO.out (hK _ _ ?_))
            clear hK K
            refine wpAnyIn_done (by kernel_rfl) ?_ _
            gi_wp2
            go_roundw
            case rel => exact ⟨left / 2, r', s0 ++ cur, _, by go_num, by omega, HN2.out⟩
            case measure => simp [intOf]; omega
        · (rw [if_pos (by rfl)]; refine Rf.oper_wide (wp_load_row 41 (.tmp 5) rfl p rfl 41 C (0, 0) _ HCC.out dg_under rfl HCS.out (hK _ _ ?_)); clear hK K)
          refine wpAnyIn_ready (rs := [0]) (by kernel_rfl) (by simp) ?_
          refine AllReadyIn.cons rfl (fun K hK => ?_) AllReadyIn.nil
          (go_simp; refine hK _ _ ?_; clear hK K)
          refine wpAnyIn_take (i := 2) (v := .pointer (some ⟨g', m * 32, none⟩)) rfl rfl (by kernel_rfl) (by kernel_rfl) (by kernel_rfl) (fun _ _ _ h => h) ⟨Or.inl ⟨by rfl, fun w => by go_simp⟩, fun _ => rfl⟩ ?_
          refine wpAnyIn_ready (rs := [3]) (by kernel_rfl) (by simp) ?_
          refine AllReadyIn.cons rfl (fun K hK => ?_) AllReadyIn.nil
          (rw [if_pos (by rfl)]; refine Rf.oper_wide (wp_load_mid 41 (.tmp 21) rfl g' (m * 32) rfl (bytesV (Da.ov s0)) _ HRNG.out dg_under rfl HRS.out (hK _ _ ?_)); clear hK K; rw [HA.out])
          refine wpAnyIn_ready (rs := [5]) (by kernel_rfl) (by simp) ?_
          refine AllReadyIn.cons rfl (fun K hK => ?_) AllReadyIn.nil
          rw [if_pos (by rfl)]
          refine Rf.oper_wide ?_
          go_simp
          refine HNO.out.mono ?_
          rintro e' Y2 ⟨rfl, hb2⟩
          refine hK _ _ ?_
          clear hK K
          have hn2 := HNX.out Y2 hb2
          have hc2 : Y2.heap[p]? = some (.cells C 41 (0, 0)) := by rw [← HC.out]; exact (HLD.out.later hb2).cell
          have hbx := boxed_row_ne (F := G) (HLD.out.later hb2).b.box (g := p) (by have := HLD.out.pg; omega)
          have hc3' := hbx.cell
          have hf3' := hbx.frozen
          have HN2 := Lib.hid hn2
          have HC2 := Lib.hid hc2
          clear hn2 hc2 hb2 hbx
          refine wpAnyIn_ready (rs := [6]) (by kernel_rfl) (by simp) ?_
          refine AllReadyIn.cons rfl (fun K hK => ?_) AllReadyIn.nil
          rw [if_pos (by rfl)]
          refine Rf.oper_wide (wp_store_row 41 (.tmp 5) (.tmp 24) rfl p G rfl rfl 41 C HC2.out HGS.out HGZ.out HGO.out (hK _ _ ?_))
          clear hK K
          refine wpAnyIn_done (by kernel_rfl) ?_ _
          gi_wp2
          go_roundw
          case rel => exact ⟨left / 2, r', s0 ++ cur, _, by go_num, by omega, HN2.out⟩
          case measure => simp [intOf]; omega
      · have hal := stk_all HAL.out hL.flat
        have ho' : left % 2 = 0 := by omega
        obtain ⟨C, hC⟩ : ∃ C, (bytesV (Da.ov cur)).toArray = C := ⟨_, rfl⟩
        have hCs : C.size = 32 := by rw [← hC]; simp [hal.2]
        have HCC : Hid (Y1.heap[p]? = some (.cells C 41 (0, 0))) := Lib.hid (by rw [← hC]; exact hL.cell)
        have HCS : Hid ((Tryd.prog.info? 41).map (·.size) = some C.size) := Lib.hid (by rw [dg_info, hCs])
        have hbs := dg_slice_run (tS := 32) Tryd.underlying32 dgI_code C hCs Y1
        have hba := new12 Y1 (.cells C 41)
        have hrow : (Y1.alloc (.cells C 41)).rangeAt Y1.heap.size 0 (bytesV (Da.ov cur)) := by rw [← hC]; exact (Arr.made Y1 41 (bytesV (Da.ov cur))).rng
        have hlw : rs.length ≤ left := by obtain ⟨j, _, h2, _⟩ := hL.lv; exact h2.keep
        obtain ⟨g2, cap2, Y2, hrun, hown2, hgr2, _⟩ := dg_append_run (tS := 32) Tryd.underlying32 dgI_code 32 _ (g + 3) v rs.length (stk rs) (own_later12 hL.b.own hba) Y1.heap.size (Da.ov cur) hal.2 hrow (by omega) (by have := hL.b.size; have := hba.size; omega)
        obtain ⟨hbx, hcn, hRI, hKO⟩ := hL.push (by rw [HN.out]; exact hlt) ho' hba hown2 hgr2
        have hc4' := hcn.cell
        have hf4' := hcn.frozen
        have hc3' := hbx.cell
        have hf3' := hbx.frozen
        have HRUN := Lib.hid hrun
        have HRI := Lib.hid hRI
        have HKO := Lib.hid hKO
        have hrem : Int.tmod (left : Int) 2 = 0 := by rw [Int.tmod_eq_emod_of_nonneg (by omega)]; omega
        have hw1 : IntKind.i64.wrap ((s : Int) + 1) = (s : Int) + 1 := by rw [IntKind.wrap_i64]; omega
        clear hL hLd hal hC hCs hba hrow hrun hown2 hgr2 hbx hcn hRI hKO
        gi_upto_region 11 with fail
        refine wpIn_region_lit ?_
        (refine wpListIn_plain rfl (fun K hK => Rf.oper_round l (fun c h => by cases h) ?_); go_simp; refine hK _ _ ?_; clear hK K)
        refine wpListIn_plain rfl (fun K hK => Rf.oper_round l (fun c h => by cases h) (wp_load_row 41 (.tmp 5) rfl p rfl 41 C (0, 0) _ HCC.out dg_under rfl HCS.out (hK _ _ ?_)))
        clear hK K
        refine wpListIn_plain rfl (fun K hK => Rf.oper_round l (fun c h => by cases h) (oper_slice 32 1 _ rfl #[(0, .agg C)] (by first | rfl | simp [Act.eval, Act.put]) _ _ hbs (hK _ _ ?_)))
        clear hK K
        refine wpListIn_plain rfl (fun K hK => Rf.oper_round l (fun c h => by cases h) (oper_append (.tmp 28) (.tmp 30) 32 rfl _ _ rfl rfl _ _ HRUN.out (hK _ _ ?_)))
        clear hK K hbs
        (refine wpListIn_plain rfl (fun K hK => Rf.oper_round l (fun c h => by cases h) ?_); go_simp; refine hK _ _ ?_; clear hK K)
        refine wpListIn_nil ?_
        gi_wp2
        exact HN'.out _ _ HKO.out ⟨_, _, HRI.out⟩
  case done =>
    rintro D' s X hD' hs ⟨rs, v, hI⟩ hK'
    have hfl : rs.reverse.flatten = ds := by
      rw [hI.flat, hs, List.take_of_length_le (by rw [HN.out]; exact Nat.le_refl _)]
    have hall : Da.all32 (rs.reverse.map Da.ov) := Da.all32.ovs (by rw [hfl]; exact HAL.out)
    have hjw : Da.jw (rs.reverse.map Da.ov) = Da.ov ds := by rw [Da.jw_stack hI.wt, hfl]
    obtain ⟨hn, o, c, rfl, hdg⟩ := own_dg hI.b.own hall
    have JO := tjoined_any (rs.reverse.map Da.ov) o rs.length c hn.symm X hdg (HV.out.later hI.b.below) (by rw [hjw]; exact Da.ov_length HAL.out)
    rw [hjw, HF.out] at JO
    have hc3 := hI.b.box.cell
    have HJO := Lib.hid JO
    have HII := Lib.hid hI
    have HKK := Lib.hid hK'
    have HS3' := HI0.out.b.below.size
    clear hfl hall hjw hn hdg JO hI hK'
    go_upto_region 13 with fail
    apply wp_region_lit
    (refine wpList_plain rfl (fun K hK => ?_); go_simp; refine hK _ _ ?_; clear hK K)
    (refine wpList_plain rfl (fun K hK => ?_); go_simp)
    refine HJO.out.mono ?_
    rintro e X2 ⟨rfl, hb2⟩
    refine hK _ _ ?_
    clear hK K HJO
    have hres := (HII.out.b.later hb2).res
    have hK2 : X2.heap[D']? = some (.deferred (some [])) := by rw [hb2.block _ (Array.getElem?_eq_some_iff.1 HKK.out).1]; exact HKK.out
    have hne : D' ≠ g := fun e => by
      subst e
      rw [show X2.heap[D']? = _ from hres] at hK2
      cases hK2
    have hK3 : (X2.setRow g F).heap[D']? = some (.deferred (some [])) := by rw [setRow_other X2 g D' F hne]; exact hK2
    have hg2 : ((X2.setRow g F).putObj D' (.deferred none)).heap[g]? = some (.cells F 41 (0, 0)) := by
      rw [World.putObj_heap_other (by omega)]
      exact setRow_heap _ _ _ _ _ _ hres
    have HBW : Hid (Below w.heap.size w ((X2.setRow g F).putObj D' (.deferred none))) := Lib.hid
      ((((HII.out.b.later hb2).below).trans (below_row (Nat.le_of_eq HG.out))).trans (belowK_b (w := w) (Nat.le_refl _) (X2.setRow g F) D' _ _ (by omega) hK3 rfl rfl))
    have HK3 := Lib.hid hK3
    have HG2 := Lib.hid hg2
    have HRES : Hid (X2.heap[g]? = some (.cells (bytesV (List.replicate 32 0)).toArray 41 (0, 0))) := Lib.hid hres
    clear hres hK2 hne hK3 hg2 hb2
    refine wpList_store_row rfl 41 (.tmp 2) (.tmp 35) rfl g F rfl rfl 41 (bytesV (List.replicate 32 0)).toArray HRES.out HFS.out HFZ.out HFO.out ?_
    go_wp2_with fail
    refine Rf.leaves HK3.out (results_cell_row rfl _ _ g 41 F (0, 0) _ rfl HG2.out dg_under rfl HFS.out) ?_
    exact ⟨rfl, HBW.out⟩
  case stop => exact fun D c X hD h => h.elim
end Go.Proofs.YtfccpfmgkpcnoaaDoor
namespace Go.Proofs.YtfccpfmgkpcnoaaDoor
open Go.RowKit
set_option linter.unusedVariables false
set_option linter.unusedSimpArgs false
attribute [local go_sem] Oper.semAt_some
theorem rootOf_any (kf : Nat) (lb : Array Value) (ds : List (List UInt8)) (Pre : World → Prop) (hG : Gives kf lb ds Pre) (ek : ∀ args w, (callFunc kf args).run Tryd.prog w = .ok (.enter kf args) w)
    (w : World) (hP : ∀ X, Below w.heap.size w X → Pre X) (hV : Cds w) (ha : Da.all32 ds) (hl : ds.length ≤ 100000) :
    Calls Tryd.prog 50 #[.func (.func kf) #[] lb] w fun e w' => e = .returned (.agg (bytesV (Da.ov ds)).toArray) ∧ Below w.heap.size w w' := rootOf_of _ rfl dg_zero kf lb ds Pre hG ek w hP hV ha hl
set_option maxRecDepth 100000 in
set_option maxHeartbeats 1000000 in
theorem troot_of (Z : Array Value) (hZ : Z = (bytesV (List.replicate 32 0)).toArray) (hzs : ∀ w, Sem.run Tryd.prog (zeroValue 41) w = .ok (.agg Z) w)
    (bs : List (List UInt8)) (o : Option Addr) (n c : Nat) (hn : bs.length = n) (w : World) (hR : RbIs w o bs c) (hV : Cds w) (hl : bs.length ≤ 100000) (hll : ∀ i, i < bs.length → (bi bs i).length ≤ 800000) :
    Calls Tryd.prog 31 #[.slice o n c] w fun e w' => e = .returned (.agg (bytesV (Da.mth bs)).toArray) ∧ Below w.heap.size w w' := by
  obtain ⟨g, hg⟩ : ∃ g, w.heap.size = g := ⟨_, rfl⟩
  obtain ⟨W1, hW1⟩ : ∃ W1, w.alloc (Obj.cells Z 41) = W1 := ⟨_, rfl⟩
  obtain ⟨W2, hW2⟩ : ∃ W2, W1.alloc (.cells #[.slice o n c] 22) = W2 := ⟨_, rfl⟩
  have hb1 : Below w.heap.size w W1 := by rw [← hW1]; exact new12 _ _
  have hb2 : Below W1.heap.size W1 W2 := by rw [← hW2]; exact new12 _ _
  have hA1 : Arr W1 g 41 Z.toList := by rw [← hW1, ← hg]; exact Arr.made _ _ _
  have hX2 : Boxed W2 W1.heap.size 22 (.slice o n c) := by rw [← hW2]; exact Boxed.new _ _ _
  have hB2 := Kit.step hb1 hb2
  have RO := rootOf_any 64 #[.pointer (some ⟨W1.heap.size, 0, none⟩)] (bs.map Da.lf) _ (digests_gives bs o c W1.heap.size hll) (enters_of Tryd.func64 (by kernel_rfl) rfl) W2
    (fun X hb => ⟨by rw [hn]; exact boxed_later hX2 hb, (hR.later hB2).later hb, (hV.later hB2).later hb⟩) (hV.later hB2) (Da.all32.lf bs) (by rw [List.length_map]; exact hl)
  rw [show Da.ov (bs.map Da.lf) = Da.mth bs from rfl] at RO
  have hol : (Da.mth bs).length = 32 := Da.mth_length bs
  obtain ⟨F, hF⟩ : ∃ F, (bytesV (Da.mth bs)).toArray = F := ⟨_, rfl⟩
  have HFS : Hid ((Tryd.prog.info? 41).map (·.size) = some F.size) := Lib.hid (by rw [dg_info, ← hF]; simp [hol])
  have HFO : Hid (F.all (·.oneCell') = true) := Lib.hid (by rw [← hF]; exact all_oneCell_toArray (bytesV_one _))
  have HFZ : Hid (Z.size = F.size) := Lib.hid (by rw [hZ, ← hF]; simp [hol])
  rw [hF] at RO ⊢
  have MK := Lib.hid (mdigests_any o n c W1)
  rw [hW2] at MK
  have HRO := Lib.hid RO
  have HA2 := Lib.hid (hA1.later hb2 hA1.lt)
  have HB2 := Lib.hid hB2
  have HW1 := Lib.hid hW1
  have HG := Lib.hid hg
  clear RO hb1 hb2 hA1 hX2 hB2 hW1 hW2 hF hol hZ hR hV hl hn hg hll
  go_enter Tryd.func31, Tryd.ntmps31
  go_upto_region 1 with fail
  rw [HW1.out, HG.out]
  apply wp_region_lit
  (refine wpList_plain rfl (fun K hK => ?_); go_simp; refine hK _ _ ?_; clear hK K)
  (refine wpList_plain rfl (fun K hK => ?_); go_simp)
  refine MK.out.mono ?_
  rintro e w2 ⟨rfl, rfl⟩
  refine hK _ _ ?_
  clear hK K MK
  (refine wpList_plain rfl (fun K hK => ?_); go_simp)
  refine HRO.out.mono ?_
  rintro e W3 ⟨rfl, hb3⟩
  refine hK _ _ ?_
  clear hK K HRO
  have hA3 := HA2.out.later hb3 HA2.out.lt
  have HA3 : Hid (W3.heap[g]? = some (.cells Z 41 (0, 0))) := Lib.hid hA3
  have HGW : Hid ((W3.setRow g F).heap[g]? = some (.cells F 41 (0, 0))) := Lib.hid (setRow_heap _ _ _ _ _ _ hA3)
  have HBW : Hid (Below w.heap.size w (W3.setRow g F)) := Lib.hid ((Kit.step HB2.out hb3).trans (below_row (Nat.le_of_eq HG.out)))
  clear hA3 hb3
  refine wpList_store_row rfl 41 (.tmp 2) (.tmp 5) rfl g F rfl rfl 41 Z HA3.out HFS.out HFZ.out HFO.out ?_
  go_wp2_with fail
  refine bodyPost_ret (results_cell_row rfl _ _ g 41 F (0, 0) _ rfl HGW.out dg_under rfl HFS.out) rfl ?_
  exact ⟨rfl, HBW.out⟩
theorem troot_any (bs : List (List UInt8)) (o : Option Addr) (n c : Nat) (hn : bs.length = n) (w : World) (hR : RbIs w o bs c) (hV : Cds w) (hl : bs.length ≤ 100000) (hll : ∀ i, i < bs.length → (bi bs i).length ≤ 800000) :
    Calls Tryd.prog 31 #[.slice o n c] w fun e w' => e = .returned (.agg (bytesV (Da.mth bs)).toArray) ∧ Below w.heap.size w w' := troot_of _ rfl dg_zero bs o n c hn w hR hV hl hll
set_option maxRecDepth 100000 in
set_option maxHeartbeats 1000000 in
theorem tover_of (Z : Array Value) (hZ : Z = (bytesV (List.replicate 32 0)).toArray) (hzs : ∀ w, Sem.run Tryd.prog (zeroValue 41) w = .ok (.agg Z) w)
    (ds : List (List UInt8)) (o : Option Addr) (n c : Nat) (hn : ds.length = n) (w : World) (hR : DgIs w o ds c) (hV : Cds w) (hl : ds.length ≤ 100000) :
    Calls Tryd.prog 38 #[.slice o n c] w fun e w' => e = .returned (.agg (bytesV (Da.ov ds)).toArray) ∧ Below w.heap.size w w' := by
  obtain ⟨g, hg⟩ : ∃ g, w.heap.size = g := ⟨_, rfl⟩
  obtain ⟨W1, hW1⟩ : ∃ W1, w.alloc (Obj.cells Z 41) = W1 := ⟨_, rfl⟩
  obtain ⟨W2, hW2⟩ : ∃ W2, W1.alloc (.cells #[.slice o n c] 32) = W2 := ⟨_, rfl⟩
  have hb1 : Below w.heap.size w W1 := by rw [← hW1]; exact new12 _ _
  have hb2 : Below W1.heap.size W1 W2 := by rw [← hW2]; exact new12 _ _
  have hA1 : Arr W1 g 41 Z.toList := by rw [← hW1, ← hg]; exact Arr.made _ _ _
  have hX2 : Boxed W2 W1.heap.size 32 (.slice o n c) := by rw [← hW2]; exact Boxed.new _ _ _
  have hB2 := Kit.step hb1 hb2
  have hal := hR.all
  have RO := rootOf_any 66 #[.pointer (some ⟨W1.heap.size, 0, none⟩)] ds _ (values_gives ds o c W1.heap.size) (enters_of Tryd.func66 (by kernel_rfl) rfl) W2
    (fun X hb => ⟨by rw [hn]; exact boxed_later hX2 hb, (hR.later hB2).later hb⟩) (hV.later hB2) hal hl
  have hol : (Da.ov ds).length = 32 := Da.ov_length hal
  obtain ⟨F, hF⟩ : ∃ F, (bytesV (Da.ov ds)).toArray = F := ⟨_, rfl⟩
  have HFS : Hid ((Tryd.prog.info? 41).map (·.size) = some F.size) := Lib.hid (by rw [dg_info, ← hF]; simp [hol])
  have HFO : Hid (F.all (·.oneCell') = true) := Lib.hid (by rw [← hF]; exact all_oneCell_toArray (bytesV_one _))
  have HFZ : Hid (Z.size = F.size) := Lib.hid (by rw [hZ, ← hF]; simp [hol])
  rw [hF] at RO ⊢
  have MK := Lib.hid (mvalues_any o n c W1)
  rw [hW2] at MK
  have HRO := Lib.hid RO
  have HA2 := Lib.hid (hA1.later hb2 hA1.lt)
  have HB2 := Lib.hid hB2
  have HW1 := Lib.hid hW1
  have HG := Lib.hid hg
  clear RO hb1 hb2 hA1 hX2 hB2 hW1 hW2 hF hol hZ hR hV hl hn hg 
  go_enter Tryd.func38, Tryd.ntmps38
  go_upto_region 1 with fail
  rw [HW1.out, HG.out]
  apply wp_region_lit
  (refine wpList_plain rfl (fun K hK => ?_); go_simp; refine hK _ _ ?_; clear hK K)
  (refine wpList_plain rfl (fun K hK => ?_); go_simp)
  refine MK.out.mono ?_
  rintro e w2 ⟨rfl, rfl⟩
  refine hK _ _ ?_
  clear hK K MK
  (refine wpList_plain rfl (fun K hK => ?_); go_simp)
  refine HRO.out.mono ?_
  rintro e W3 ⟨rfl, hb3⟩
  refine hK _ _ ?_
  clear hK K HRO
  have hA3 := HA2.out.later hb3 HA2.out.lt
  have HA3 : Hid (W3.heap[g]? = some (.cells Z 41 (0, 0))) := Lib.hid hA3
  have HGW : Hid ((W3.setRow g F).heap[g]? = some (.cells F 41 (0, 0))) := Lib.hid (setRow_heap _ _ _ _ _ _ hA3)
  have HBW : Hid (Below w.heap.size w (W3.setRow g F)) := Lib.hid ((Kit.step HB2.out hb3).trans (below_row (Nat.le_of_eq HG.out)))
  clear hA3 hb3
  refine wpList_store_row rfl 41 (.tmp 2) (.tmp 5) rfl g F rfl rfl 41 Z HA3.out HFS.out HFZ.out HFO.out ?_
  go_wp2_with fail
  refine bodyPost_ret (results_cell_row rfl _ _ g 41 F (0, 0) _ rfl HGW.out dg_under rfl HFS.out) rfl ?_
  exact ⟨rfl, HBW.out⟩
theorem tover_any (ds : List (List UInt8)) (o : Option Addr) (n c : Nat) (hn : ds.length = n) (w : World) (hR : DgIs w o ds c) (hV : Cds w) (hl : ds.length ≤ 100000) :
    Calls Tryd.prog 38 #[.slice o n c] w fun e w' => e = .returned (.agg (bytesV (Da.ov ds)).toArray) ∧ Below w.heap.size w w' := tover_of _ rfl dg_zero ds o n c hn w hR hV hl
/-- between two rounds of Leaves -/
structure LvI (ds : List (List UInt8)) (u : Value) (b : Nat) (w : World) (s : Nat) (v : Value) (X : World) : Prop where
  own : X.ownsRow w.heap.size 41 32 v s (bytesV (ds.take s).flatten)
  box : Boxed X b 32 v
  le : s ≤ ds.length
  ne : some b ≠ v.ownBlock
  xb : Boxed X (b + 1) 22 u
  ne2 : some (b + 1) ≠ v.ownBlock
  wb : w.heap.size ≤ b
  below : Below w.heap.size w X
theorem LvI.nc {ds : List (List UInt8)} {b s N : Nat} {w X X' : World} {u v : Value} (h : LvI ds u b w s v X) (k : Rf.NC N X X') (hB : w.heap.size ≤ N) : LvI ds u b w s v X' :=
  ⟨k.owns h.own, boxed_nc12 h.box k, h.le, h.ne, boxed_nc12 h.xb k, h.ne2, h.wb, h.below.trans (k.below hB h.below.size)⟩
theorem LvI.later {ds : List (List UInt8)} {b s : Nat} {w X X' : World} {u v : Value} (h : LvI ds u b w s v X) (hb : Below X.heap.size X X') : LvI ds u b w s v X' :=
  ⟨own_later12 h.own hb, boxed_later h.box hb, h.le, h.ne, boxed_later h.xb hb, h.ne2, h.wb, Kit.step h.below hb⟩
theorem LvI.push {ds : List (List UInt8)} {b s : Nat} {w X X1 X2 : World} {u v : Value} (h : LvI ds u b w s v X) (hls : s < ds.length) (hb : Below X.heap.size X X1) {g2 cap2 : Nat}
    (hown : X2.ownsRow w.heap.size 41 32 (.slice (some ⟨g2, 0, none⟩) (s + 1) cap2) (s + 1) (bytesV (ds.take s).flatten ++ bytesV (bi ds s))) (hg : X1.grownBy X2 v.ownBlock) (hat : some g2 = v.ownBlock ∨ g2 = X1.heap.size) :
    Boxed X2 b 32 v ∧ LvI ds u b w (s + 1) (.slice (some ⟨g2, 0, none⟩) (s + 1) cap2) (X2.setCell ⟨b, 0, none⟩ (.slice (some ⟨g2, 0, none⟩) (s + 1) cap2)) ∧ KeepsOthers X (X2.setCell ⟨b, 0, none⟩ (.slice (some ⟨g2, 0, none⟩) (s + 1) cap2)) := by
  have h1 := h.later hb
  have hbl := h1.box.lt
  have hn2 : b ≠ g2 := fun e => by
    rcases hat with h2 | h2
    · exact h.ne (by rw [e]; exact h2)
    · omega
  have hbox : Boxed X2 b 32 v := by
    have hx := h1.box
    unfold Boxed at *
    rw [hg.block b (Array.getElem?_eq_some_iff.1 hx).1 h.ne]
    exact hx
  have k1 : X2.grownBy (X2.setCell ⟨b, 0, none⟩ (.slice (some ⟨g2, 0, none⟩) (s + 1) cap2)) (some b) := grownBy_setCell' _ _ _
  have hxl := h1.xb.lt
  have hn3 : b + 1 ≠ g2 := fun e => by
    rcases hat with h2 | h2
    · exact h.ne2 (by rw [e]; exact h2)
    · omega
  have hxb : Boxed X2 (b + 1) 22 u := by
    have hx := h1.xb
    unfold Boxed at *
    rw [hg.block (b + 1) (Array.getElem?_eq_some_iff.1 hx).1 h.ne2]
    exact hx
  have hwb := h.wb
  have b2 : Below w.heap.size w X2 := Below.grown h1.below hg h1.below.size (fun k e => (own_blk h1.own k e).1)
  have e : (ds.take (s + 1)).flatten = (ds.take s).flatten ++ bi ds s := flat_step ds s hls
  refine ⟨hbox, ⟨?_, hbox.set _, hls, fun e => hn2 (by cases e; rfl), ?_, fun e => hn3 (by cases e; rfl), h.wb, b2.setCell (p := ⟨b, 0, none⟩) hwb _⟩, ?_⟩
  · rw [e, bytesV_app]
    exact World.ownsRow.kept hown k1 (.inr (by simp [Value.ownBlock]; omega))
  · unfold Boxed at *
    rw [k1.block _ (Array.getElem?_eq_some_iff.1 hxb).1 (by simp)]
    exact hxb
  · refine (keeps_below hb).trans ((KeepsOthers.of_grownBy hg fun k o e ho => ?_).trans (KeepsOthers.setCell _ _ _))
    obtain ⟨_, cur', h2⟩ := own_blk h1.own k e
    rw [h2] at ho
    cases ho
    rfl
set_option maxRecDepth 100000 in
set_option maxHeartbeats 2000000 in
theorem tleaves_of (Z : Array Value) (hZ : Z.size = 32) (hzs : ∀ w, Sem.run Tryd.prog (zeroValue 41) w = .ok (.agg Z) w)
    (bs : List (List UInt8)) (o : Option Addr) (n c : Nat) (hn : bs.length = n) (w : World) (hR : RbIs w o bs c) (hV : Cds w) (hl : n ≤ 100000) (hll : ∀ i, i < bs.length → (bi bs i).length ≤ 800000) :
    Calls Tryd.prog 30 #[.slice o n c] w fun e w' => ∃ o' c', e = .returned (.slice o' n c') ∧ DgIs w' o' (bs.map Da.lf) c' ∧ Below w.heap.size w w' := by
  have HR := Lib.hid hR
  have HV := Lib.hid hV
  have HN := Lib.hid hn
  have HLL := Lib.hid hll
  have HZ := Lib.hid hZ
  have hcl := hR.le.1
  have hca := hR.le.2
  rw [hn] at hcl
  obtain ⟨i0, hi, hz0, hz1, hz2⟩ := dgI_parts dgI_code
  refine Rf.calls_marks Tryd.func30 rfl ?_
  simp only [Tryd.ntmps30, List.size_toArray, List.length_cons, List.length_nil, Nat.reduceAdd, Nat.reduceSub, Array.replicate_succ, Array.replicate_zero, List.push_toArray, List.append_toArray, List.nil_append, List.cons_append]
  clear hR hV hn hll hZ
  unfold maxLen at hca
  go_upto_region 1 with fail
  apply wp_region_lit
  (refine wpList_plain rfl (fun K hK => ?_); go_simp; refine hK _ _ ?_; clear hK K)
  (refine wpList_plain rfl (fun K hK => ?_); go_simp; refine hK _ _ ?_; clear hK K)
  refine wpList_make_own _ rfl (.const (.int .i64 0)) (.tmp 6) 32 rfl w.heap.size 41 i0 _ 32 Tryd.underlying32 hi hz0 hz1 .i64 .i64 (n : Int) n rfl rfl rfl (by rw [hz2]; omega) (by unfold maxLen; omega) (Nat.le_refl _) ?_
  intro W1 hown hgr
  have hb1 : Below w.heap.size w W1 := ⟨hgr.os, hgr.tape, hgr.output, hgr.size, fun k hk => hgr.block k hk (by simp)⟩
  have hlt : w.heap.size < W1.heap.size := (own_blk hown w.heap.size rfl).2.elim fun cur h => (Array.getElem?_eq_some_iff.1 h).1
  obtain ⟨W2, hW2⟩ : ∃ W2, W1.alloc (.cells #[.slice (some ⟨w.heap.size, 0, none⟩) 0 n] 32) = W2 := ⟨_, rfl⟩
  have hb2 : Below W1.heap.size W1 W2 := by rw [← hW2]; exact new12 _ _
  have hX2 : Boxed W2 W1.heap.size 32 (.slice (some ⟨w.heap.size, 0, none⟩) 0 n) := by rw [← hW2]; exact Boxed.new _ _ _
  have hs2 : W2.heap.size = W1.heap.size + 1 := by rw [← hW2, World.size_alloc]
  obtain ⟨W3, hW3⟩ : ∃ W3, W2.alloc (.cells #[.slice o n c] 22) = W3 := ⟨_, rfl⟩
  have hb3 : Below W2.heap.size W2 W3 := by rw [← hW3]; exact new12 _ _
  have hX3 : Boxed W3 W2.heap.size 22 (.slice o n c) := by rw [← hW3]; exact Boxed.new _ _ _
  obtain ⟨b, hbb⟩ : ∃ b, W1.heap.size = b := ⟨_, rfl⟩
  have hB3 := Kit.step (Kit.step hb1 hb2) hb3
  have HI0 : Hid (LvI (bs.map Da.lf) (.slice o n c) b w 0 (.slice (some ⟨w.heap.size, 0, none⟩) 0 n) W3) := Lib.hid ⟨own_later12 (own_later12 hown hb2) hb3, by rw [← hbb]; exact boxed_later hX2 hb3, Nat.zero_le _, by simp [Value.ownBlock]; omega, by rw [← hbb, ← hs2]; exact hX3, by simp [Value.ownBlock]; omega, by rw [← hbb]; exact Nat.le_of_lt hlt, hB3⟩
  have HX3 := Lib.hid hX3
  have HB3 := Lib.hid hB3
  have hszw := hB3.size
  have HSZW := Lib.hid hszw
  rw [hs2, hbb] at HX3
  rw [hbb] at hs2
  have MK := Lib.hid (mdigests_any o n c W2)
  rw [hW3, hs2] at MK
  have HW2 := Lib.hid hW2
  have HBB := Lib.hid hbb
  have DG := Lib.hid (digests_gives bs o c (b + 1) HLL.out)
  have hb0 : 0 < W3.heap.size := by have := hX3.lt; omega
  clear hown hgr hb1 hlt hb2 hX2 hs2 hb3 hX3 hB3 hW2 hW3 hbb hszw
  (refine wpList_plain rfl (fun K hK => ?_); go_simp; refine hK _ _ ?_; clear hK K)
  (refine wpList_plain rfl (fun K hK => ?_); go_simp; refine hK _ _ ?_; clear hK K)
  rw [HBB.out]
  go_wp2_with (first | rw [HW2.out] | fail)
  refine MK.out.mono ?_
  rintro e w3 ⟨rfl, rfl⟩
  rename World => W3
  clear MK
  go_wp2_with fail
  refine Rf.range_toldA (α := List UInt8) (σ := Nat) rfl (enters_of Tryd.func64 (by kernel_rfl) rfl) (fun x => #[.agg (bytesV x).toArray]) (fun _ => rfl)
    (fun s X => ∃ v, LvI (bs.map Da.lf) (.slice o n c) b w s v X)
    (fun c X => False)
    (fun s x s' X => s' = s + 1 ∧ s < n ∧ x = bi (bs.map Da.lf) s)
    0 (fun s => s = n) ?hI ?hIx ?hV ?h0 ?hseq ?round ?done ?stop
  case hI => exact fun s X X' ⟨v, h⟩ k => ⟨v, h.nc k HSZW.out⟩
  case hIx => exact fun c X X' h k => h
  case hV => exact fun s x s' X X' h k => h
  case h0 => exact ⟨_, HI0.out⟩
  case hseq =>
    intro l B Bx X hnc hi2 hB hk ht
    refine (DG.out l (fun s X => ∃ v, LvI (bs.map Da.lf) (.slice o n c) b w s v X) B Bx X ?_ ?_ hk ?_ hi2 hB).mono ?_
    · exact fun i X ⟨v, h⟩ => ⟨by rw [HN.out]; exact h.xb, HR.out.later h.below, HV.out.later h.below⟩
    · exact fun i X X' ⟨v, h⟩ hb => ⟨v, h.later hb⟩
    · intro i X h hB hlt
      rw [List.length_map, HN.out] at hlt
      exact (ht i (bi (bs.map Da.lf) i) (i + 1) X h hB ⟨rfl, hlt, rfl⟩).mono fun e X' h => h.imp (fun h => ⟨h.1, h.2.1, h.2.2⟩) id
    · rintro e X' ⟨hv, (⟨h, hB⟩ | hx)⟩
      · exact ⟨hv, .inl ⟨_, by rw [List.length_map, HN.out], h, hB⟩⟩
      · exact ⟨hv, .inr hx⟩
  case round =>
    rintro l s x s' X Z' To ⟨v, hI⟩ ⟨rfl, hlt, rfl⟩ hsz HN' HR' HE'
    have hsl : s < (bs.map Da.lf).length := by rw [List.length_map, HN.out]; exact hlt
    have hel := (Da.all32.lf bs).at_ hsl
    obtain ⟨e, he⟩ : ∃ e, bi (bs.map Da.lf) s = e := ⟨_, rfl⟩
    have HEQ := Lib.hid he
    rw [he] at hel
    rw [he]
    obtain ⟨E, hE⟩ : ∃ E, (bytesV e).toArray = E := ⟨_, rfl⟩
    have hEs : E.size = 32 := by rw [← hE]; simp [hel]
    have HES : Hid ((Tryd.prog.info? 41).map (·.size) = some E.size) := Lib.hid (by rw [dg_info, hEs])
    have HEO : Hid (E.all (·.oneCell') = true) := Lib.hid (by rw [← hE]; exact all_oneCell_toArray (bytesV_one _))
    have HEZ : Hid (Z.size = E.size) := Lib.hid (by rw [HZ.out, hEs])
    have HE := Lib.hid hE
    have HSZ := Lib.hid hsz
    have HII := Lib.hid hI
    have HEL := Lib.hid hel
    have HESZ := Lib.hid hEs
    have HSL := Lib.hid hsl
    rw [hE]
    clear hel he hE hsz hI hEs hsl
    gi_upto_region 3 with fail
    refine Rf.plain_round (by kernel_rfl) (by rintro ⟨a, w, h⟩; exact h) ?_
    (refine wpList_plain rfl (fun K hK => ?_); go_simp; refine hK _ _ ?_; clear hK K)
    refine wpList_store_row rfl 41 (.tmp 4) (.tmp 10) rfl Z'.heap.size E rfl rfl 41 Z (World.alloc_heap_new Z' _) HES.out HEZ.out HEO.out ?_
    refine wpList_nil ?_
    refine ⟨(new12 _ _).trans (below_row (Nat.le_refl _)), fun Y hY hnew hsy => ?_⟩
    rw [HSZ.out]
    obtain ⟨p, hp⟩ : ∃ p, X.heap.size = p := ⟨_, rfl⟩
    have HY4 : Hid (Y.heap[p]? = some (.cells E 41 (0, 0))) := Lib.hid (by
      rw [← hp, hnew _ (Nat.le_refl _), ← HSZ.out]
      exact setRow_heap _ _ _ _ _ _ (World.alloc_heap_new Z' _))
    have hJ := HII.out.later hY
    have hbs := dg_slice_run (tS := 32) Tryd.underlying32 dgI_code E HESZ.out Y
    have hba := new12 Y (.cells E 41)
    have hrow : (Y.alloc (.cells E 41)).rangeAt Y.heap.size 0 (bytesV e) := by rw [← HE.out]; exact (Arr.made Y 41 (bytesV e)).rng
    obtain ⟨g2, cap2, Y2, hrun, hown2, hgr2, hat⟩ := dg_append_run (tS := 32) Tryd.underlying32 dgI_code 32 _ w.heap.size v s _ (own_later12 hJ.own hba) Y.heap.size e HEL.out hrow (by omega) (Nat.le_trans hJ.below.size hba.size)
    have hpu := hJ.push HSL.out hba (by rw [HEQ.out]; exact hown2) hgr2 hat
    obtain ⟨hbx, hLv, hKO⟩ := hpu
    have hc3 := hJ.box.cell
    have hc3' := hbx.cell
    have hf3' := hbx.frozen
    have HRUN := Lib.hid hrun
    have HBS := Lib.hid hbs
    have HFI : Hid (KeepsOthers X (Y2.setCell ⟨b, 0, none⟩ (.slice (some ⟨g2, 0, none⟩) (s + 1) cap2)) ∧ ∃ v, LvI (bs.map Da.lf) (.slice o n c) b w (s + 1) v (Y2.setCell ⟨b, 0, none⟩ (.slice (some ⟨g2, 0, none⟩) (s + 1) cap2))) := Lib.hid ⟨(keeps_below hY).trans hKO, _, hLv⟩
    rw [hp]
    clear hY hnew hsy hJ hbs hba hrow hrun hown2 hgr2 hat hbx hLv hKO hp
    gi_upto_region 4 with fail
    refine Rf.plain_round (by kernel_rfl) (by rintro ⟨a, w, h⟩; exact h) ?_
    (refine wpList_plain rfl (fun K hK => ?_); go_simp; refine hK _ _ ?_; clear hK K)
    refine wpList_load_row rfl 41 (.tmp 4) rfl p rfl 41 E (0, 0) _ HY4.out dg_under rfl HES.out ?_
    refine wpList_plain rfl (fun K hK => oper_slice 32 1 _ rfl #[(0, .agg E)] (by first | rfl | simp [Act.eval, Act.put]) _ _ HBS.out (hK _ _ ?_))
    clear hK K
    refine wpList_plain rfl (fun K hK => oper_append (.tmp 11) (.tmp 13) 32 rfl _ _ rfl rfl _ _ HRUN.out (hK _ _ ?_))
    clear hK K
    (refine wpList_plain rfl (fun K hK => ?_); go_simp; refine hK _ _ ?_; clear hK K)
    refine wpList_nil ?_
    exact HN'.out _ _ HFI.out.1 HFI.out.2
  case done =>
    rintro D' s X hD' hs ⟨v, hI⟩ hK'
    have hc3 := hI.box.cell
    have hown := hI.own
    rw [List.take_of_length_le (by rw [hs, List.length_map, HN.out]; exact Nat.le_refl _), hs] at hown
    have hk : Below w.heap.size X (X.putObj D' (.deferred none)) := belowK_b (w := w) (Nat.le_refl _) X D' _ _ (by have := HSZW.out; omega) hK' rfl rfl
    have hown2 : (X.putObj D' (.deferred none)).ownsRow w.heap.size 41 32 v n (bytesV (bs.map Da.lf).flatten) := (Rf.NC.put (B := 0) (.deferred none) (Nat.zero_le _) hK' rfl).owns hown
    obtain ⟨hnn, o', c', rfl, hdg⟩ := own_dg hown2 (Da.all32.lf bs)
    clear hnn
    have HDG := Lib.hid hdg
    have HBW := Lib.hid (hI.below.trans hk)
    clear hown hk hown2 hdg hI
    go_wp2_with fail
    refine Rf.leaves hK' (results_tmp rfl _ _ _) ?_
    exact ⟨o', c', rfl, HDG.out, HBW.out⟩
  case stop => exact fun D c X hD h => h.elim
theorem tleaves_any (bs : List (List UInt8)) (o : Option Addr) (n c : Nat) (hn : bs.length = n) (w : World) (hR : RbIs w o bs c) (hV : Cds w) (hl : n ≤ 100000) (hll : ∀ i, i < bs.length → (bi bs i).length ≤ 800000) :
    Calls Tryd.prog 30 #[.slice o n c] w fun e w' => ∃ o' c', e = .returned (.slice o' n c') ∧ DgIs w' o' (bs.map Da.lf) c' ∧ Below w.heap.size w w' := tleaves_of _ (by simp) dg_zero bs o n c hn w hR hV hl hll
def RlI (bs : List (List UInt8)) (w : World) (v i : Value) (wr : World) : Prop :=
  ∃ (k : Nat) (o : Option Addr) (c : Nat), k ≤ bs.length ∧ i = .int .i64 (k : Int) ∧ v = .slice o k c ∧ wr.ownsRow w.heap.size 40 32 v k (bytesV ((bs.map Da.lf).take k).flatten) ∧ Below w.heap.size w wr
set_option maxRecDepth 100000 in
set_option maxHeartbeats 1000000 in
theorem rleaves_any (bs : List (List UInt8)) (o : Option Addr) (n c : Nat) (hn : bs.length = n) (w : World) (hR : RbIs w o bs c) (hV : Rds w) (hl : n ≤ 100000) (hll : ∀ i, i < bs.length → (bi bs i).length ≤ 90000) :
    Calls Tryd.prog 15 #[.slice o n c] w fun e w' => ∃ o' c', e = .returned (.slice o' n c') ∧ DgIs w' o' (bs.map Da.lf) c' ∧ Below w.heap.size w w' := by
  have HR := Lib.hid hR
  have HV := Lib.hid hV
  have HN := Lib.hid hn
  have HLL := Lib.hid hll
  have hcl := hR.le.1
  have hca := hR.le.2
  rw [hn] at hcl
  unfold maxLen at hca
  obtain ⟨W1, hW1⟩ : ∃ W1, w.alloc (.cells #[] 40) = W1 := ⟨_, rfl⟩
  have hb1 : Below w.heap.size w W1 := by rw [← hW1]; exact new12 _ _
  have HO1 : Hid (W1.ownsRow w.heap.size 40 32 (.slice (some ⟨w.heap.size, 0, none⟩) 0 0) 0 (bytesV ((bs.map Da.lf).take 0).flatten)) := Lib.hid (by rw [← hW1]; exact World.ownsRow_lit w #[] 0 (Nat.le_refl _) (Nat.zero_le _) rfl)
  have HB1 := Lib.hid hb1
  have HW1 := Lib.hid hW1
  clear hR hV hn hll hb1 hW1
  go_enter Tryd.func15, Tryd.ntmps15
  go_wp2_with (first | rw [HW1.out] | fail)
  go_loopw [3, 5, 9] (fun v _ i wr => RlI bs w v i wr) (fun _ _ i _ => n - (intOf i).toNat)
  case atStart => exact ⟨0, _, _, Nat.zero_le _, rfl, rfl, HO1.out, HB1.out⟩
  case round =>
    rename World => X
    obtain ⟨k, o5, c5, hk, rfl, rfl, hv, hb⟩ := hrel
    rw [HN.out] at hk
    by_cases hlt : k < n
    · have hkb : k < bs.length := by rw [HN.out]; exact hlt
      obtain ⟨b, off, p, q, rfl, _, hc, hr⟩ := (HR.out.later hb).cell k hkb
      have LE := rleaf_any (bi bs k) p q X hr (HV.out.later hb) (HLL.out k hkb)
      have hel := Da.lf_length (bi bs k)
      have hfs := flat_step (bs.map Da.lf) k (by rw [List.length_map]; exact hkb)
      rw [bi_lf bs k hkb] at hfs
      obtain ⟨e, he⟩ : ∃ e, Da.lf (bi bs k) = e := ⟨_, rfl⟩
      rw [he] at LE hel hfs
      obtain ⟨E, hE⟩ : ∃ E, (bytesV e).toArray = E := ⟨_, rfl⟩
      rw [hE] at LE
      have hEs : E.size = 32 := by rw [← hE]; simp [hel]
      have HLE := Lib.hid LE
      have HV2 := Lib.hid hv
      have HB2 := Lib.hid hb
      have HEL := Lib.hid hel
      have HE := Lib.hid hE
      have HES := Lib.hid hEs
      have HFS := Lib.hid hfs
      obtain ⟨L, hL⟩ : ∃ L, (bi bs k).length = L := ⟨_, rfl⟩
      rw [hL] at hc HLE
      have hk0 : (0 : Int) ≤ (k : Int) := by omega
      have hk1 : (k : Int) < (n : Int) := by omega
      clear LE hel hfs he hE hEs hv hb hr hL hkb
      go_upto_region 5 with fail
      apply wp_region_lit
      (refine wpList_plain rfl (fun K hK => ?_); go_simp; refine hK _ _ ?_; clear hK K)
      (refine wpList_plain rfl (fun K hK => ?_); go_simp; refine hK _ _ ?_; clear hK K)
      (refine wpList_plain rfl (fun K hK => ?_); go_simp)
      refine HLE.out.mono ?_
      rintro e' X2 ⟨rfl, hb2⟩
      refine hK _ _ ?_
      clear hK K HLE
      have hbs := dg_slice_run (tS := 35) Tryd.underlying35 dgI_doc E HES.out X2
      have hba := new12 X2 (.cells E 40)
      have hrow : (X2.alloc (.cells E 40)).rangeAt X2.heap.size 0 (bytesV e) := by rw [← HE.out]; exact (Arr.made X2 40 (bytesV e)).rng
      have hb3 := Kit.step HB2.out hb2
      obtain ⟨g2, cap2, Y2, hrun, hown2, hgr2, _⟩ := dg_append_run (tS := 35) Tryd.underlying35 dgI_doc 35 _ w.heap.size _ k _ (own_later12 (own_later12 HV2.out hb2) hba) X2.heap.size e HEL.out hrow (by omega) (Nat.le_trans hb3.size hba.size)
      have hb4 : Below w.heap.size w Y2 := Below.grown (Kit.step hb3 hba) hgr2 (Kit.step hb3 hba).size (fun k e => (own_blk HV2.out k e).1)
      rw [← bytesV_app, ← HFS.out] at hown2
      have HBS := Lib.hid hbs
      have HRUN := Lib.hid hrun
      have HO2 := Lib.hid hown2
      have HB4 := Lib.hid hb4
      clear hbs hba hrow hb3 hrun hown2 hgr2 hb4 hb2
      refine wpList_plain rfl (fun K hK => oper_slice 35 1 _ rfl #[(0, .agg E)] (by first | rfl | simp [Act.eval, Act.put]) _ _ HBS.out (hK _ _ ?_))
      clear hK K
      refine wpList_plain rfl (fun K hK => oper_append (.tmp 13) (.tmp 16) 35 rfl _ _ rfl rfl _ _ HRUN.out (hK _ _ ?_))
      clear hK K HBS HRUN
      go_wp2_with fail
      go_roundw
      case rel => exact ⟨k + 1, _, _, by have := HN.out; omega, by go_num, rfl, HO2.out, HB4.out⟩
      case measure => simp [intOf]; omega
    · obtain rfl : k = n := by omega
      rw [List.take_of_length_le (by rw [List.length_map, HN.out]; exact Nat.le_refl _)] at hv
      obtain ⟨hnn, o', c', e2, hdg⟩ := own_dg hv (Da.all32.lf bs)
      clear hnn
      have HDG := Lib.hid hdg
      have HB2 := Lib.hid hb
      cases e2
      clear hv hb hdg
      go_wp2_with fail
      go_ret
      exact ⟨_, _, rfl, HDG.out, HB2.out⟩
set_option maxRecDepth 100000 in
set_option maxHeartbeats 2000000 in
theorem rover_of (Z : Array Value) (hZ : Z = (bytesV (List.replicate 32 0)).toArray) (hzs : ∀ w, Sem.run Tryd.prog (zeroValue 40) w = .ok (.agg Z) w) :
    ∀ (n : Nat) (ds : List (List UInt8)) (o : Option Addr) (c : Nat) (w : World), ds.length = n → DgIs w o ds c → Rds w → n ≤ 100000 →
    Calls Tryd.prog 20 #[.slice o n c] w fun e w' => e = .returned (.agg (bytesV (Da.ov ds)).toArray) ∧ Below w.heap.size w w' := by
  intro n
  induction n using Nat.strongRecOn with
  | ind n ih =>
  intro ds o c w hn hR hV hl
  obtain ⟨g, hg⟩ : ∃ g, w.heap.size = g := ⟨_, rfl⟩
  obtain ⟨W1, hW1⟩ : ∃ W1, w.alloc (Obj.cells Z 40) = W1 := ⟨_, rfl⟩
  have hb1 : Below w.heap.size w W1 := by rw [← hW1]; exact new12 _ _
  have hA1 : Arr W1 g 40 Z.toList := by rw [← hW1, ← hg]; exact Arr.made _ _ _
  have hcl := hR.le
  have hca := hR.cap
  rw [hn] at hcl
  unfold maxLen at hca
  have hol := Da.ov_length (l := ds) hR.all
  obtain ⟨F, hF⟩ : ∃ F, (bytesV (Da.ov ds)).toArray = F := ⟨_, rfl⟩
  have HFS : Hid ((Tryd.prog.info? 40).map (·.size) = some F.size) := Lib.hid (by rw [d32_info, ← hF]; simp [hol])
  have HFO : Hid (F.all (·.oneCell') = true) := Lib.hid (by rw [← hF]; exact all_oneCell_toArray (bytesV_one _))
  have HFZ : Hid (Z.size = F.size) := Lib.hid (by rw [hZ, ← hF]; simp [hol])
  have HIH := Lib.hid ih
  have HR1 := Lib.hid (hR.later hb1)
  have HV1 := Lib.hid (hV.later hb1)
  have HA1 := Lib.hid hA1
  have HB1 := Lib.hid hb1
  have HW1 := Lib.hid hW1
  have HF := Lib.hid hF
  have HN := Lib.hid hn
  have HG := Lib.hid hg
  rw [HF.out]
  clear ih hR hV hb1 hA1 hW1 hF hol hZ hn hg
  go_enter Tryd.func20, Tryd.ntmps20
  go_upto_region 1 with fail
  rw [HW1.out, HG.out]
  by_cases h0 : n = 0
  · subst h0
    obtain rfl : ds = [] := List.eq_nil_of_length_eq_zero HN.out
    have RO := rof_any [] none 0 W1 (RowIs.empty none 0 (Nat.zero_le _) (fun _ => rfl)) HV1.out (by simp)
    rw [← Da.ov_nil, HF.out, List.length_nil] at RO
    have HRO := Lib.hid RO
    clear RO
    go_upto_region 2 with fail
    apply wp_region_lit
    (refine wpList_plain rfl (fun K hK => ?_); go_simp)
    refine HRO.out.mono ?_
    rintro e W2 ⟨rfl, hb2⟩
    refine hK _ _ ?_
    clear hK K HRO
    have hA2 := HA1.out.later hb2 HA1.out.lt
    have HA2 : Hid (W2.heap[g]? = some (.cells Z 40 (0, 0))) := Lib.hid hA2
    have HGW : Hid ((W2.setRow g F).heap[g]? = some (.cells F 40 (0, 0))) := Lib.hid (setRow_heap _ _ _ _ _ _ hA2)
    have HBW : Hid (Below w.heap.size w (W2.setRow g F)) := Lib.hid ((Kit.step HB1.out hb2).trans (below_row (Nat.le_of_eq HG.out)))
    clear hA2 hb2
    refine wpList_store_row rfl 40 (.tmp 2) (.tmp 7) rfl g F rfl rfl 40 Z HA2.out HFS.out HFZ.out HFO.out ?_
    go_wp2_with fail
    refine bodyPost_ret (results_cell_row rfl _ _ g 40 F (0, 0) _ rfl HGW.out d32_under rfl HFS.out) rfl ?_
    exact ⟨rfl, HBW.out⟩
  have hd0 : decide ((n : Int) = 0) = false := by simp; omega
  by_cases h1 : n = 1
  · subst h1
    obtain ⟨b1, off1, rfl, hlt1, hrng⟩ := HR1.out.at_ 0 (by rw [HN.out]; omega)
    have hel := HR1.out.all.at_ (i := 0) (by rw [HN.out]; omega)
    obtain ⟨d, rfl⟩ := List.length_eq_one_iff.1 HN.out
    have eb : bi [d] 0 = d := rfl
    rw [eb, Nat.zero_mul, Nat.add_zero] at hrng
    rw [eb] at hel
    have hF := HF.out
    rw [Da.ov_one] at hF
    have HRNG := Lib.hid hrng
    have HF2 := Lib.hid hF
    have HRS : Hid ((Tryd.prog.info? 40).map (·.size) = some (bytesV d).length) := Lib.hid (by rw [d32_info]; simp [hel])
    have HA2 : Hid (W1.heap[g]? = some (.cells Z 40 (0, 0))) := Lib.hid HA1.out
    have HGW : Hid ((W1.setRow g F).heap[g]? = some (.cells F 40 (0, 0))) := Lib.hid (setRow_heap _ _ _ _ _ _ HA1.out)
    have HBW : Hid (Below w.heap.size w (W1.setRow g F)) := Lib.hid (HB1.out.trans (below_row (Nat.le_of_eq HG.out)))
    clear hrng hel hF eb
    go_upto_region 4 with fail
    apply wp_region_lit
    (refine wpList_plain rfl (fun K hK => ?_); go_simp; refine hK _ _ ?_; clear hK K)
    (refine wpList_plain rfl (fun K hK => ?_); go_simp; refine hK _ _ ?_; clear hK K)
    refine wpList_load_mid rfl 40 (.tmp 12) rfl b1 off1 rfl (bytesV d) _ HRNG.out d32_under rfl HRS.out ?_
    rw [HF2.out]
    refine wpList_store_row rfl 40 (.tmp 2) (.tmp 13) rfl g F rfl rfl 40 Z HA2.out HFS.out HFZ.out HFO.out ?_
    go_wp2_with fail
    refine bodyPost_ret (results_cell_row rfl _ _ g 40 F (0, 0) _ rfl HGW.out d32_under rfl HFS.out) rfl ?_
    exact ⟨rfl, HBW.out⟩
  have hd1 : decide ((n : Int) = 1) = false := by simp; omega
  have RS := rsplit_any n (by omega) (by omega) W1
  obtain ⟨s1, s2, s3⟩ := Da.spl_lt (n := n) (by omega)
  have hov := Da.ov_two (l := ds) (by rw [HN.out]; omega)
  rw [HN.out] at hov
  obtain ⟨k, hk⟩ : ∃ k, Da.spl n = k := ⟨_, rfl⟩
  rw [hk] at RS s1 s2 s3 hov
  have HRS := Lib.hid RS
  obtain ⟨b1, off1, rfl, hlt1, _⟩ := HR1.out.at_ 0 (by rw [HN.out]; omega)
  have hck : ¬ c = k := by omega
  have hkc : k ≤ c := by omega
  have hkn : k ≤ n := by omega
  have HOV := Lib.hid hov
  clear RS hk hov
  go_wp2_with fail
  refine HRS.out.mono ?_
  rintro e w1 ⟨rfl, rfl⟩
  rename World => W1
  clear HRS
  go_upto_region 6 with fail
  refine wp_region_any (by kernel_rfl) ?_
  change wpAny _ _ _ _ _ _ _ (World.drew _)
  refine wpAny_take (i := 0) (v := ?va1) rfl (by kernel_rfl) (by kernel_rfl) (by kernel_rfl) (fun _ _ _ h => h) (Or.inl ⟨by rfl, ?ha1⟩) ?ra1
  case ha1 => (intro w; (go_simp <;> with_reducible rfl))
  refine wpAny_take (i := 1) (v := ?va2) rfl (by kernel_rfl) (by kernel_rfl) (by kernel_rfl) (fun _ _ _ h => h) (Or.inl ⟨by rfl, ?ha2⟩) ?ra2
  case ha2 => (intro w; (go_simp <;> with_reducible rfl))
  refine wpAny_take (i := 2) (v := ?va3) rfl (by kernel_rfl) (by kernel_rfl) (by kernel_rfl) (fun _ _ _ h => h) (Or.inl ⟨by rfl, ?ha3⟩) ?ra3
  case ha3 => (intro w; (go_simp <;> with_reducible rfl))
  refine wpAny_take (i := 4) (v := ?va4) rfl (by kernel_rfl) (by kernel_rfl) (by kernel_rfl) (fun _ _ _ h => h) (Or.inl ⟨by rfl, ?ha4⟩) ?ra4
  case ha4 => (intro w; (go_simp <;> with_reducible rfl))
  refine wpAny_take (i := 5) (v := ?va5) rfl (by kernel_rfl) (by kernel_rfl) (by kernel_rfl) (fun _ _ _ h => h) (Or.inl ⟨by rfl, ?ha5⟩) ?ra5
  case ha5 => (intro w; (go_simp <;> with_reducible rfl))
  refine wpAny_take (i := 6) (v := ?va6) rfl (by kernel_rfl) (by kernel_rfl) (by kernel_rfl) (fun _ _ _ h => h) (Or.inl ⟨by rfl, ?ha6⟩) ?ra6
  case ha6 => (intro w; (go_simp <;> with_reducible rfl))
  have hal := HR1.out.all
  have hLk := HR1.out.part 0 k (by rw [HN.out]; omega) c (by omega) (by unfold maxLen; omega)
  rw [Nat.zero_mul, Nat.add_zero, List.drop_zero] at hLk
  have hRk := HR1.out.part k (n - k) (by rw [HN.out]; omega) (c - k) (by omega) (by unfold maxLen; omega)
  rw [List.take_of_length_le (by rw [List.length_drop, HN.out]; exact Nat.le_refl _)] at hRk
  have hdr := Kit.dn' W1 1
  have CL := HIH.out k s2 (ds.take k) _ c W1.drew (by rw [List.length_take, HN.out]; omega) (hLk.later hdr) (HV1.out.later hdr) (by omega)
  have CR := Lib.hid (fun (v : World) (hb : Below W1.drew.heap.size W1.drew v) => HIH.out (n - k) (by omega) (ds.drop k) _ (c - k) v (by rw [List.length_drop, HN.out]) ((hRk.later hdr).later hb) ((HV1.out.later hdr).later hb) (by omega))
  have hll := Da.ov_length (l := ds.take k) (hal.take k)
  have hrl := Da.ov_length (l := ds.drop k) (hal.drop k)
  have NO := Lib.hid (fun (v : World) (hb : Below W1.drew.heap.size W1.drew v) => rnode_any (Da.ov (ds.take k)) (Da.ov (ds.drop k)) hll hrl v ((HV1.out.later hdr).later hb))
  rw [← HOV.out] at NO
  rw [HF.out] at NO
  obtain ⟨LA, hLA⟩ : ∃ LA, (bytesV (Da.ov (ds.take k))).toArray = LA := ⟨_, rfl⟩
  obtain ⟨RA, hRA⟩ : ∃ RA, (bytesV (Da.ov (ds.drop k))).toArray = RA := ⟨_, rfl⟩
  rw [hLA] at CL NO
  rw [hRA] at CR NO
  have HCL := Lib.hid CL
  have HAD := Lib.hid (HA1.out.later hdr HA1.out.lt)
  have HBD := Lib.hid (Kit.step HB1.out hdr)
  clear hal hLk hRk hdr CL hll hrl hLA hRA HIH
  refine wpAny_ready (rs := [3]) (by kernel_rfl) (by simp) ?_
  refine AllReady.cons rfl (fun K hK => ?_) AllReady.nil
  go_simp
  refine HCL.out.mono ?_
  rintro e W2 ⟨rfl, hb2⟩
  refine hK _ _ ?_
  clear hK K HCL
  have HC2 := Lib.hid (CR.out W2 hb2)
  have HB2 := Lib.hid hb2
  clear hb2 CR
  refine wpAny_ready (rs := [7]) (by kernel_rfl) (by simp) ?_
  refine AllReady.cons rfl (fun K hK => ?_) AllReady.nil
  go_simp
  refine HC2.out.mono ?_
  rintro e W3 ⟨rfl, hb3⟩
  refine hK _ _ ?_
  clear hK K HC2
  have hb23 := Kit.step HB2.out hb3
  have HN3 := Lib.hid (NO.out W3 hb23)
  have HB3 := Lib.hid hb23
  clear hb3 hb23 NO
  refine wpAny_ready (rs := [8]) (by kernel_rfl) (by simp) ?_
  refine AllReady.cons rfl (fun K hK => ?_) AllReady.nil
  go_simp
  refine HN3.out.mono ?_
  rintro e W4 ⟨rfl, hb4⟩
  refine hK _ _ ?_
  clear hK K HN3
  have hb := Kit.step HB3.out hb4
  have hA4 := HAD.out.later hb HAD.out.lt
  have HA4 : Hid (W4.heap[g]? = some (.cells Z 40 (0, 0))) := Lib.hid hA4
  have HGW : Hid ((W4.setRow g F).heap[g]? = some (.cells F 40 (0, 0))) := Lib.hid (setRow_heap _ _ _ _ _ _ hA4)
  have HBW : Hid (Below w.heap.size w (W4.setRow g F)) := Lib.hid ((Kit.step HBD.out hb).trans (below_row (Nat.le_of_eq HG.out)))
  clear hA4 hb4 hb
  refine wpAny_ready (rs := [9]) (by kernel_rfl) (by simp) ?_
  refine AllReady.cons rfl (fun K hK => ?_) AllReady.nil
  rw [if_pos (by rfl)]
  refine wp_store_row 40 (.tmp 2) (.tmp 25) rfl g F rfl rfl 40 Z HA4.out HFS.out HFZ.out HFO.out (hK _ _ ?_)
  clear hK K
  refine wpAny_done (by kernel_rfl) ?_ _
  go_wp2_with fail
  refine bodyPost_ret (results_cell_row rfl _ _ g 40 F (0, 0) _ rfl HGW.out d32_under rfl HFS.out) rfl ?_
  exact ⟨rfl, HBW.out⟩
theorem rover_any (ds : List (List UInt8)) (o : Option Addr) (n c : Nat) (hn : ds.length = n) (w : World) (hR : DgIs w o ds c) (hV : Rds w) (hl : n ≤ 100000) :
    Calls Tryd.prog 20 #[.slice o n c] w fun e w' => e = .returned (.agg (bytesV (Da.ov ds)).toArray) ∧ Below w.heap.size w w' := rover_of _ rfl d32_zero n ds o c w hn hR hV hl
end Go.Proofs.YtfccpfmgkpcnoaaDoor
