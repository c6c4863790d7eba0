/- The code's rootOf: digests that come one by one, whole trees on a stack. -/
import Derived.Test.YtmfbdelhkdimaaaDoorTj
namespace Go.Proofs.YtmfbdelhkdimaaaDoor.Da
theorem all32.ovs {rs : List (List (List UInt8))} (h : all32 rs.reverse.flatten) : all32 (rs.reverse.map ov) := by
  intro d hd
  obtain ⟨s, hs, rfl⟩ := List.mem_map.1 hd
  exact ov_length fun e he => h e (List.mem_flatten.2 ⟨s, hs, he⟩)
theorem Wt.keep {j c : Nat} {r : List (List (List UInt8))} (h : Wt j c r) : r.length ≤ c := by
  induction h with
  | nil j => exact Nat.le_refl _
  | even h ih => omega
  | odd hs h ih => simp; omega
end Go.Proofs.YtmfbdelhkdimaaaDoor.Da
namespace Go.Proofs.YtmfbdelhkdimaaaDoor
open Go.RowKit
set_option linter.unusedVariables false
set_option linter.unusedSimpArgs false
attribute [local go_sem] Oper.semAt_some
/-- the trees' roots, as they lie on the stack -/
def stk (rs : List (List (List UInt8))) : List Value := bytesV (rs.reverse.map Da.ov).flatten
/-- what rootOf's variables hold: B: where its own rows begin; g: its result; g + 1: the stack; g + 2: how many have come -/
structure RtB (ds : List (List UInt8)) (g : Nat) (w : World) (s : Nat) (rs : List (List (List UInt8))) (v : Value) (X : World) : Prop where
  own : X.ownsRow (g + 3) 32 32 v rs.length (stk rs)
  box : Boxed X (g + 1) 27 v
  cnt : Boxed X (g + 2) 3 (.int .i64 (s : Int))
  res : Arr X g 32 (bytesV (List.replicate 32 0))
  below : Below w.heap.size w X
  wg : w.heap.size ≤ g
structure RtI (ds : List (List UInt8)) (g : Nat) (w : World) (s : Nat) (rs : List (List (List UInt8))) (v : Value) (X : World) : Prop where
  b : RtB ds g w s rs v X
  le : s ≤ ds.length
  wt : Da.Wt 0 s rs
  flat : rs.reverse.flatten = ds.take s
theorem own_later12 {X X' : World} {T : TypeId} {base n sz : Nat} {v : Value} {xs : List Value} (h : X.ownsRow base T sz v n xs) (hb : Below X.heap.size X X') : X'.ownsRow base T sz v n xs :=
  World.ownsRow.kept (row := none) h ⟨hb.os, hb.tape, hb.output, hb.size, fun i hi _ => hb.block i hi⟩ (by cases v.ownBlock <;> simp)
theorem RtB.nc {ds : List (List UInt8)} {g s B : Nat} {w X X' : World} {rs : List (List (List UInt8))} {v : Value} (h : RtB ds g w s rs v X) (k : Rf.NC B X X') (hB : w.heap.size ≤ B) : RtB ds g w s rs v X' :=
  ⟨k.owns h.own, boxed_nc12 h.box k, boxed_nc12 h.cnt k, h.res.nc k, h.below.trans (k.below hB h.below.size), h.wg⟩
theorem RtB.later {ds : List (List UInt8)} {g s : Nat} {w X X' : World} {rs : List (List (List UInt8))} {v : Value} (h : RtB ds g w s rs v X) (hb : Below X.heap.size X X') : RtB ds g w s rs v X' :=
  ⟨own_later12 h.own hb, boxed_later h.box hb, boxed_later h.cnt hb, h.res.later hb h.res.lt, Kit.step h.below hb, h.wg⟩
theorem RtB.size {ds : List (List UInt8)} {g s : Nat} {w X : World} {rs : List (List (List UInt8))} {v : Value} (h : RtB ds g w s rs v X) : g + 3 ≤ X.heap.size := by
  have := h.cnt.lt
  omega
/-- in the inner loop: the digest that came lies, with all that was joined to it, in block p -/
structure RtL (ds : List (List UInt8)) (g p : Nat) (w X : World) (s left : Nat) (rs : List (List (List UInt8))) (cur : List (List UInt8)) (v : Value) (Y : World) : Prop where
  b : RtB ds g w s rs v Y
  cell : Arr Y p 32 (bytesV (Da.ov cur))
  keep : KeepsOthers X Y
  apart : ∀ k, v.ownBlock = some k → k < p
  pg : g + 3 ≤ p
  flat : rs.reverse.flatten ++ cur = ds.take (s + 1)
  lv : ∃ j, cur.length = 2 ^ j ∧ Da.Wt j left rs ∧ ∀ r, Da.Wt j (left + 1) r → Da.Wt 0 (s + 1) r
theorem RtL.later {ds : List (List UInt8)} {g p s left : Nat} {w X Y Y' : World} {rs : List (List (List UInt8))} {cur : List (List UInt8)} {v : Value} (h : RtL ds g p w X s left rs cur v Y) (hb : Below Y.heap.size Y Y') : RtL ds g p w X s left rs cur v Y' :=
  ⟨h.b.later hb, h.cell.later hb h.cell.lt, h.keep.trans (keeps_below hb), h.apart, h.pg, h.flat, h.lv⟩
theorem stk_all {ds : List (List UInt8)} (ha : Da.all32 ds) {s : Nat} {rs : List (List (List UInt8))} {cur : List (List UInt8)} (h : rs.reverse.flatten ++ cur = ds.take (s + 1)) : Da.all32 (rs.reverse.map Da.ov) ∧ (Da.ov cur).length = 32 := by
  have h2 : Da.all32 (rs.reverse.flatten ++ cur) := by rw [h]; exact ha.take _
  exact ⟨Da.all32.ovs fun d hd => h2 d (List.mem_append_left _ hd), Da.ov_length fun d hd => h2 d (List.mem_append_right _ hd)⟩
/-- the last tree on the stack is as great as the one that came -/
theorem RtL.odd {ds : List (List UInt8)} {g p s left : Nat} {w X Y : World} {rs : List (List (List UInt8))} {cur : List (List UInt8)} {v : Value} (h : RtL ds g p w X s left rs cur v Y) (ha : Da.all32 ds) (ho : left % 2 = 1) :
    ∃ (s0 : List (List UInt8)) (r' : List (List (List UInt8))) (g' cap : Nat), rs = s0 :: r' ∧ v = .slice (some ⟨g', 0, none⟩) (r'.length + 1) cap ∧ r'.length + 1 ≤ cap ∧ cap ≤ maxLen ∧ Y.rangeAt g' (r'.length * 32) (bytesV (Da.ov s0)) ∧ (Da.ov s0).length = 32 ∧
      Da.nd (Da.ov s0) (Da.ov cur) = Da.ov (s0 ++ cur) ∧ (Da.ov (s0 ++ cur)).length = 32 ∧ r'.length < left ∧
      ∀ Y', Below Y.heap.size Y Y' → RtL ds g p w X s (left / 2) r' (s0 ++ cur) (.slice (some ⟨g', 0, none⟩) r'.length cap) ((Y'.setRow p (bytesV (Da.ov (s0 ++ cur))).toArray).setCell ⟨g + 1, 0, none⟩ (.slice (some ⟨g', 0, none⟩) r'.length cap)) := by
  obtain ⟨j, hc, hw, hr⟩ := h.lv
  obtain ⟨s0, r', rfl, hs0, hw'⟩ := hw.last ho
  obtain ⟨al, _⟩ := stk_all ha h.flat
  have hov := h.b.own
  have hown := own_dg (T := 32) h.b.own al
  have e1 : ((s0 :: r').reverse.map Da.ov) = r'.reverse.map Da.ov ++ [Da.ov s0] := by simp
  rcases hov.2 with ⟨_, h0⟩ | ⟨g', cap, cur', rfl, hg', hh, hle, hm, hs, ht⟩
  · simp at h0
  obtain ⟨_, o, c, e2, hd⟩ := hown
  cases e2
  have hat := hd.at_ r'.length (by rw [e1]; simp)
  obtain ⟨b1, off1, e3, hb1, hrng⟩ := hat
  cases e3
  have e4 : bi ((s0 :: r').reverse.map Da.ov) r'.length = Da.ov s0 := by rw [e1]; simp [bi]
  rw [e4, Nat.zero_add] at hrng
  have hl0 : (Da.ov s0).length = 32 := al _ (by rw [e1]; simp)
  have hj := Da.ov_join hs0 (a := cur) (by rw [hc]; exact Nat.two_pow_pos _) (by omega)
  have hfl : r'.reverse.flatten ++ (s0 ++ cur) = ds.take (s + 1) := by rw [← h.flat]; simp
  have hjl := (stk_all ha hfl).2
  have hkeep := hw'.keep
  have hlen : (s0 :: r').length = r'.length + 1 := rfl
  refine ⟨s0, r', g', cap, rfl, by rw [hlen], by rw [← hlen]; exact hle, hm, hrng, hl0, hj.symm, hjl, by omega, fun Y' hb => ?_⟩
  have h2 := h.later hb
  have hgp : g' < p := h.apart g' rfl
  have hcell := h2.cell
  have hr1 : (Y'.setRow p (bytesV (Da.ov (s0 ++ cur))).toArray).grownBy ((Y'.setRow p (bytesV (Da.ov (s0 ++ cur))).toArray).setCell ⟨g + 1, 0, none⟩ (.slice (some ⟨g', 0, none⟩) r'.length cap)) (some (g + 1)) := grownBy_setCell' _ _ _
  have hr0 : Y'.grownBy (Y'.setRow p (bytesV (Da.ov (s0 ++ cur))).toArray) (some p) := grown_row _
  have hpg := h.pg
  have own1 : Y'.ownsRow (g + 3) 32 32 (.slice (some ⟨g', 0, none⟩) r'.length cap) r'.length (stk r') := by
    have := own_pop h2.b.own
    unfold stk at this ⊢
    rw [e1, List.flatten_append] at this
    have hlen2 : (bytesV (r'.reverse.map Da.ov).flatten).length = r'.length * 32 := by
      rw [bytesV_length, Da.flat_len (fun d hd => al d (by rw [e1]; exact List.mem_append_left _ hd))]; simp
    rw [bytesV_app, ← hlen2, List.take_left] at this
    exact this
  have box1 : Boxed (Y'.setRow p (bytesV (Da.ov (s0 ++ cur))).toArray) (g + 1) 27 _ := boxed_row_ne h2.b.box (by omega)
  refine ⟨⟨?_, box1.set _, ?_, ?_, ?_, h.b.wg⟩, ?_, ?_, fun k e => ?_, hpg, hfl, j + 1, by rw [List.length_append, hs0, hc, Nat.pow_succ]; omega, hw', fun r hr' => ?_⟩
  · exact World.ownsRow.kept (World.ownsRow.kept own1 hr0 (.inr (by simp [Value.ownBlock]; omega))) hr1 (.inr (by simp [Value.ownBlock]; omega))
  · have := boxed_row_ne (F := (bytesV (Da.ov (s0 ++ cur))).toArray) h2.b.cnt (g := p) (by omega)
    unfold Boxed at this ⊢
    rw [hr1.block _ (Array.getElem?_eq_some_iff.1 this).1 (by simp)]
    exact this
  · have := h2.b.res.row_ne (F := (bytesV (Da.ov (s0 ++ cur))).toArray) (g := p) (by omega)
    unfold Arr at this ⊢
    rw [hr1.block _ (Array.getElem?_eq_some_iff.1 this).1 (by simp)]
    exact this
  · have hgw := h.b.wg
    exact (h2.b.below.trans (below_row (by omega))).setCell (p := ⟨g + 1, 0, none⟩) (by show w.heap.size ≤ g + 1; omega) _
  · have := (hcell.row_same (ys := bytesV (Da.ov (s0 ++ cur))))
    unfold Arr at this ⊢
    rw [hr1.block _ (Array.getElem?_eq_some_iff.1 this).1 (by simp; omega)]
    exact this
  · exact h2.keep.trans ((keeps_row hcell).trans (KeepsOthers.setCell _ _ _))
  · cases e
    exact hgp
  · refine hr r ?_
    have e5 : left = 2 * (left / 2) + 1 := by omega
    have := Da.Wt.even hr'
    rwa [show 2 * (left / 2 + 1) = left + 1 by omega] at this
/-- it stands on the stack, and one more has come -/
theorem RtL.push {ds : List (List UInt8)} {g p s left : Nat} {w X Y Y1 Y2 : World} {rs : List (List (List UInt8))} {cur : List (List UInt8)} {v : Value} (h : RtL ds g p w X s left rs cur v Y) (hls : s < ds.length) (ho : left % 2 = 0) (hb : Below Y.heap.size Y Y1)
    {g2 cap2 : Nat} (hown : Y2.ownsRow (g + 3) 32 32 (.slice (some ⟨g2, 0, none⟩) (rs.length + 1) cap2) (rs.length + 1) (stk rs ++ bytesV (Da.ov cur))) (hg : Y1.grownBy Y2 v.ownBlock) :
    Boxed Y2 (g + 1) 27 v ∧ Boxed (Y2.setCell ⟨g + 1, 0, none⟩ (.slice (some ⟨g2, 0, none⟩) (rs.length + 1) cap2)) (g + 2) 3 (.int .i64 (s : Int)) ∧
    RtI ds g w (s + 1) (cur :: rs) (.slice (some ⟨g2, 0, none⟩) (rs.length + 1) cap2) ((Y2.setCell ⟨g + 1, 0, none⟩ (.slice (some ⟨g2, 0, none⟩) (rs.length + 1) cap2)).setCell ⟨g + 2, 0, none⟩ (.int .i64 ((s : Int) + 1))) ∧
    KeepsOthers X ((Y2.setCell ⟨g + 1, 0, none⟩ (.slice (some ⟨g2, 0, none⟩) (rs.length + 1) cap2)).setCell ⟨g + 2, 0, none⟩ (.int .i64 ((s : Int) + 1))) := by
  have h1 := h.later hb
  obtain ⟨j, hc, hw, hr⟩ := h.lv
  have hne : ∀ k, k < g + 3 → some k ≠ v.ownBlock := fun k hk e => by
    have := (own_blk h1.b.own k e.symm).1
    omega
  have bx : ∀ k T u, k < g + 3 → Boxed Y1 k T u → Boxed Y2 k T u := fun k T u hk hx => by
    unfold Boxed at *
    rw [hg.block k (Array.getElem?_eq_some_iff.1 hx).1 (hne k hk)]
    exact hx
  have hbox := bx _ _ _ (by omega) h1.b.box
  have hcnt := bx _ _ _ (by omega) h1.b.cnt
  have hres : Arr Y2 g 32 (bytesV (List.replicate 32 0)) := by
    have hx := h1.b.res
    unfold Arr at *
    rw [hg.block g (Array.getElem?_eq_some_iff.1 hx).1 (hne g (by omega))]
    exact hx
  have k1 : Y2.grownBy (Y2.setCell ⟨g + 1, 0, none⟩ (.slice (some ⟨g2, 0, none⟩) (rs.length + 1) cap2)) (some (g + 1)) := grownBy_setCell' _ _ _
  have hcnt1 : Boxed (Y2.setCell ⟨g + 1, 0, none⟩ (.slice (some ⟨g2, 0, none⟩) (rs.length + 1) cap2)) (g + 2) 3 (.int .i64 (s : Int)) := by
    unfold Boxed at *
    rw [k1.block _ (Array.getElem?_eq_some_iff.1 hcnt).1 (by simp)]
    exact hcnt
  have k2 : (Y2.setCell ⟨g + 1, 0, none⟩ (.slice (some ⟨g2, 0, none⟩) (rs.length + 1) cap2)).grownBy ((Y2.setCell ⟨g + 1, 0, none⟩ (.slice (some ⟨g2, 0, none⟩) (rs.length + 1) cap2)).setCell ⟨g + 2, 0, none⟩ (.int .i64 ((s : Int) + 1))) (some (g + 2)) := grownBy_setCell' _ _ _
  have hg2 := (own_blk hown g2 rfl).1
  have hwg := h.b.wg
  refine ⟨hbox, hcnt1, ⟨⟨?_, ?_, by have := hcnt1.set (.int .i64 ((s : Int) + 1)); rwa [show ((s : Int) + 1) = ((s + 1 : Nat) : Int) by omega] at this ⊢, ?_, ?_, hwg⟩, hls, ?_, ?_⟩, ?_⟩
  · have e : stk (cur :: rs) = stk rs ++ bytesV (Da.ov cur) := by
      unfold stk
      simp [bytesV]
    rw [e]
    exact World.ownsRow.kept (World.ownsRow.kept hown k1 (.inr (by simp [Value.ownBlock]; omega))) k2 (.inr (by simp [Value.ownBlock]; omega))
  · have hb1 := hbox.set (.slice (some ⟨g2, 0, none⟩) (rs.length + 1) cap2)
    unfold Boxed at hb1 ⊢
    rw [k2.block _ (Array.getElem?_eq_some_iff.1 hb1).1 (by simp)]
    exact hb1
  · have hr1 : Arr (Y2.setCell ⟨g + 1, 0, none⟩ (.slice (some ⟨g2, 0, none⟩) (rs.length + 1) cap2)) g 32 (bytesV (List.replicate 32 0)) := by
      unfold Arr at hres ⊢
      rw [k1.block _ (Array.getElem?_eq_some_iff.1 hres).1 (by simp)]
      exact hres
    unfold Arr at hr1 ⊢
    rw [k2.block _ (Array.getElem?_eq_some_iff.1 hr1).1 (by simp)]
    exact hr1
  · have b2 : Below w.heap.size w Y2 := Below.grown h1.b.below hg (by have := h1.b.below.size; omega) (fun k e => by have := (own_blk h1.b.own k e).1; omega)
    exact (b2.setCell (p := ⟨g + 1, 0, none⟩) (by show w.heap.size ≤ g + 1; omega) _).setCell (p := ⟨g + 2, 0, none⟩) (by show w.heap.size ≤ g + 2; omega) _
  · exact hr _ (hw.push ho hc)
  · have := h.flat
    simpa using this
  · refine h1.keep.trans ((KeepsOthers.of_grownBy hg fun k o e ho => ?_).trans ((KeepsOthers.setCell _ _ _).trans (KeepsOthers.setCell _ _ _)))
    obtain ⟨_, cur', h2⟩ := own_blk h1.b.own k e
    rw [h2] at ho
    cases ho
    rfl
theorem oper_append {o : Oper} {a : Act} {w : World} {K : Act → World → Prop} {Q : Exit → Act → World → Prop} (s x : Operand) (t : TypeId) (ho : o.op = .call { callee := .builtin .append, args := #[s, x], argTypes := #[t, t] }) (v y : Value) (hs : a.eval s = v) (hx : a.eval x = y)
    (v' : Value) (w' : World) (hrun : (Builtin.append_ #[t, t] o.type #[v, y]).run Tryd.prog w = .ok v' w') (h : K (a.put o.dst v') w') : o.wp Tryd.prog a w K Q := by
  unfold Oper.wp execOp
  simp only [ho, resolve, invoke, builtin, Sem.run_bind, Sem.run_pure, Result.andThen_ok, List.map_toArray, List.map_cons, List.map_nil, hs, hx, hrun]
  exact h
theorem oper_slice {o : Oper} {a : Act} {w : World} {K : Act → World → Prop} {Q : Exit → Act → World → Prop} (t : TypeId) (len : Nat) (parts : Array (Nat × Operand)) (ho : o.op = .buildSlice t len parts) (ps : Array (Nat × Value)) (hp : (parts.map fun (i, x) => (i, a.eval x)) = ps)
    (v' : Value) (w' : World) (hrun : (Instr.buildSlice t len ps).run Tryd.prog w = .ok v' w') (h : K (a.put o.dst v') w') : o.wp Tryd.prog a w K Q := by
  subst hp
  unfold Oper.wp execOp
  simp only [ho, Sem.run_bind, hrun, Result.andThen_ok]
  exact h
set_option maxRecDepth 100000 in
set_option maxHeartbeats 4000000 in
theorem rootOf_of (Z : Array Value) (hZ : Z = (bytesV (List.replicate 32 0)).toArray) (hzs : ∀ w, Sem.run Tryd.prog (zeroValue 32) w = .ok (.agg Z) w)
    (kf : Nat) (lb : Array Value) (ds : List (List UInt8)) (Pre : World → Prop) (hG : Gives kf lb ds Pre) (ek : ∀ args w, (callFunc kf args).run Tryd.prog w = .ok (.enter kf args) w)
    (w : World) (hP : ∀ X, Below w.heap.size w X → Pre X) (hV : Cds w) (ha : Da.all32 ds) (hl : ds.length ≤ 100000) :
    Calls Tryd.prog 30 #[.func (.func kf) #[] lb] w fun e w' => e = .returned (.agg (bytesV (Da.ov ds)).toArray) ∧ Below w.heap.size w w' := by
  obtain ⟨g, hg⟩ : ∃ g, w.heap.size = g := ⟨_, rfl⟩
  obtain ⟨W1, hW1⟩ : ∃ W1, w.alloc (Obj.cells Z 32) = W1 := ⟨_, rfl⟩
  obtain ⟨W2, hW2⟩ : ∃ W2, W1.alloc (.cells #[.slice none 0 0] 27) = W2 := ⟨_, rfl⟩
  obtain ⟨W3, hW3⟩ : ∃ W3, W2.alloc (.cells #[.int .i64 0] 3) = W3 := ⟨_, rfl⟩
  have hb1 : Below w.heap.size w W1 := by rw [← hW1]; exact new12 _ _
  have hb2 : Below W1.heap.size W1 W2 := by rw [← hW2]; exact new12 _ _
  have hb3 : Below W2.heap.size W2 W3 := by rw [← hW3]; exact new12 _ _
  have hs1 : W1.heap.size = g + 1 := by rw [← hW1, World.size_alloc, hg]
  have hs2 : W2.heap.size = g + 2 := by rw [← hW2, World.size_alloc, hs1]
  have hs3 : W3.heap.size = g + 3 := by rw [← hW3, World.size_alloc, hs2]
  have hA1 : Arr W1 g 32 (bytesV (List.replicate 32 0)) := by rw [← hW1, hZ, ← hg]; exact Arr.made _ _ _
  have hX2 : Boxed W2 (g + 1) 27 (.slice none 0 0) := by rw [← hW2, ← hs1]; exact Boxed.new _ _ _
  have hX3 : Boxed W3 (g + 2) 3 (.int .i64 0) := by rw [← hW3, ← hs2]; exact Boxed.new _ _ _
  have hZs : Z.size = 32 := by rw [hZ]; simp
  have hol := Da.ov_length (l := ds) ha
  obtain ⟨F, hF⟩ : ∃ F, (bytesV (Da.ov ds)).toArray = F := ⟨_, rfl⟩
  have hFs : F.size = 32 := by rw [← hF]; simp [hol]
  have HFS : Hid ((Tryd.prog.info? 32).map (·.size) = some F.size) := Lib.hid (by rw [dg_info, hFs])
  have HFO : Hid (F.all (·.oneCell') = true) := Lib.hid (by rw [← hF]; exact all_oneCell_toArray (bytesV_one _))
  have HFZ : Hid ((bytesV (List.replicate 32 0)).toArray.size = F.size) := Lib.hid (by rw [hFs]; simp)
  have HI0 : Hid (RtI ds g w 0 [] (.slice none 0 0) W3) := Lib.hid ⟨⟨World.ownsRow_nil _ _ _ _, boxed_later hX2 hb3, hX3, (hA1.later hb2 hA1.lt).later hb3 (Nat.lt_of_lt_of_le hA1.lt hb2.size), Kit.step (Kit.step hb1 hb2) hb3, Nat.le_of_eq hg⟩, Nat.zero_le _, Da.Wt.nil 0, rfl⟩
  have HGG := Lib.hid hG
  have HEK := Lib.hid ek
  have HP := Lib.hid hP
  have HV := Lib.hid hV
  have HAL := Lib.hid ha
  have HZS := Lib.hid hZs
  have HF := Lib.hid hF
  have HW1 := Lib.hid hW1
  have HW2 := Lib.hid hW2
  have HW3 := Lib.hid hW3
  have HS1 := Lib.hid hs1
  have HS2 := Lib.hid hs2
  have HS3 := Lib.hid hs3
  have HG := Lib.hid hg
  refine Rf.calls_marks Tryd.func30 rfl ?_
  simp only [Tryd.ntmps30, List.size_toArray, List.length_cons, List.length_nil, Nat.reduceAdd, Nat.reduceSub, Array.replicate_succ, Array.replicate_zero, List.push_toArray, List.append_toArray, List.nil_append, List.cons_append]
  rw [HF.out]
  obtain ⟨N, hN⟩ : ∃ N, ds.length = N := ⟨_, rfl⟩
  have HN := Lib.hid hN
  rw [hN] at hl
  clear hG ek hP hV ha hZ hW1 hW2 hW3 hb1 hb2 hb3 hs1 hs2 hs3 hA1 hX2 hX3 hF hFs hg hol hZs hN
  go_upto_region 1 with fail
  rw [HW1.out, HG.out]
  go_upto_region 2 with fail
  rw [HW2.out, HS1.out]
  go_upto_region 3 with fail
  rw [HW3.out, HS2.out]
  go_wp2_with fail
  refine Rf.range_toldA (α := List UInt8) (σ := Nat) rfl HEK.out (fun x => #[.agg (bytesV x).toArray]) (fun _ => rfl)
    (fun s X => ∃ rs v, RtI ds g w s rs v X)
    (fun c X => False)
    (fun s x s' X => s' = s + 1 ∧ s < N ∧ x = bi ds s)
    0 (fun s => s = N) ?hI ?hIx ?hV ?h0 ?hseq ?round ?done ?stop
  case hI => exact fun s X X' ⟨rs, v, h⟩ k => ⟨rs, v, h.b.nc k (by have := HI0.out.b.below.size; exact this), h.le, h.wt, h.flat⟩
  case hIx => exact fun c X X' h k => h
  case hV => exact fun s x s' X X' h k => h
  case h0 => exact ⟨_, _, HI0.out⟩
  case hseq =>
    intro l B Bx X hnc hi hB hk ht
    refine (HGG.out l (fun s X => ∃ rs v, RtI ds g w s rs v X) B Bx X ?_ ?_ hk ?_ hi hB).mono ?_
    · exact fun i X ⟨rs, v, h⟩ => HP.out X h.b.below
    · exact fun i X X' ⟨rs, v, h⟩ hb => ⟨rs, v, h.b.later hb, h.le, h.wt, h.flat⟩
    · intro i X h hB hlt
      rw [HN.out] at hlt
      exact (ht i (bi ds i) (i + 1) X h hB ⟨rfl, hlt, rfl⟩).mono fun e X' h => h.imp (fun h => ⟨h.1, h.2.1, h.2.2⟩) id
    · rintro e X' ⟨hv, (⟨h, hB⟩ | hx)⟩
      · exact ⟨hv, .inl ⟨ds.length, HN.out, h, hB⟩⟩
      · exact ⟨hv, .inr hx⟩
  case round =>
    rintro l s x s' X Z' To ⟨rs0, v0, hI⟩ ⟨rfl, hlt, rfl⟩ hsz HN' HR' HE'
    have hel := HAL.out.at_ (i := s) (by rw [HN.out]; exact hlt)
    obtain ⟨e, he⟩ : ∃ e, bi ds s = e := ⟨_, rfl⟩
    have HEQ := Lib.hid he
    rw [he] at hel
    rw [he]
    obtain ⟨E, hE⟩ : ∃ E, (bytesV e).toArray = E := ⟨_, rfl⟩
    have HES : Hid ((Tryd.prog.info? 32).map (·.size) = some E.size) := Lib.hid (by rw [dg_info, ← hE]; simp [hel])
    have HEO : Hid (E.all (·.oneCell') = true) := Lib.hid (by rw [← hE]; exact all_oneCell_toArray (bytesV_one _))
    have HEZ : Hid (Z.size = E.size) := Lib.hid (by rw [HZS.out, ← hE]; simp [hel])
    have HE := Lib.hid hE
    have HSZ := Lib.hid hsz
    have HII := Lib.hid hI
    rw [hE]
    clear hel he hE hsz hI
    gi_upto_region 4 with fail
    refine Rf.plain_round (by kernel_rfl) (by rintro ⟨a, w, h⟩; exact h) ?_
    (refine wpList_plain rfl (fun K hK => ?_); go_simp; refine hK _ _ ?_; clear hK K)
    refine wpList_store_row rfl 32 (.tmp 5) (.tmp 9) rfl Z'.heap.size E rfl rfl 32 Z (World.alloc_heap_new Z' _) HES.out HEZ.out HEO.out ?_
    refine wpList_nil ?_
    refine ⟨(new12 _ _).trans (below_row (Nat.le_refl _)), fun Y hY hnew hsy => ?_⟩
    rw [HSZ.out]
    obtain ⟨p, hp⟩ : ∃ p, X.heap.size = p := ⟨_, rfl⟩
    have hL0 : RtL ds g p w X s s rs0 [e] v0 Y := by
      have hI := HII.out
      refine ⟨hI.b.later hY, ?_, keeps_below hY, fun k e2 => ?_, by rw [← hp]; exact hI.b.size, ?_, 0, rfl, hI.wt, fun r h => h⟩
      · rw [Da.ov_one]
        unfold Arr
        rw [← hp, hnew _ (Nat.le_refl _), ← HSZ.out, HE.out]
        exact setRow_heap _ _ _ _ _ _ (World.alloc_heap_new Z' _)
      · obtain ⟨_, cur, h2⟩ := own_blk hI.b.own k e2
        rw [← hp]
        exact (Array.getElem?_eq_some_iff.1 h2).1
      · rw [hI.flat, List.take_add_one]
        congr 1
        have : s < ds.length := by rw [HN.out]; exact hlt
        rw [← HEQ.out]
        simp [bi, this]
    have hc4 := hL0.b.cnt.cell
    rw [hp]
    have HL0 := Lib.hid hL0
    clear hY hnew hsy hL0 hp
    gi_upto_region 6 with fail
    gi_loopw [6, 7] (fun t6 _ wr => ∃ (left : Nat) (rs : List (List (List UInt8))) (cur : List (List UInt8)) (v : Value), t6 = .int .i64 (left : Int) ∧ left ≤ N ∧ RtL ds g p w X s left rs cur v wr) (fun t6 _ _ => (intOf t6).toNat)
    case atStart => exact ⟨s, rs0, [e], v0, rfl, by omega, HL0.out⟩
    case round =>
      rename World => Y1
      obtain ⟨left, rs, cur, v, rfl, hln, hL⟩ := hrel
      have hc3 := hL.b.box.cell
      have hLd := hL.later (Kit.dn' Y1 1)
      by_cases ho : left % 2 = 1
      · obtain ⟨s0, r', g', cap, rfl, rfl, hrc, hcm, hrng, hl0, hnd, hjl, hrl, hnx⟩ := hLd.odd HAL.out ho
        have hcl := (stk_all HAL.out hLd.flat).2
        have NO := tnode_any (Da.ov s0) (Da.ov cur) hl0 hcl Y1.drew (HV.out.later hLd.b.below)
        rw [hnd] at NO
        have HLD := Lib.hid hLd
        have hpg := hLd.pg
        obtain ⟨m, hm⟩ : ∃ m, r'.length = m := ⟨_, rfl⟩
        rw [hm] at hrc hrng hrl hnx hc3 HLD hLd
        obtain ⟨A, hA⟩ : ∃ A, (bytesV (Da.ov s0)).toArray = A := ⟨_, rfl⟩
        obtain ⟨C, hC⟩ : ∃ C, (bytesV (Da.ov cur)).toArray = C := ⟨_, rfl⟩
        obtain ⟨G, hG⟩ : ∃ G, (bytesV (Da.ov (s0 ++ cur))).toArray = G := ⟨_, rfl⟩
        rw [hA, hC, hG] at NO
        rw [hG] at hnx
        have HCC : Hid (Y1.drew.heap[p]? = some (.cells C 32 (0, 0))) := Lib.hid (by rw [← hC]; exact hLd.cell)
        have HRS : Hid ((Tryd.prog.info? 32).map (·.size) = some (bytesV (Da.ov s0)).length) := Lib.hid (by rw [dg_info]; simp [hl0])
        have HCS : Hid ((Tryd.prog.info? 32).map (·.size) = some C.size) := Lib.hid (by rw [dg_info, ← hC]; simp [hcl])
        have HGS : Hid ((Tryd.prog.info? 32).map (·.size) = some G.size) := Lib.hid (by rw [dg_info, ← hG]; simp [hjl])
        have HGO : Hid (G.all (·.oneCell') = true) := Lib.hid (by rw [← hG]; exact all_oneCell_toArray (bytesV_one _))
        have HGZ : Hid (C.size = G.size) := Lib.hid (by rw [← hC, ← hG]; simp [hcl, hjl])
        have HA := Lib.hid hA
        have HC := Lib.hid hC
        have HNO := Lib.hid NO
        have HRNG := Lib.hid hrng
        have HNX := Lib.hid hnx
        have hrem : Int.tmod (left : Int) 2 = 1 := by rw [Int.tmod_eq_emod_of_nonneg (by omega)]; omega
        have hquo : Int.tdiv (left : Int) 2 = ((left / 2 : Nat) : Int) := by rw [Int.tdiv_eq_ediv_of_nonneg (by omega)]; omega
        have hc3d : Y1.drew.cell? ⟨g + 1, 0, none⟩ = some (.slice (some ⟨g', 0, none⟩) (m + 1) cap) := hc3
        have hml : (m : Int) < (m : Int) + 1 := by omega
        have hw1 : IntKind.i64.wrap (((m + 1 : Nat) : Int) - 1) = (m : Int) := by
          unfold maxLen at hcm
          rw [IntKind.wrap_i64]; omega
        unfold maxLen at hcm
        clear hL hLd NO hl0 hcl hjl hnd hA hC hG hrng hnx hm
        gi_upto_region 9 with fail
        refine Rf.region_round (by kernel_rfl) (by kernel_rfl) ?_
        refine wpAnyIn_take (i := 1) (v := .int .i64 (m : Int)) rfl rfl (by kernel_rfl) (by kernel_rfl) (by kernel_rfl) (fun _ _ _ h => h) ⟨Or.inl ⟨by rfl, fun w => by go_simp⟩, fun _ => rfl⟩ ?_
        refine wpAnyIn_ready (rs := [0, 4]) (by kernel_rfl) (by simp) ?_
        refine AllReadyIn.cons rfl (fun K hK => ?_) (AllReadyIn.cons rfl (fun K hK => ?_) AllReadyIn.nil)
        · (go_simp; refine hK _ _ ?_; clear hK K)
          refine wpAnyIn_take (i := 2) (v := .pointer (some ⟨g', m * 32, none⟩)) rfl rfl (by kernel_rfl) (by kernel_rfl) (by kernel_rfl) (fun _ _ _ h => h) ⟨Or.inl ⟨by rfl, fun w => by go_simp⟩, fun _ => rfl⟩ ?_
          refine wpAnyIn_ready (rs := [3, 4]) (by kernel_rfl) (by simp) ?_
          refine AllReadyIn.cons rfl (fun K hK => ?_) (AllReadyIn.cons rfl (fun K hK => ?_) AllReadyIn.nil)
          · (rw [if_pos (by rfl)]; refine Rf.oper_wide (wp_load_mid 32 (.tmp 21) rfl g' (m * 32) rfl (bytesV (Da.ov s0)) _ HRNG.out dg_under rfl HRS.out (hK _ _ ?_)); clear hK K; rw [HA.out])
            refine wpAnyIn_ready (rs := [4]) (by kernel_rfl) (by simp) ?_
            refine AllReadyIn.cons rfl (fun K hK => ?_) AllReadyIn.nil
            (rw [if_pos (by rfl)]; refine Rf.oper_wide (wp_load_row 32 (.tmp 5) rfl p rfl 32 C (0, 0) _ HCC.out dg_under rfl HCS.out (hK _ _ ?_)); clear hK K)
            refine wpAnyIn_ready (rs := [5]) (by kernel_rfl) (by simp) ?_
            refine AllReadyIn.cons rfl (fun K hK => ?_) AllReadyIn.nil
            rw [if_pos (by rfl)]
            refine Rf.oper_wide ?_
            go_simp
            refine HNO.out.mono ?_
            rintro e' Y2 ⟨rfl, hb2⟩
            refine hK _ _ ?_
            clear hK K
            have hn2 := HNX.out Y2 hb2
            have hc2 : Y2.heap[p]? = some (.cells C 32 (0, 0)) := by rw [← HC.out]; exact (HLD.out.later hb2).cell
            have hbx := boxed_row_ne (F := G) (HLD.out.later hb2).b.box (g := p) (by have := HLD.out.pg; omega)
            have hc3' := hbx.cell
            have hf3' := hbx.frozen
            have HN2 := Lib.hid hn2
            have HC2 := Lib.hid hc2
            clear hn2 hc2 hb2 hbx
            refine wpAnyIn_ready (rs := [6]) (by kernel_rfl) (by simp) ?_
            refine AllReadyIn.cons rfl (fun K hK => ?_) AllReadyIn.nil
            rw [if_pos (by rfl)]
            refine Rf.oper_wide (wp_store_row 32 (.tmp 5) (.tmp 24) rfl p G rfl rfl 32 C HC2.out HGS.out HGZ.out HGO.out (hK _ _ ?_))
            clear hK K
            refine wpAnyIn_done (by kernel_rfl) ?_ _
            gi_wp2
            go_roundw
            case rel => exact ⟨left / 2, r', s0 ++ cur, _, by go_num, by omega, HN2.out⟩
            case measure => simp [intOf]; omega
          · (rw [if_pos (by rfl)]; refine Rf.oper_wide (wp_load_row 32 (.tmp 5) rfl p rfl 32 C (0, 0) _ HCC.out dg_under rfl HCS.out (hK _ _ ?_)); clear hK K)
            refine wpAnyIn_ready (rs := [3]) (by kernel_rfl) (by simp) ?_
            refine AllReadyIn.cons rfl (fun K hK => ?_) AllReadyIn.nil
            (rw [if_pos (by rfl)]; refine Rf.oper_wide (wp_load_mid 32 (.tmp 21) rfl g' (m * 32) rfl (bytesV (Da.ov s0)) _ HRNG.out dg_under rfl HRS.out (hK _ _ ?_)); clear hK K; rw [HA.out])
            refine wpAnyIn_ready (rs := [5]) (by kernel_rfl) (by simp) ?_
            refine AllReadyIn.cons rfl (fun K hK => ?_) AllReadyIn.nil
            rw [if_pos (by rfl)]
            refine Rf.oper_wide ?_
            go_simp
            refine HNO.out.mono ?_
            rintro e' Y2 ⟨rfl, hb2⟩
            refine hK _ _ ?_
            clear hK K
            have hn2 := HNX.out Y2 hb2
            have hc2 : Y2.heap[p]? = some (.cells C 32 (0, 0)) := by rw [← HC.out]; exact (HLD.out.later hb2).cell
            have hbx := boxed_row_ne (F := G) (HLD.out.later hb2).b.box (g := p) (by have := HLD.out.pg; omega)
            have hc3' := hbx.cell
            have hf3' := hbx.frozen
            have HN2 := Lib.hid hn2
            have HC2 := Lib.hid hc2
            clear hn2 hc2 hb2 hbx
            refine wpAnyIn_ready (rs := [6]) (by kernel_rfl) (by simp) ?_
            refine AllReadyIn.cons rfl (fun K hK => ?_) AllReadyIn.nil
            rw [if_pos (by rfl)]
            refine Rf.oper_wide (wp_store_row 32 (.tmp 5) (.tmp 24) rfl p G rfl rfl 32 C HC2.out HGS.out HGZ.out HGO.out (hK _ _ ?_))
            clear hK K
            refine wpAnyIn_done (by kernel_rfl) ?_ _
            gi_wp2
            go_roundw
            case rel => exact ⟨left / 2, r', s0 ++ cur, _, by go_num, by omega, HN2.out⟩
            case measure => simp [intOf]; omega
        · (rw [if_pos (by rfl)]; refine Rf.oper_wide (wp_load_row 32 (.tmp 5) rfl p rfl 32 C (0, 0) _ HCC.out dg_under rfl HCS.out (hK _ _ ?_)); clear hK K)
          refine wpAnyIn_ready (rs := [0]) (by kernel_rfl) (by simp) ?_
          refine AllReadyIn.cons rfl (fun K hK => ?_) AllReadyIn.nil
          (go_simp; refine hK _ _ ?_; clear hK K)
          refine wpAnyIn_take (i := 2) (v := .pointer (some ⟨g', m * 32, none⟩)) rfl rfl (by kernel_rfl) (by kernel_rfl) (by kernel_rfl) (fun _ _ _ h => h) ⟨Or.inl ⟨by rfl, fun w => by go_simp⟩, fun _ => rfl⟩ ?_
          refine wpAnyIn_ready (rs := [3]) (by kernel_rfl) (by simp) ?_
          refine AllReadyIn.cons rfl (fun K hK => ?_) AllReadyIn.nil
          (rw [if_pos (by rfl)]; refine Rf.oper_wide (wp_load_mid 32 (.tmp 21) rfl g' (m * 32) rfl (bytesV (Da.ov s0)) _ HRNG.out dg_under rfl HRS.out (hK _ _ ?_)); clear hK K; rw [HA.out])
          refine wpAnyIn_ready (rs := [5]) (by kernel_rfl) (by simp) ?_
          refine AllReadyIn.cons rfl (fun K hK => ?_) AllReadyIn.nil
          rw [if_pos (by rfl)]
          refine Rf.oper_wide ?_
          go_simp
          refine HNO.out.mono ?_
          rintro e' Y2 ⟨rfl, hb2⟩
          refine hK _ _ ?_
          clear hK K
          have hn2 := HNX.out Y2 hb2
          have hc2 : Y2.heap[p]? = some (.cells C 32 (0, 0)) := by rw [← HC.out]; exact (HLD.out.later hb2).cell
          have hbx := boxed_row_ne (F := G) (HLD.out.later hb2).b.box (g := p) (by have := HLD.out.pg; omega)
          have hc3' := hbx.cell
          have hf3' := hbx.frozen
          have HN2 := Lib.hid hn2
          have HC2 := Lib.hid hc2
          clear hn2 hc2 hb2 hbx
          refine wpAnyIn_ready (rs := [6]) (by kernel_rfl) (by simp) ?_
          refine AllReadyIn.cons rfl (fun K hK => ?_) AllReadyIn.nil
          rw [if_pos (by rfl)]
          refine Rf.oper_wide (wp_store_row 32 (.tmp 5) (.tmp 24) rfl p G rfl rfl 32 C HC2.out HGS.out HGZ.out HGO.out (hK _ _ ?_))
          clear hK K
          refine wpAnyIn_done (by kernel_rfl) ?_ _
          gi_wp2
          go_roundw
          case rel => exact ⟨left / 2, r', s0 ++ cur, _, by go_num, by omega, HN2.out⟩
          case measure => simp [intOf]; omega
      · have hal := stk_all HAL.out hL.flat
        have ho' : left % 2 = 0 := by omega
        obtain ⟨C, hC⟩ : ∃ C, (bytesV (Da.ov cur)).toArray = C := ⟨_, rfl⟩
        have hCs : C.size = 32 := by rw [← hC]; simp [hal.2]
        have HCC : Hid (Y1.heap[p]? = some (.cells C 32 (0, 0))) := Lib.hid (by rw [← hC]; exact hL.cell)
        have HCS : Hid ((Tryd.prog.info? 32).map (·.size) = some C.size) := Lib.hid (by rw [dg_info, hCs])
        have hbs := dg_slice_run (tS := 27) Tryd.underlying27 dgI_code C hCs Y1
        have hba := new12 Y1 (.cells C 32)
        have hrow : (Y1.alloc (.cells C 32)).rangeAt Y1.heap.size 0 (bytesV (Da.ov cur)) := by rw [← hC]; exact (Arr.made Y1 32 (bytesV (Da.ov cur))).rng
        have hlw : rs.length ≤ left := by obtain ⟨j, _, h2, _⟩ := hL.lv; exact h2.keep
        obtain ⟨g2, cap2, Y2, hrun, hown2, hgr2, _⟩ := dg_append_run (tS := 27) Tryd.underlying27 dgI_code 27 _ (g + 3) v rs.length (stk rs) (own_later12 hL.b.own hba) Y1.heap.size (Da.ov cur) hal.2 hrow (by omega) (by have := hL.b.size; have := hba.size; omega)
        obtain ⟨hbx, hcn, hRI, hKO⟩ := hL.push (by rw [HN.out]; exact hlt) ho' hba hown2 hgr2
        have hc4' := hcn.cell
        have hf4' := hcn.frozen
        have hc3' := hbx.cell
        have hf3' := hbx.frozen
        have HRUN := Lib.hid hrun
        have HRI := Lib.hid hRI
        have HKO := Lib.hid hKO
        have hrem : Int.tmod (left : Int) 2 = 0 := by rw [Int.tmod_eq_emod_of_nonneg (by omega)]; omega
        have hw1 : IntKind.i64.wrap ((s : Int) + 1) = (s : Int) + 1 := by rw [IntKind.wrap_i64]; omega
        clear hL hLd hal hC hCs hba hrow hrun hown2 hgr2 hbx hcn hRI hKO
        gi_upto_region 11 with fail
        refine wpIn_region_lit ?_
        (refine wpListIn_plain rfl (fun K hK => Rf.oper_round l (fun c h => by cases h) ?_); go_simp; refine hK _ _ ?_; clear hK K)
        refine wpListIn_plain rfl (fun K hK => Rf.oper_round l (fun c h => by cases h) (wp_load_row 32 (.tmp 5) rfl p rfl 32 C (0, 0) _ HCC.out dg_under rfl HCS.out (hK _ _ ?_)))
        clear hK K
        refine wpListIn_plain rfl (fun K hK => Rf.oper_round l (fun c h => by cases h) (oper_slice 27 1 _ rfl #[(0, .agg C)] (by first | rfl | simp [Act.eval, Act.put]) _ _ hbs (hK _ _ ?_)))
        clear hK K
        refine wpListIn_plain rfl (fun K hK => Rf.oper_round l (fun c h => by cases h) (oper_append (.tmp 28) (.tmp 30) 27 rfl _ _ rfl rfl _ _ HRUN.out (hK _ _ ?_)))
        clear hK K hbs
        (refine wpListIn_plain rfl (fun K hK => Rf.oper_round l (fun c h => by cases h) ?_); go_simp; refine hK _ _ ?_; clear hK K)
        refine wpListIn_nil ?_
        gi_wp2
        exact HN'.out _ _ HKO.out ⟨_, _, HRI.out⟩
  case done =>
    rintro D' s X hD' hs ⟨rs, v, hI⟩ hK'
    have hfl : rs.reverse.flatten = ds := by
      rw [hI.flat, hs, List.take_of_length_le (by rw [HN.out]; exact Nat.le_refl _)]
    have hall : Da.all32 (rs.reverse.map Da.ov) := Da.all32.ovs (by rw [hfl]; exact HAL.out)
    have hjw : Da.jw (rs.reverse.map Da.ov) = Da.ov ds := by rw [Da.jw_stack hI.wt, hfl]
    obtain ⟨hn, o, c, rfl, hdg⟩ := own_dg hI.b.own hall
    have JO := tjoined_any (rs.reverse.map Da.ov) o rs.length c hn.symm X hdg (HV.out.later hI.b.below) (by rw [hjw]; exact Da.ov_length HAL.out)
    rw [hjw, HF.out] at JO
    have hc3 := hI.b.box.cell
    have HJO := Lib.hid JO
    have HII := Lib.hid hI
    have HKK := Lib.hid hK'
    have HS3' := HI0.out.b.below.size
    clear hfl hall hjw hn hdg JO hI hK'
    go_upto_region 13 with fail
    apply wp_region_lit
    (refine wpList_plain rfl (fun K hK => ?_); go_simp; refine hK _ _ ?_; clear hK K)
    (refine wpList_plain rfl (fun K hK => ?_); go_simp)
    refine HJO.out.mono ?_
    rintro e X2 ⟨rfl, hb2⟩
    refine hK _ _ ?_
    clear hK K HJO
    have hres := (HII.out.b.later hb2).res
    have hK2 : X2.heap[D']? = some (.deferred (some [])) := by rw [hb2.block _ (Array.getElem?_eq_some_iff.1 HKK.out).1]; exact HKK.out
    have hne : D' ≠ g := fun e => by
      subst e
      rw [show X2.heap[D']? = _ from hres] at hK2
      cases hK2
    have hK3 : (X2.setRow g F).heap[D']? = some (.deferred (some [])) := by rw [setRow_other X2 g D' F hne]; exact hK2
    have hg2 : ((X2.setRow g F).putObj D' (.deferred none)).heap[g]? = some (.cells F 32 (0, 0)) := by
      rw [World.putObj_heap_other (by omega)]
      exact setRow_heap _ _ _ _ _ _ hres
    have HBW : Hid (Below w.heap.size w ((X2.setRow g F).putObj D' (.deferred none))) := Lib.hid
      ((((HII.out.b.later hb2).below).trans (below_row (Nat.le_of_eq HG.out))).trans (belowK_b (w := w) (Nat.le_refl _) (X2.setRow g F) D' _ _ (by omega) hK3 rfl rfl))
    have HK3 := Lib.hid hK3
    have HG2 := Lib.hid hg2
    have HRES : Hid (X2.heap[g]? = some (.cells (bytesV (List.replicate 32 0)).toArray 32 (0, 0))) := Lib.hid hres
    clear hres hK2 hne hK3 hg2 hb2
    refine wpList_store_row rfl 32 (.tmp 2) (.tmp 35) rfl g F rfl rfl 32 (bytesV (List.replicate 32 0)).toArray HRES.out HFS.out HFZ.out HFO.out ?_
    go_wp2_with fail
    refine Rf.leaves HK3.out (results_cell_row rfl _ _ g 32 F (0, 0) _ rfl HG2.out dg_under rfl HFS.out) ?_
    exact ⟨rfl, HBW.out⟩
  case stop => exact fun D c X hD h => h.elim
end Go.Proofs.YtmfbdelhkdimaaaDoor
