/- What a path makes, collected: slices.Collect over made's iterator. -/
import Derived.Test.YtjcmihiajpgnjaaDoorPk4
namespace Go.Proofs.YtjcmihiajpgnjaaDoor
open Go.RowKit
attribute [local go_sem] Oper.semAt_some
set_option linter.unusedVariables false
set_option linter.unusedSimpArgs false
theorem own_block {T : TypeId} {W W' : World} {b sz n : Nat} {v : Value} {xs : List Value} (h : W.ownsRow b T sz v n xs) (hk : ∀ g, v.ownBlock = some g → W'.heap[g]? = W.heap[g]?) : W'.ownsRow b T sz v n xs := by
  obtain ⟨h1, h2⟩ := h
  refine ⟨h1, ?_⟩
  rcases h2 with h2 | ⟨g', cap', cur, e, hg, hh, r⟩
  · exact .inl h2
  · refine .inr ⟨g', cap', cur, e, hg, ?_, r⟩
    rw [hk g' (by rw [e]; rfl)]
    exact hh
/-- between two rounds of a collection -/
structure CoI (W : World) (q : Nat) (bb : Nat → List UInt8) (M : Rf.Blk) (s : Nat) (v : Value) (xs : List Value) (X : World) : Prop where
  box : Boxed X q 22 v
  own : X.ownsRow W.heap.size 40 1 v s xs
  at_ : ∀ j, j < s → ∃ gb cb, xs[j]? = some (.slice (some ⟨gb, 0, none⟩) (bb j).length cb) ∧ Buf X gb cb (bb j) ∧ ¬ M gb ∧ gb ≠ W.heap.size ∧ gb ≠ W.heap.size + 1
  nb : ∀ k, v.ownBlock = some k → W.heap.size ≤ k ∧ ¬ M k ∧ k ≠ W.heap.size ∧ k ≠ W.heap.size + 1
  els : Rf.Mut (fun k => k = q) W X
  lt : q < W.heap.size
theorem CoI.mut {W : World} {q : Nat} {bb : Nat → List UInt8} {M : Rf.Blk} {s : Nat} {v : Value} {xs : List Value} {X X' : World} (h : CoI W q bb M s v xs X) (hM : ∀ k, M k → W.heap.size + 2 ≤ k) (k : Rf.Mut (Rf.own2 W.heap.size M) X X') : CoI W q bb M s v xs X' := by
  have hn : ∀ k, k < W.heap.size → ¬ Rf.own2 W.heap.size M k := fun k hk hh => by
    rcases hh with h1 | h1 | h1
    · have := hM k h1; omega
    · omega
    · omega
  refine ⟨box_block h.box (k.same _ h.box.lt (hn _ h.lt)), own_block h.own fun g hg => ?_, fun j hj => ?_, h.nb, ⟨k.os.trans h.els.os, k.tape.trans h.els.tape, k.output.trans h.els.output, Nat.le_trans h.els.size k.size, fun i hi hng => (k.same i (Nat.lt_of_lt_of_le hi h.els.size) (hn i hi)).trans (h.els.same i hi hng)⟩, h.lt⟩
  · obtain ⟨_, h1, h2, h3⟩ := h.nb g hg
    refine k.same g (World.ownsRow.lt h.own g hg).2 fun hh => ?_
    rcases hh with h4 | h4 | h4
    · exact h1 h4
    · exact h2 h4
    · exact h3 h4
  · obtain ⟨gb, cb, e, hb, h1, h2, h3⟩ := h.at_ j hj
    refine ⟨gb, cb, e, hb.block (k.same gb hb.lt fun hh => ?_), h1, h2, h3⟩
    rcases hh with h4 | h4 | h4
    · exact h1 h4
    · exact h2 h4
    · exact h3 h4
theorem CoI.later {W : World} {q : Nat} {bb : Nat → List UInt8} {M : Rf.Blk} {s : Nat} {v : Value} {xs : List Value} {X X' : World} (h : CoI W q bb M s v xs X) (hb : Below X.heap.size X X') : CoI W q bb M s v xs X' :=
  ⟨boxed_later h.box hb, own_later12 h.own hb, fun j hj => by
    obtain ⟨gb, cb, e, h0, r⟩ := h.at_ j hj
    exact ⟨gb, cb, e, h0.later hb, r⟩, h.nb, h.els.trans (.of_below hb), h.lt⟩
theorem own_ne_buf {W : World} {b n : Nat} {v : Value} {xs : List Value} (h : W.ownsRow b 40 1 v n xs) {gb cb : Nat} {ys : List UInt8} (hb : Buf W gb cb ys) : some gb ≠ v.ownBlock := fun e => by
  obtain ⟨_, cur, T, f, h1, hT⟩ := own_kind h (by decide) gb e.symm
  obtain ⟨cur2, h2⟩ := hb.cells
  rw [h1] at h2
  cases h2
  exact hT rfl
theorem CoI.push {W : World} {q : Nat} {bb : Nat → List UInt8} {M : Rf.Blk} {s : Nat} {v v' : Value} {xs : List Value} {Y1 Y2 : World} (h : CoI W q bb M s v xs Y1) {gb cb : Nat} (hbuf : Buf Y1 gb cb (bb s)) (hn : ¬ M gb ∧ gb ≠ W.heap.size ∧ gb ≠ W.heap.size + 1)
    (hMY : ∀ k, M k → k < Y1.heap.size) (hWY : W.heap.size + 2 ≤ Y1.heap.size) (hown : Y2.ownsRow W.heap.size 40 1 v' (s + 1) (xs ++ [.slice (some ⟨gb, 0, none⟩) (bb s).length cb])) (hg : Y1.grownBy Y2 v.ownBlock)
    (hat : v'.ownBlock = v.ownBlock ∨ v'.ownBlock = some Y1.heap.size) :
    Boxed Y2 q 22 v ∧ CoI W q bb M (s + 1) v' (xs ++ [.slice (some ⟨gb, 0, none⟩) (bb s).length cb]) (Y2.setCell ⟨q, 0, none⟩ v') ∧
    (∀ k, k < Y1.heap.size → ¬ (k = q ∨ v.ownBlock = some k) → (Y2.setCell ⟨q, 0, none⟩ v').heap[k]? = Y1.heap[k]?) ∧ Y1.heap.size ≤ (Y2.setCell ⟨q, 0, none⟩ v').heap.size := by
  have hold : ∀ k, k < W.heap.size → some k ≠ v.ownBlock := fun k hk e => by have := (h.nb k e.symm).1; omega
  have hbox : Boxed Y2 q 22 v := box_block h.box (hg.block q h.box.lt (hold q h.lt))
  have k1 : Y2.grownBy (Y2.setCell ⟨q, 0, none⟩ v') (some q) := grownBy_setCell' _ _ _
  have bufs : ∀ {g c : Nat} {ys : List UInt8}, Buf Y1 g c ys → Buf (Y2.setCell ⟨q, 0, none⟩ v') g c ys := fun {g c ys} hb => by
    have h1 : Buf Y2 g c ys := hb.block (hg.block g hb.lt (own_ne_buf h.own hb))
    exact h1.block (k1.block g h1.lt (by simp; exact h1.ne hbox (by decide)))
  have hxl : xs.length = s := by have := h.own.1; omega
  refine ⟨hbox, ⟨hbox.set _, own_block hown fun g e => ?_, fun j hj => ?_, fun k e => ?_, ?_, h.lt⟩, fun k hk hn2 => ?_, Nat.le_trans hg.size k1.size⟩
  · have hlt := World.ownsRow.lt hown g e
    exact k1.block g hlt.2 (by simp; have := h.lt; omega)
  · by_cases hjs : j < s
    · obtain ⟨g, c, e, hb, r⟩ := h.at_ j hjs
      exact ⟨g, c, by rw [List.getElem?_append_left (by omega)]; exact e, bufs hb, r⟩
    · obtain rfl : j = s := by omega
      exact ⟨gb, cb, by rw [List.getElem?_append_right (by omega), hxl, Nat.sub_self]; rfl, bufs hbuf, hn⟩
  · rcases hat with h1 | h1
    · exact h.nb k (h1 ▸ e)
    · rw [h1] at e
      injection e with e
      subst e
      exact ⟨by omega, fun hh => by have := hMY _ hh; omega, by omega, by omega⟩
  · refine Rf.Mut.trans ⟨hg.os.trans h.els.os, hg.tape.trans h.els.tape, hg.output.trans h.els.output, Nat.le_trans h.els.size hg.size, fun k hk hn3 => ?_⟩ (.grown k1 (fun k e => by cases e; rfl))
    exact (hg.block k (Nat.lt_of_lt_of_le hk h.els.size) (hold k hk)).trans (h.els.same k hk hn3)
  · rw [k1.block k (Nat.lt_of_lt_of_le hk hg.size) (by simp; exact fun e => hn2 (.inl e)), hg.block k hk (fun e => hn2 (.inr e.symm))]
set_option maxRecDepth 100000 in
set_option maxHeartbeats 2000000 in
theorem appendSeq_any (leaf : List UInt8) (ol : Option Addr) (cl : Nat) (ps : List (List UInt8)) (op : Option Addr) (m cp n i QL QP QN QI : Nat) (hm : ps.length = m) (hu : (Da.ups n i).length = m) (hi : i < n) (h5 : n ≤ 512) (hl5 : leaf.length ≤ 8900) (w : World)
    (hB : Boxed w QL 40 (.slice ol leaf.length cl) ∧ Boxed w QP 25 (.slice op m cp) ∧ Boxed w QN 3 (.int .i64 (n : Int)) ∧ Boxed w QI 3 (.int .i64 (i : Int)) ∧ RowIs w ol (bytesV leaf) cl ∧ DgIs w op ps cp ∧ Cds w) :
    Calls Tryd.prog 77 #[.slice none 0 0, .func (.func 50) #[] #[.pointer (some ⟨QL, 0, none⟩), .pointer (some ⟨QP, 0, none⟩), .pointer (some ⟨QN, 0, none⟩), .pointer (some ⟨QI, 0, none⟩)]] w fun e w' =>
      ∃ o c, e = .returned (.slice o (m + 1) c) ∧ RbIs w' o ((List.range (m + 1)).map (Da.mbs (0 :: leaf) (Da.ups n i) ps)) c ∧ Below w.heap.size w w' ∧ ∀ ad, o = some ad → w.heap.size ≤ ad.block := by
  obtain ⟨q, hq⟩ : ∃ q, w.heap.size = q := ⟨_, rfl⟩
  obtain ⟨W1, hW1⟩ : ∃ W1, w.alloc (.cells #[.slice none 0 0] 22) = W1 := ⟨_, rfl⟩
  have hb1 : Below w.heap.size w W1 := by rw [← hW1]; exact new12 _ _
  have hs1 : W1.heap.size = q + 1 := by rw [← hW1, World.size_alloc, hq]
  have hx1 : Boxed W1 q 22 (.slice none 0 0) := by rw [← hW1, ← hq]; exact Boxed.new _ _ _
  have MG := made_gives leaf ol cl ps op m cp n i QL QP QN QI hm hu hi h5 hl5
  have hm9 : m ≤ 9 := by rw [← hu]; exact Da.ups_nine h5 i
  obtain ⟨bb, hbb⟩ : ∃ bb, Da.mbs (0 :: leaf) (Da.ups n i) ps = bb := ⟨_, rfl⟩
  have HPRE : Hid (∀ X, Rf.Mut (fun k => k = q) W1 X → Boxed X QL 40 (.slice ol leaf.length cl) ∧ Boxed X QP 25 (.slice op m cp) ∧ Boxed X QN 3 (.int .i64 (n : Int)) ∧ Boxed X QI 3 (.int .i64 (i : Int)) ∧ RowIs X ol (bytesV leaf) cl ∧ DgIs X op ps cp ∧ Cds X) := Lib.hid fun X hX => by
    obtain ⟨q1, q2, q3, q4, r1, r2, r3⟩ := hB
    have hbx : Below w.heap.size w X := hb1.trans (hX.below (fun k hk e => by omega) hb1.size)
    exact ⟨boxed_later q1 hbx, boxed_later q2 hbx, boxed_later q3 hbx, boxed_later q4 hbx, r1.later hbx, r2.later hbx, r3.later hbx⟩
  have HMG := Lib.hid MG
  have HI0 : Hid (∀ M, CoI W1 q bb M 0 (.slice none 0 0) [] W1) := Lib.hid fun M => ⟨hx1, ⟨rfl, .inl ⟨rfl, rfl⟩⟩, fun j hj => absurd hj (Nat.not_lt_zero _), (fun k e => by cases e), Rf.Mut.refl _ _, hx1.lt⟩
  have HW1 := Lib.hid hW1
  have HB1 := Lib.hid hb1
  have HS1 := Lib.hid hs1
  have HQ := Lib.hid hq
  rw [hbb]
  have HBB := Lib.hid hbb
  clear MG hq hW1 hb1 hs1 hx1 hB hm hu hi h5 hl5 hbb
  refine Rf.calls_marks Tryd.func77 rfl ?_
  simp only [Tryd.ntmps77, List.size_toArray, List.length_cons, List.length_nil, Nat.reduceAdd, Nat.reduceSub, Array.replicate_succ, Array.replicate_zero, List.push_toArray, List.append_toArray, List.nil_append, List.cons_append]
  go_upto_region 1 with fail
  rw [HW1.out, HQ.out]
  go_wp2_with fail
  refine Rf.range_toldM (α := Nat × Nat × List UInt8) (σ := Nat) rfl (enters_of Tryd.func50 (by kernel_rfl) rfl) (fun x => #[.slice (some ⟨x.1, 0, none⟩) x.2.2.length x.2.1]) (fun _ => rfl) _ _ _ _ HMG.out
    (fun k => k = q)
    (fun O M s X => ∃ v xs, (∀ k, O k ↔ k = q ∨ v.ownBlock = some k) ∧ CoI W1 q bb M s v xs X)
    (fun c O M X => False)
    ?hO0 ?hI ?hIx ?hP ?hV ?h0 ?round ?done ?stop
  case hO0 =>
    rintro k rfl
    have := HS1.out
    omega
  case hI => exact fun O M s X X' hM ⟨v, xs, hO, h⟩ k => ⟨v, xs, hO, h.mut hM k⟩
  case hIx => exact fun c O M X X' hM h k => h
  case hP => exact fun O M s X ⟨v, xs, hO, h⟩ => HPRE.out X h.els
  case hV => exact fun M s x s' X X' h k => ⟨h.1, h.2.1, h.2.2.1, h.2.2.2.1.nc k, h.2.2.2.2⟩
  case h0 => exact fun M hM => ⟨_, _, fun k => ⟨fun e => .inl e, fun e => by rcases e with e | e; exact e; cases e⟩, HI0.out M⟩
  case round =>
    rintro l O M s x s' X Z' To hM hMX hOX hDX ⟨v, xs, hO, hI⟩ ⟨rfl, hsm, hx, hbuf, hnm⟩ hsz hrec hdef HN' HR' HE'
    obtain ⟨gb, cb, B⟩ := x
    dsimp only at hx hbuf hnm
    rw [HBB.out] at hx
    subst hx
    obtain ⟨cur, hcur⟩ := hbuf.cells
    have hg1 : gb ≠ W1.heap.size := fun e => by
      rw [e, hdef] at hcur
      cases hcur
    have hg2 : gb ≠ W1.heap.size + 1 := fun e => by
      obtain ⟨r, hr⟩ := hrec
      rw [e, hr] at hcur
      cases hcur
    have HGD := Lib.hid (And.intro hnm (And.intro hg1 hg2))
    have HBUF := Lib.hid hbuf
    have HII := Lib.hid hI
    have HO := Lib.hid hO
    have HOX := Lib.hid hOX
    have HMX := Lib.hid hMX
    have HDX := Lib.hid hDX
    have HSZ := Lib.hid hsz
    obtain ⟨Bl, hBl⟩ : ∃ Bl, (bb s).length = Bl := ⟨_, rfl⟩
    have HBL := Lib.hid hBl
    rw [hBl]
    clear hg1 hg2 hbuf hnm hI hO hOX hMX hDX hsz hM hrec hdef hcur cur hBl
    gi_wp2
    refine ⟨Below.refl _ _, fun Y hY hnew hsy => ?_⟩
    have hJ := HII.out.later hY
    have hc := hJ.box.cell
    have hbufY := HBUF.out.later hY
    obtain ⟨H, hH⟩ : ∃ H : Value, .slice (some ⟨gb, 0, none⟩) Bl cb = H := ⟨_, rfl⟩
    have hH1 : H.oneCell' = true := by rw [← hH]; rfl
    obtain ⟨Y1, hY1⟩ : ∃ Y1, Y.alloc (.cells #[.slice (some ⟨gb, 0, none⟩) Bl cb] 40) = Y1 := ⟨_, rfl⟩
    have hba : Below Y.heap.size Y Y1 := by rw [← hY1]; exact new12 _ _
    have hbxY := Kit.step hY hba
    have hJ1 := hJ.later hba
    have hcl1 : Y1.cell? ⟨Y.heap.size, 0, none⟩ = some (.slice (some ⟨gb, 0, none⟩) Bl cb) := by
      rw [← hY1]; unfold World.cell?; rw [World.alloc_heap_new]; rfl
    have HJ1 := Lib.hid hJ1
    have HBY := Lib.hid hbxY
    have HBUF1 := Lib.hid (hbufY.later hba)
    have HY1 := Lib.hid hY1
    have HC1 := Lib.hid hcl1
    have HYS : Hid (Y1.heap.size = Y.heap.size + 1) := Lib.hid (by rw [← hY1, World.size_alloc])
    have HYX := Lib.hid hY.size
    clear hJ hbufY hH1 hY1 hba hbxY hJ1 hcl1 hH H hY hnew hsy
    gi_upto_region 3 with fail
    refine Rf.plain_round (by kernel_rfl) (by rintro ⟨a, w, h⟩; exact h) ?_
    (refine wpList_plain rfl (fun K hK => ?_); go_simp; refine hK _ _ ?_; clear hK K)
    (refine wpList_plain rfl (fun K hK => ?_); go_simp; refine hK _ _ ?_; clear hK K)
    (refine wpList_plain rfl (fun K hK => ?_); go_simp; refine hK _ _ ?_; clear hK K)
    rw [HY1.out]
    obtain ⟨i0, hi, hz0, hz1, hz2⟩ := info_parts info_rowB
    have hJ1 := HJ1.out
    refine wpList_append_own_at Y1 rfl (.tmp 8) (.tmp 10) 22 rfl W1.heap.size 40 i0 (.slice none 0 0) 1 24 Tryd.underlying22 hi hz0 hz1 hz2 rfl (by decide) v s xs rfl hJ1.own ⟨Y.heap.size, 0, none⟩ 1 1 [.slice (some ⟨gb, 0, none⟩) Bl cb] rfl rfl ?hnews ?hone ?h63 ?hby ?hbase ?_
    case hnews =>
      intro j u hu
      match j, hu with
      | 0, hu => cases hu; exact HC1.out
      | j + 1, hu => simp at hu
    case hone =>
      intro u hu
      rw [List.mem_singleton] at hu
      subst hu
      rfl
    case h63 => unfold maxLen; omega
    case hby => omega
    case hbase => exact hJ1.els.size
    intro v' Y2 hown hgr _ hat
    have hWY : W1.heap.size + 2 ≤ Y1.heap.size := by have := HDX.out; have := HYX.out; have := HYS.out; omega
    obtain ⟨hbx, hCo, hsame, hsz3⟩ := hJ1.push (gb := gb) (cb := cb) HBUF1.out HGD.out (fun k hk => by have := HMX.out k hk; have := HYX.out; have := HYS.out; omega) hWY (by rw [HBL.out]; exact hown) hgr hat
    obtain ⟨o', l', c', rfl⟩ : ∃ o l c, v' = Value.slice o l c := by
      rcases hown.2 with ⟨rfl, _⟩ | ⟨_, _, _, rfl, _⟩
      · exact ⟨_, _, _, rfl⟩
      · exact ⟨_, _, _, rfl⟩
    have hFr : Rf.Fr O X (fun k => k = q ∨ (Value.slice o' l' c').ownBlock = some k) (Y2.setCell ⟨q, 0, none⟩ (.slice o' l' c')) := by
      refine ⟨by have := HYX.out; have := HYS.out; omega, fun k hk => ?_, fun k hk hnO => ?_⟩
      · rcases hk with rfl | hk
        · exact ⟨hCo.box.lt, .inl ((HO.out _).2 (.inl rfl))⟩
        · refine ⟨(World.ownsRow.lt hCo.own k hk).2, ?_⟩
          rcases hat with h1 | h1
          · exact .inl ((HO.out _).2 (.inr (h1 ▸ hk)))
          · rw [h1] at hk
            injection hk with hk
            exact .inr (by have := HYX.out; have := HYS.out; omega)
      · rw [hsame k (by have := HYX.out; have := HYS.out; omega) (fun h => hnO ((HO.out _).2 h))]
        exact HBY.out.block k hk
    have hc2 := hbx.cell
    have hf2 := hbx.frozen
    have HFR := Lib.hid hFr
    have HCO := Lib.hid hCo
    clear hbx hCo hsame hsz3 hFr hWY hown hgr hat hJ1 hi hz0 hz1 hz2
    (refine wpList_plain rfl (fun K hK => ?_); go_simp; refine hK _ _ ?_; clear hK K)
    refine wpList_nil ?_
    exact HN'.out _ _ _ HFR.out ⟨_, _, fun k => Iff.rfl, HCO.out⟩
  case done =>
    rintro O M s X hM hMX hOX hD1 rfl ⟨v, xs, hO, hI⟩ hK'
    have hc3 := hI.box.cell
    have hk : Below w.heap.size X (X.putObj W1.heap.size (.deferred none)) := belowK_b (w := w) (Nat.le_refl _) X W1.heap.size _ _ (by have := HB1.out.size; omega) hK' rfl rfl
    have hbX : Below w.heap.size w X := HB1.out.trans (hI.els.below (n := w.heap.size) (fun k hk e => by have := HQ.out; omega) HB1.out.size)
    have hput : ∀ k, k ≠ W1.heap.size → (X.putObj W1.heap.size (.deferred none)).heap[k]? = X.heap[k]? := fun k hk => World.putObj_heap_other hk
    have hown2 := own_block (W' := X.putObj W1.heap.size (.deferred none)) hI.own fun g hg => hput g (hI.nb g hg).2.2.1
    obtain ⟨hxl, hx2⟩ := hown2
    rcases hx2 with ⟨_, h0⟩ | ⟨g', cap', cur', rfl, hgb, hheap, hc1, hc2', hcs, htk⟩
    · omega
    have hrow : RbIs (X.putObj W1.heap.size (.deferred none)) (some ⟨g', 0, none⟩) ((List.range (m + 1)).map bb) cap' := by
      refine ⟨xs, ⟨by omega, hc2', (fun e => by cases e), fun _ => ⟨g', 0, rfl, (Array.getElem?_eq_some_iff.1 hheap).1, fun j u hu => ?_⟩⟩, by simp; omega, fun j x hx => ?_⟩
      · rw [Nat.zero_add, cell_of_row _ g' j _ _ _ hheap]
        rw [← htk] at hu
        rw [List.getElem?_take] at hu
        split at hu
        · simpa using hu
        · cases hu
      · have hj : j < m + 1 := by have := (List.getElem?_eq_some_iff.1 hx).1; omega
        obtain ⟨gb, cb, e, hb, h1, h2, h3⟩ := hI.at_ j hj
        rw [e] at hx
        cases hx
        rw [show bi ((List.range (m + 1)).map bb) j = bb j by simp [bi, List.getD_eq_getElem?_getD, hj]]
        exact ⟨_, _, rfl, (hb.block (hput gb h2)).row⟩
    have HROW := Lib.hid hrow
    have HBW := Lib.hid (hbX.trans hk)
    have HGB : Hid (w.heap.size ≤ g') := Lib.hid (Nat.le_trans HB1.out.size hgb)
    clear hI hO hk hbX hput hxl hgb hheap hc1 hc2' hcs htk hrow hMX hOX hM hD1
    go_wp2_with fail
    refine Rf.leaves hK' (results_tmp rfl _ _ _) ?_
    exact ⟨_, _, rfl, HROW.out, HBW.out, fun ad e => by cases e; exact HGB.out⟩
  case stop => exact fun c O M X hM h => h.elim
theorem collect_any (leaf : List UInt8) (ol : Option Addr) (cl : Nat) (ps : List (List UInt8)) (op : Option Addr) (m cp n i QL QP QN QI : Nat) (hm : ps.length = m) (hu : (Da.ups n i).length = m) (hi : i < n) (h5 : n ≤ 512) (hl5 : leaf.length ≤ 8900) (w : World)
    (hB : Boxed w QL 40 (.slice ol leaf.length cl) ∧ Boxed w QP 25 (.slice op m cp) ∧ Boxed w QN 3 (.int .i64 (n : Int)) ∧ Boxed w QI 3 (.int .i64 (i : Int)) ∧ RowIs w ol (bytesV leaf) cl ∧ DgIs w op ps cp ∧ Cds w) :
    Calls Tryd.prog 69 #[.func (.func 50) #[] #[.pointer (some ⟨QL, 0, none⟩), .pointer (some ⟨QP, 0, none⟩), .pointer (some ⟨QN, 0, none⟩), .pointer (some ⟨QI, 0, none⟩)]] w fun e w' =>
      ∃ o c, e = .returned (.slice o (m + 1) c) ∧ RbIs w' o ((List.range (m + 1)).map (Da.mbs (0 :: leaf) (Da.ups n i) ps)) c ∧ Below w.heap.size w w' ∧ ∀ ad, o = some ad → w.heap.size ≤ ad.block := by
  have AS := appendSeq_any leaf ol cl ps op m cp n i QL QP QN QI hm hu hi h5 hl5 w hB
  obtain ⟨RB, hRB⟩ : ∃ RB : List (List UInt8), (List.range (m + 1)).map (Da.mbs (0 :: leaf) (Da.ups n i) ps) = RB := ⟨_, rfl⟩
  rw [hRB] at AS ⊢
  have HAS := Lib.hid AS
  clear AS hB hm hu hi h5 hl5 hRB
  go_enter Tryd.func69, Tryd.ntmps69
  go_wp2_with fail
  refine HAS.out.mono ?_
  rintro e w1 ⟨o, c, rfl, hr, hb, hbl⟩
  have HRR := Lib.hid hr
  have HBB := Lib.hid hb
  have HBL := Lib.hid hbl
  clear hr hb hbl HAS
  go_wp2_with fail
  go_ret
  exact ⟨_, _, rfl, HRR.out, HBB.out, HBL.out⟩
end Go.Proofs.YtjcmihiajpgnjaaDoor
