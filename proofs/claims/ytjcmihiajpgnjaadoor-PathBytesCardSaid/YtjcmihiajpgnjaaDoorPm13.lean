/- A leaf's path: the code's Make. -/
import Derived.Test.YtjcmihiajpgnjaaDoorPc13
import Derived.Test.YtjcmihiajpgnjaaDoorRgt
import Derived.Test.YtjcmihiajpgnjaaDoorOf
namespace Go.Proofs.YtjcmihiajpgnjaaDoor
open Go.RowKit
set_option linter.unusedVariables false
set_option linter.unusedSimpArgs false
attribute [local go_sem] Oper.semAt_some
/-- digests that are appended to a row of one's own; W: the world where the loop begins -/
structure MkI (W : World) (g : Nat) (es : List (List UInt8)) (v : Value) (X : World) : Prop where
  own : X.ownsRow W.heap.size 38 32 v es.length (bytesV es.flatten)
  box : Boxed X g 25 v
  els : Rf.Mut (fun k => k = g) W X
  lt : g < W.heap.size
theorem MkI.ne {W : World} {g : Nat} {es : List (List UInt8)} {v : Value} {X : World} (h : MkI W g es v X) {k : Nat} (hk : k < W.heap.size) : some k ≠ v.ownBlock := fun e => by
  have := (own_blk h.own k e.symm).1
  omega
theorem MkI.later {W : World} {g : Nat} {es : List (List UInt8)} {v : Value} {X X' : World} (h : MkI W g es v X) (hb : Below X.heap.size X X') : MkI W g es v X' :=
  ⟨own_later12 h.own hb, boxed_later h.box hb, h.els.trans (.of_below hb), h.lt⟩
theorem MkI.nc {W : World} {g : Nat} {es : List (List UInt8)} {v : Value} {X X' : World} (h : MkI W g es v X) (k : Rf.NC W.heap.size X X') : MkI W g es v X' :=
  ⟨k.owns h.own, boxed_nc12 h.box k, ⟨k.os.trans h.els.os, k.tape.trans h.els.tape, k.output.trans h.els.output, Nat.le_trans h.els.size k.size, fun i hi hm => by
    have h1 := h.els.same i hi hm
    have hlt : i < X.heap.size := Nat.lt_of_lt_of_le hi h.els.size
    rw [Array.getElem?_eq_getElem hlt] at h1
    rw [k.same i _ (Array.getElem?_eq_getElem hlt) (.inr hi), h1]⟩, h.lt⟩
theorem MkI.boxed {W : World} {g : Nat} {es : List (List UInt8)} {v : Value} {X : World} (h : MkI W g es v X) {q : Nat} {t : TypeId} {u : Value} (hb : Boxed W q t u) (hq : q ≠ g) : Boxed X q t u := by
  unfold Boxed at *
  rw [h.els.same q (Array.getElem?_eq_some_iff.1 hb).1 hq]
  exact hb
theorem MkI.push {W : World} {g : Nat} {es : List (List UInt8)} {v : Value} {X X1 X2 : World} (h : MkI W g es v X) (hb : Below X.heap.size X X1) {d : List UInt8} {g2 cap2 : Nat}
    (hown : X2.ownsRow W.heap.size 38 32 (.slice (some ⟨g2, 0, none⟩) (es.length + 1) cap2) (es.length + 1) (bytesV es.flatten ++ bytesV d)) (hg : X1.grownBy X2 v.ownBlock) :
    Boxed X2 g 25 v ∧ MkI W g (es ++ [d]) (.slice (some ⟨g2, 0, none⟩) (es.length + 1) cap2) (X2.setCell ⟨g, 0, none⟩ (.slice (some ⟨g2, 0, none⟩) (es.length + 1) cap2)) ∧ KeepsOthers X (X2.setCell ⟨g, 0, none⟩ (.slice (some ⟨g2, 0, none⟩) (es.length + 1) cap2)) := by
  have h1 := h.later hb
  have hlt := h.lt
  have hg2 := (own_blk hown g2 rfl).1
  have hbox : Boxed X2 g 25 v := h1.box.kept hg (h1.ne hlt)
  have k1 : X2.grownBy (X2.setCell ⟨g, 0, none⟩ (.slice (some ⟨g2, 0, none⟩) (es.length + 1) cap2)) (some g) := grownBy_setCell' _ _ _
  refine ⟨hbox, ⟨?_, hbox.set _, ?_, hlt⟩, ?_⟩
  · rw [List.length_append, List.length_singleton, List.flatten_append, bytesV_app]
    rw [show ([d] : List (List UInt8)).flatten = d by simp]
    exact World.ownsRow.kept hown k1 (.inr (by simp [Value.ownBlock]; omega))
  · refine Rf.Mut.trans ⟨hg.os.trans h1.els.os, hg.tape.trans h1.els.tape, hg.output.trans h1.els.output, Nat.le_trans h1.els.size hg.size, fun k hk hn => ?_⟩ (.grown k1 (fun k e => by cases e; rfl))
    exact (hg.block k (Nat.lt_of_lt_of_le hk h1.els.size) (h1.ne hk)).trans (h1.els.same k hk hn)
  · refine (keeps_below hb).trans ((KeepsOthers.of_grownBy hg fun k o e ho => ?_).trans (KeepsOthers.setCell _ _ _))
    obtain ⟨_, cur', h2⟩ := own_blk h1.own k e
    rw [h2] at ho
    cases ho
    rfl
/-- a row of digests lies in no block of one cell -/
theorem DgIs.ne_box {W : World} {o : Option Addr} {ds : List (List UInt8)} {c : Nat} (h : DgIs W o ds c) (h0 : 0 < ds.length) {g : Nat} {t : TypeId} {v : Value} (hb : Boxed W g t v) : ∀ ad, o = some ad → ad.block ≠ g := by
  intro ad e ebg
  obtain ⟨b, off, e2, hlt, hc⟩ := h.cells h0
  rw [e] at e2
  cases e2
  dsimp only at ebg
  subst ebg
  have hl := Da.flat_len h.all
  have h1 := hc 1 ((bytesV ds.flatten).getD 1 undef) (by rw [List.getD_eq_getElem?_getD, List.getElem?_eq_getElem (by rw [bytesV_length]; omega)]; rfl)
  unfold World.cell? at h1
  unfold Boxed at hb
  rw [hb] at h1
  simp at h1
theorem DgIs.moved {W X : World} {o : Option Addr} {ds : List (List UInt8)} {c g : Nat} (h : DgIs W o ds c) (hm : Rf.Mut (fun k => k = g) W X) (hne : 0 < ds.length → ∀ ad, o = some ad → ad.block ≠ g) : DgIs X o ds c :=
  ⟨h.le, h.cap, h.nil, h.all, fun h0 => by
    obtain ⟨b, off, e, hlt, hc⟩ := h.cells h0
    refine ⟨b, off, e, Nat.lt_of_lt_of_le hlt hm.size, fun j v hv => ?_⟩
    have := hc j v hv
    rw [← this]
    exact World.cell?_of_block (hm.same b hlt (hne h0 _ e))⟩
set_option maxRecDepth 100000 in
set_option maxHeartbeats 4000000 in
theorem pmake_any (bs : List (List UInt8)) (o : Option Addr) (n c i : Nat) (hn : bs.length = n) (w : World) (hR : RbIs w o bs c) (hV : Cds w) (hi : i < n) (h5 : n ≤ 512) (hll : ∀ i, i < bs.length → (bi bs i).length ≤ 800000) :
    Calls Tryd.prog 10 #[.slice o n c, .int .i64 (i : Int)] w fun e w' => ∃ o' c', e = .returned (.tuple #[.slice o' (Da.ups n i).length c', Value.nilIface]) ∧ DgIs w' o' (Da.pa (bs.map Da.lf) i) c' ∧ Below w.heap.size w w' := by
  have PL := plen_any n i hi h5 w
  have hle := Da.ups_nine h5 i
  have hlen := Da.trn_length 0 n i
  have hpa := Da.pa_all (bs.map Da.lf) i
  rw [List.length_map, hn] at hpa
  have hin := fun t => Da.trn_in n 0 i t hi
  obtain ⟨m, hm⟩ : ∃ m, (Da.ups n i).length = m := ⟨_, rfl⟩
  rw [hm] at PL hle hlen ⊢
  obtain ⟨ds, hds⟩ : ∃ ds, bs.map Da.lf = ds := ⟨_, rfl⟩
  have hdl : ds.length = n := by rw [← hds, List.length_map, hn]
  have hall : Da.all32 ds := by rw [← hds]; exact Da.all32.lf bs
  rw [hds] at hpa ⊢
  have HPL := Lib.hid PL
  have HPA := Lib.hid hpa
  have HIN := Lib.hid hin
  have HLEN := Lib.hid hlen
  have HDS := Lib.hid hds
  have HDL := Lib.hid hdl
  have HALL := Lib.hid hall
  have HR := Lib.hid hR
  have HV := Lib.hid hV
  have HN := Lib.hid hn
  have HI := Lib.hid hi
  have HLL := Lib.hid hll
  have hd1 : decide ((m : Int) < 0) = false := decide_eq_false (by omega)
  obtain ⟨i0, hi0, hz0, hz1, hz2⟩ := dgI_parts dgI_code
  clear PL hpa hin hlen hds hdl hall hR hV hn hi hll hm
  refine Rf.calls_marks Tryd.func10 rfl ?_
  simp only [Tryd.ntmps10, List.size_toArray, List.length_cons, List.length_nil, Nat.reduceAdd, Nat.reduceSub, Array.replicate_succ, Array.replicate_zero, List.push_toArray, List.append_toArray, List.nil_append, List.cons_append]
  go_wp2_with fail
  refine HPL.out.mono ?_
  rintro e W0 ⟨rfl, hb0⟩
  have HB0 := Lib.hid hb0
  clear hb0 HPL
  obtain ⟨g, hg⟩ : ∃ g, W0.heap.size = g := ⟨_, rfl⟩
  obtain ⟨W1, hW1⟩ : ∃ W1, W0.alloc (.cells #[.slice none 0 0] 25) = W1 := ⟨_, rfl⟩
  have hb1 : Below W0.heap.size W0 W1 := by rw [← hW1]; exact new12 _ _
  have hX1 : Boxed W1 g 25 (.slice none 0 0) := by rw [← hW1, ← hg]; exact Boxed.new _ _ _
  have hB1 := Kit.step HB0.out hb1
  have LV := tleaves_any bs o n c HN.out W1 (HR.out.later hB1) (HV.out.later hB1) (by omega) HLL.out
  rw [HDS.out] at LV
  have HLV := Lib.hid LV
  have HW1 := Lib.hid hW1
  have HG := Lib.hid hg
  have HB1 := Lib.hid hB1
  have HX1 := Lib.hid hX1
  clear hW1 hb1 hX1 hB1 LV hg
  go_upto_region 4 with fail
  rw [HW1.out, HG.out]
  clear HW1
  go_upto_region 5 with (first | (refine HLV.out.mono ?_; rintro e W2 ⟨ol, cl, rfl, hdg, hb2⟩) | fail)
  obtain ⟨q, hq⟩ : ∃ q, W2.heap.size = q := ⟨_, rfl⟩
  obtain ⟨W3, hW3⟩ : ∃ W3, W2.alloc (.cells #[.slice ol n cl] 25) = W3 := ⟨_, rfl⟩
  have hb3 : Below W2.heap.size W2 W3 := by rw [← hW3]; exact new12 _ _
  have hs3 : W3.heap.size = q + 1 := by rw [← hW3, World.size_alloc, hq]
  have hX3 : Boxed W3 q 25 (.slice ol n cl) := by rw [← hW3, ← hq]; exact Boxed.new _ _ _
  obtain ⟨W4, hW4⟩ : ∃ W4, W3.alloc (.cells #[.int .i64 (n : Int)] 3) = W4 := ⟨_, rfl⟩
  have hb4 : Below W3.heap.size W3 W4 := by rw [← hW4]; exact new12 _ _
  have hs4 : W4.heap.size = q + 1 + 1 := by rw [← hW4, World.size_alloc, hs3]
  have hX4 : Boxed W4 (q + 1) 3 (.int .i64 (n : Int)) := by rw [← hW4, ← hs3]; exact Boxed.new _ _ _
  obtain ⟨W5, hW5⟩ : ∃ W5, W4.alloc (.cells #[.int .i64 (i : Int)] 3) = W5 := ⟨_, rfl⟩
  have hb5 : Below W4.heap.size W4 W5 := by rw [← hW5]; exact new12 _ _
  have hs5 : W5.heap.size = q + 1 + 1 + 1 := by rw [← hW5, World.size_alloc, hs4]
  have hX5 : Boxed W5 (q + 1 + 1) 3 (.int .i64 (i : Int)) := by rw [← hW5, ← hs4]; exact Boxed.new _ _ _
  have MT := mturns_any (n : Int) (i : Int) W3
  rw [hW4, hW5, hs3] at MT
  have hb25 := Kit.step (Kit.step hb3 hb4) hb5
  have hB5 := Kit.step (Kit.step HB1.out hb2) hb25
  have hgq : g < q := by
    have := HX1.out.lt
    have := hb2.size
    omega
  have hX15 := boxed_later (boxed_later HX1.out hb2) hb25
  have HNE : Hid (∀ ad, ol = some ad → ad.block ≠ g) := Lib.hid (hdg.ne_box (by rw [HDL.out]; have := HI.out; omega) (boxed_later HX1.out hb2))
  have HQ5 : Hid (Boxed W5 q 25 (.slice ol n cl) ∧ Boxed W5 (q + 1) 3 (.int .i64 (n : Int)) ∧ Boxed W5 (q + 1 + 1) 3 (.int .i64 (i : Int)) ∧ DgIs W5 ol ds cl) := Lib.hid ⟨boxed_later (boxed_later hX3 hb4) hb5, boxed_later hX4 hb5, hX5, hdg.later hb25⟩
  have HI0 : Hid (MkI W5 g [] (.slice none 0 0) W5) := Lib.hid ⟨World.ownsRow_nil _ _ _ _, hX15, Rf.Mut.refl _ _, hX15.lt⟩
  have HV5 := Lib.hid (HV.out.later hB5)
  have HB5 := Lib.hid hB5
  have HW3 := Lib.hid hW3
  have HMT := Lib.hid MT
  have HS5 := Lib.hid hs5
  have HGQ := Lib.hid hgq
  have hclc := hdg.le
  rw [HDL.out] at hclc
  have hclm := hdg.cap
  unfold maxLen at hclm
  have HGW : Hid (w.heap.size ≤ g) := Lib.hid (by have := HB0.out.size; have := HG.out; omega)
  have hW5p : 0 < W5.heap.size := by omega
  rw [hq]
  clear hq hW3 hb3 hs3 hX3 hW4 hb4 hs4 hX4 hW5 hb5 hs5 hX5 MT hb25 hB5 hX15 hb2 hdg hgq
  rw [HW3.out]
  go_wp2_with fail
  refine HMT.out.mono ?_
  rintro e w5 ⟨rfl, rfl⟩
  rename World => W5
  clear HMT HLV HW3
  go_wp2_with fail
  refine Rf.range_toldA (α := Nat × Nat × Bool) (σ := List (Nat × Nat × Bool)) rfl (enters_of Tryd.func45 (by kernel_rfl) rfl) (fun x => #[tnV x]) (fun _ => rfl)
    (fun p X => ∃ v, MkI W5 g (p.map (Da.oth ds)) v X)
    (fun c X => False)
    (fun p x p' X => p' = p ++ [x] ∧ p' <+: Da.trn 0 n i)
    [] (fun p => p = Da.trn 0 n i) ?hI ?hIx ?hV ?h0 ?hseq ?round ?done ?stop
  case hI => exact fun s X X' ⟨v, h⟩ k => ⟨v, h.nc k⟩
  case hIx => exact fun c X X' h k => h
  case hV => exact fun s x s' X X' h k => h
  case h0 => exact ⟨_, HI0.out⟩
  case hseq =>
    intro l B Bx X hnc hi2 hB hk ht
    obtain ⟨v, hi2⟩ := hi2
    have hq5 := HQ5.out
    have hgq := HGQ.out
    refine (turns_seq n i (q + 1) (q + 1 + 1) HI.out (by omega) l (fun p X => (∃ v, MkI W5 g (p.map (Da.oth ds)) v X) ∧ B X) Bx ?_ X (hi2.boxed hq5.2.1 (by omega)) (hi2.boxed hq5.2.2.1 (by omega)) ⟨⟨v, hi2⟩, hB⟩).mono ?_
    · exact fun p x Y hp hY => (ht p x (p ++ [x]) Y hY.1 hY.2 ⟨rfl, hp⟩).mono fun e X' h => h.imp (fun h => ⟨h.1, h.2.1, h.2.2⟩) (fun h => ⟨h.1, h.2⟩)
    · rintro e X' ⟨hv, (⟨h, hB⟩ | hx)⟩
      · exact ⟨hv, .inl ⟨_, rfl, h, hB⟩⟩
      · exact ⟨hv, .inr hx⟩
  case round =>
    rintro l p x p' X Z' To ⟨v, hI⟩ ⟨rfl, hp⟩ hsz HN' HR' HE'
    have hxin := HIN.out x (hp.subset (by simp))
    have hlen9 := hp.length_le
    rw [List.length_append, List.length_singleton, HLEN.out] at hlen9
    obtain ⟨tf, tt, tl⟩ := x
    dsimp only at hxin
    have HXO : Hid ((p ++ [(tf, tt, tl)]).map (Da.oth ds) = p.map (Da.oth ds) ++ [Da.oth ds (tf, tt, tl)]) := Lib.hid (by simp)
    have HPL : Hid ((p.map (Da.oth ds)).length = p.length) := Lib.hid (List.length_map _)
    have hel := Da.oth_length HALL.out (tf, tt, tl)
    have heq : Da.oth ds (tf, tt, tl) = Da.ov ((ds.drop tf).take (tt - tf)) := by unfold Da.oth; rw [List.drop_take]
    obtain ⟨e, he⟩ : ∃ e, Da.oth ds (tf, tt, tl) = e := ⟨_, rfl⟩
    rw [he] at HXO hel heq
    obtain ⟨E, hE⟩ : ∃ E, (bytesV e).toArray = E := ⟨_, rfl⟩
    have hEs : E.size = 32 := by rw [← hE]; simp [hel]
    obtain ⟨D, hD⟩ : ∃ D, tnD (tf, tt, tl) = D := ⟨_, rfl⟩
    have hDs : D.size = 3 := by rw [← hD]; rfl
    have HDS3 : Hid ((Tryd.prog.info? 65).map (·.size) = some D.size) := Lib.hid (by rw [hDs]; kernel_rfl)
    have HDO : Hid (D.all (·.oneCell') = true) := Lib.hid (by rw [← hD]; simp [tnD, Value.oneCell'])
    have HDZ : Hid ((#[.int .i64 0, .int .i64 0, .bool false] : Array Value).size = D.size) := Lib.hid (by rw [hDs]; rfl)
    have HD := Lib.hid hD
    have HE := Lib.hid hE
    have HEL := Lib.hid hel
    have HEQ := Lib.hid heq
    have HESZ := Lib.hid hEs
    have HSZ := Lib.hid hsz
    have HII := Lib.hid hI
    have hpn : p.length ≤ 8 := by omega
    have hft : tf < tt := hxin.2.1
    have htn : tt ≤ n := by omega
    rw [show tnV (tf, tt, tl) = .agg D by unfold tnV; rw [hD]]
    clear hxin hlen9 hp hel heq he hE hEs hD hDs hsz hI
    gi_upto_region 6 with fail
    refine Rf.plain_round (by kernel_rfl) (by rintro ⟨a, w, h⟩; exact h) ?_
    (refine wpList_plain rfl (fun K hK => ?_); go_simp; refine hK _ _ ?_; clear hK K)
    refine wpList_store_row rfl 65 (.tmp 8) (.tmp 21) rfl Z'.heap.size D rfl rfl 65 #[.int .i64 0, .int .i64 0, .bool false] (World.alloc_heap_new Z' _) HDS3.out HDZ.out HDO.out ?_
    refine wpList_nil ?_
    refine ⟨(new12 _ _).trans (below_row (Nat.le_refl _)), fun Y hY hnew hsy => ?_⟩
    rw [HSZ.out]
    obtain ⟨pt, hpt⟩ : ∃ pt, X.heap.size = pt := ⟨_, rfl⟩
    have hY8 : Y.heap[pt]? = some (.cells D 65 (0, 0)) := by
      rw [← hpt, hnew _ (Nat.le_refl _), ← HSZ.out]
      exact setRow_heap _ _ _ _ _ _ (World.alloc_heap_new Z' _)
    rw [hpt]
    have hJ := HII.out.later hY
    obtain ⟨hq5a, hq5b, hq5c, hdg5⟩ := HQ5.out
    have hgq := HGQ.out
    have hbq := hJ.boxed hq5a (by omega)
    have hbg := hJ.box
    have hdgY := hdg5.moved hJ.els (fun _ => HNE.out)
    have hBY := HB5.out.trans (hJ.els.below (n := w.heap.size) (fun k hk e => by have := HGW.out; omega) HB5.out.size)
    have hVY := HV.out.later hBY
    have hptY : pt < Y.heap.size := (Array.getElem?_eq_some_iff.1 hY8).1
    have hd0 : Y.cell? ⟨pt, 0, none⟩ = some (.int .i64 (tf : Int)) := by unfold World.cell?; rw [hY8, ← HD.out]; rfl
    have hd1' : Y.cell? ⟨pt, 1, none⟩ = some (.int .i64 (tt : Int)) := by unfold World.cell?; rw [hY8, ← HD.out]; rfl
    have hlg := hJ.lt
    have hszY := hJ.els.size
    obtain ⟨C, hC⟩ : ∃ C : World → Prop, (fun v : World => ∀ k, k = g ∨ k = q ∨ k = pt → v.heap[k]? = Y.heap[k]?) = C := ⟨_, rfl⟩
    have HC1 : Hid (∀ w, (∀ k, k = g ∨ k = q ∨ k = pt → w.heap[k]? = Y.heap[k]?) → C w) := Lib.hid fun w hw => by rw [← hC]; exact hw
    have HC2 : Hid (∀ w, C w → ∀ k, k = g ∨ k = q ∨ k = pt → w.heap[k]? = Y.heap[k]?) := Lib.hid fun w hw => by rw [← hC] at hw; exact hw
    have HG6 : Hid (∀ w, C w → w.cell? ⟨g, 0, none⟩ = some v) := Lib.hid fun w hw => by rw [World.cell?_of_block (HC2.out w hw g (.inl rfl))]; exact hbg.cell
    have HG7 : Hid (∀ w, C w → w.cell? ⟨q, 0, none⟩ = some (.slice ol n cl)) := Lib.hid fun w hw => by rw [World.cell?_of_block (HC2.out w hw q (.inr (.inl rfl)))]; exact hbq.cell
    have HT0 : Hid (∀ w, C w → w.cell? ⟨pt, 0, none⟩ = some (.int .i64 (tf : Int))) := Lib.hid fun w hw => by rw [World.cell?_of_block (a := ⟨pt, 0, none⟩) (HC2.out w hw pt (.inr (.inr rfl)))]; exact hd0
    have HT1 : Hid (∀ w, C w → w.cell? ⟨pt, 1, none⟩ = some (.int .i64 (tt : Int))) := Lib.hid fun w hw => by rw [World.cell?_of_block (a := ⟨pt, 1, none⟩) (HC2.out w hw pt (.inr (.inr rfl)))]; exact hd1'
    obtain ⟨b1, off1, rfl, hb1lt, _⟩ := hdgY.at_ tf (by rw [HDL.out]; omega)
    have hpart := hdgY.part tf (tt - tf) (by rw [HDL.out]; omega) (cl - tf) (by omega) (by unfold maxLen; omega)
    have hdr : Below Y.heap.size Y Y.drew := Kit.dn' Y 1
    have OV := tover_any ((ds.drop tf).take (tt - tf)) _ (tt - tf) (cl - tf) (by rw [List.length_take, List.length_drop, HDL.out]; omega) Y.drew (hpart.later hdr) (hVY.later hdr) (by rw [List.length_take, List.length_drop, HDL.out]; omega)
    rw [← HEQ.out, HE.out] at OV
    have hC0 : C Y.drew := HC1.out _ fun k hk => rfl
    have HJ := Lib.hid hJ
    have HOV := Lib.hid OV
    have HDR := Lib.hid hdr
    have HY := Lib.hid hY
    have HPT := Lib.hid hptY
    have HXP := Lib.hid hpt
    have hck : ¬ cl = tf := by omega
    have hlt2 : ¬ tt < tf := by omega
    have htc : tt ≤ cl := by omega
    clear hq5a hq5b hq5c hdg5 hgq hbq hbg hdgY hBY hVY hptY hd0 hd1' hlg hszY hC hb1lt hpart hdr OV hJ hY hnew hsy hY8 hpt
    gi_upto_region 7 with fail
    refine Rgt.round C (fun t => t == 10) (by kernel_rfl) (by kernel_rfl) (by rintro ⟨a, w, h⟩; exact h) ?_
    refine Rgt.take (i := 0) (x := v) rfl rfl (by kernel_rfl) (by kernel_rfl) (by kernel_rfl) (by kernel_rfl) (fun _ _ _ h => h) (Or.inl ⟨by kernel_rfl, fun w hw => by have hc := HG6.out w hw; (go_simp <;> with_reducible rfl)⟩) hC0 ?_
    go_simp
    refine Rgt.take (i := 1) (x := .slice (some ⟨b1, off1, none⟩) n cl) rfl rfl (by kernel_rfl) (by kernel_rfl) (by kernel_rfl) (by kernel_rfl) (fun _ _ _ h => h) (Or.inl ⟨by kernel_rfl, fun w hw => by have hc := HG7.out w hw; (go_simp <;> with_reducible rfl)⟩) hC0 ?_
    go_simp
    refine Rgt.take (i := 2) (x := .pointer (some ⟨pt, 0, none⟩)) rfl rfl (by kernel_rfl) (by kernel_rfl) (by kernel_rfl) (by kernel_rfl) (fun _ _ _ h => h) (Or.inl ⟨by kernel_rfl, fun w hw => by (go_simp <;> with_reducible rfl)⟩) hC0 ?_
    go_simp
    refine Rgt.take (i := 3) (x := .int .i64 (tf : Int)) rfl rfl (by kernel_rfl) (by kernel_rfl) (by kernel_rfl) (by kernel_rfl) (fun _ _ _ h => h) (Or.inl ⟨by kernel_rfl, fun w hw => by have hc := HT0.out w hw; (go_simp <;> with_reducible rfl)⟩) hC0 ?_
    go_simp
    refine Rgt.take (i := 4) (x := .pointer (some ⟨pt, 1, none⟩)) rfl rfl (by kernel_rfl) (by kernel_rfl) (by kernel_rfl) (by kernel_rfl) (fun _ _ _ h => h) (Or.inl ⟨by kernel_rfl, fun w hw => by (go_simp <;> with_reducible rfl)⟩) hC0 ?_
    go_simp
    refine Rgt.take (i := 5) (x := .int .i64 (tt : Int)) rfl rfl (by kernel_rfl) (by kernel_rfl) (by kernel_rfl) (by kernel_rfl) (fun _ _ _ h => h) (Or.inl ⟨by kernel_rfl, fun w hw => by have hc := HT1.out w hw; (go_simp <;> with_reducible rfl)⟩) hC0 ?_
    go_simp
    refine Rgt.take (i := 6) (x := .slice (some ⟨b1, off1 + tf * 32, none⟩) (tt - tf) (cl - tf)) rfl rfl (by kernel_rfl) (by kernel_rfl) (by kernel_rfl) (by kernel_rfl) (fun _ _ _ h => h) (Or.inl ⟨by kernel_rfl, fun w hw => by (go_simp <;> with_reducible rfl)⟩) hC0 ?_
    go_simp
    refine Rgt.ready (i := 7) (by kernel_rfl) rfl (by kernel_rfl) (fun K hK => ?_)
    go_simp
    refine HOV.out.mono ?_
    rintro e1 Y3 ⟨rfl, hb3⟩
    have hbY3 := Kit.step HDR.out hb3
    have hC3 : C Y3 := HC1.out _ fun k hk => hbY3.block k (by have := HPT.out; have := HJ.out.els.size; have := HJ.out.lt; have := HS5.out; omega)
    refine hK _ _ hC3 ?_
    clear hK K HOV
    have hbs := dg_slice_run (tS := 25) Tryd.underlying25 dgI_code E HESZ.out Y3
    have hba := new12 Y3 (.cells E 38)
    have hrow : (Y3.alloc (.cells E 38)).rangeAt Y3.heap.size 0 (bytesV e) := by rw [← HE.out]; exact (Arr.made Y3 38 (bytesV e)).rng
    have hbY4 := Kit.step hbY3 hba
    have hJ4 := HJ.out.later hbY4
    obtain ⟨g2, cap2, Y5, hrun, hown2, hgr2, hat⟩ := dg_append_run (tS := 25) Tryd.underlying25 dgI_code 25 _ W5.heap.size v _ _ hJ4.own Y3.heap.size e HEL.out hrow (by rw [HPL.out]; omega) hJ4.els.size
    obtain ⟨hbx, hMk, hKO⟩ := HII.out.push (Kit.step HY.out hbY4) hown2 hgr2
    rw [HPL.out] at hrun hMk hKO
    rw [← HXO.out] at hMk
    have hC4 : C (Y3.alloc (.cells E 38)) := HC1.out _ fun k hk => hbY4.block k (by have := HPT.out; have := HJ.out.els.size; have := HJ.out.lt; have := HS5.out; omega)
    have hC5 : C Y5 := HC1.out _ fun k hk => by
      have hk2 : k < Y.heap.size := by have := HPT.out; have := HJ.out.els.size; have := HJ.out.lt; have := HS5.out; omega
      rw [hgr2.block k (Nat.lt_of_lt_of_le hk2 hbY4.size) ?_]
      · exact hbY4.block k hk2
      · rcases hk with rfl | rfl | rfl
        · exact hJ4.ne hJ4.lt
        · exact hJ4.ne (by have := HS5.out; omega)
        · intro e2
          obtain ⟨_, cur, h2⟩ := own_blk HII.out.own _ e2.symm
          have := (Array.getElem?_eq_some_iff.1 h2).1
          have := HXP.out
          omega
    have hc3' := hbx.cell
    have hf3' := hbx.frozen
    have HRUN := Lib.hid hrun
    have HBS := Lib.hid hbs
    have HFI : Hid (KeepsOthers X (Y5.setCell ⟨g, 0, none⟩ (.slice (some ⟨g2, 0, none⟩) (p.length + 1) cap2)) ∧ ∃ v, MkI W5 g ((p ++ [(tf, tt, tl)]).map (Da.oth ds)) v (Y5.setCell ⟨g, 0, none⟩ (.slice (some ⟨g2, 0, none⟩) (p.length + 1) cap2))) := Lib.hid ⟨hKO, _, hMk⟩
    clear hb3 hbY3 hba hrow hbY4 hJ4 hrun hown2 hgr2 hat hbx hMk hKO hbs hC3
    refine Rgt.ready (i := 8) (by kernel_rfl) rfl (by kernel_rfl) (fun K hK => oper_slice 25 1 _ rfl #[(0, .agg E)] (by first | rfl | simp [Act.eval, Act.put]) _ _ HBS.out (hK _ _ hC4 ?_))
    clear hK K
    refine Rgt.ready (i := 9) (by kernel_rfl) rfl (by kernel_rfl) (fun K hK => oper_append (.tmp 22) (.tmp 30) 25 rfl _ _ rfl rfl _ _ HRUN.out (hK _ _ hC5 ?_))
    clear hK K
    go_simp
    refine Rgt.readyT (i := 10) (by kernel_rfl) rfl rfl (by kernel_rfl) (fun K hK => ?_)
    go_simp
    refine hK _ _ ?_
    clear hK K
    refine Rgt.done (by kernel_rfl) ?_ _
    exact HN'.out _ _ HFI.out.1 HFI.out.2
  case done =>
    rintro D' p X hD' rfl ⟨v, hI⟩ hK'
    have hown := hI.own
    rw [← HPA.out, show ((Da.pa ds i).length) = m from (by rw [HPA.out, List.length_map, HLEN.out])] at hown
    have hc3 := hI.box.cell
    have hk : Below w.heap.size X (X.putObj D' (.deferred none)) := belowK_b (w := w) (Nat.le_refl _) X D' _ _ (by have := HB5.out.size; omega) hK' rfl rfl
    have hown2 : (X.putObj D' (.deferred none)).ownsRow W5.heap.size 38 32 v m (bytesV (Da.pa ds i).flatten) := (Rf.NC.put (B := 0) (.deferred none) (Nat.zero_le _) hK' rfl).owns hown
    obtain ⟨hnn, o', c', rfl, hdg⟩ := own_dg hown2 (Da.pa_all32 HALL.out i)
    clear hnn
    have HDG := Lib.hid hdg
    have HBW := Lib.hid ((HB5.out.trans (hI.els.below (n := w.heap.size) (fun k hk e => by have := HGW.out; omega) HB5.out.size)).trans hk)
    clear hown hk hown2 hdg hI
    go_wp2_with fail
    refine Rf.leaves hK' (results_tmp2 rfl _ _ _) ?_
    exact ⟨o', c', rfl, HDG.out, HBW.out⟩
  case stop => exact fun D c X hD h => h.elim
end Go.Proofs.YtjcmihiajpgnjaaDoor
