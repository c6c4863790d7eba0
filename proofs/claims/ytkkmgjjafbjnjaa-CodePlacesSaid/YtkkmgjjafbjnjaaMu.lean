/- Contract of multiply: a product, looked up. -/
import Derived.Test.YtkkmgjjafbjnjaaAs
import Derived.Test.YtkkmgjjafbjnjaaBytes
namespace Go.Proofs.Ytkkmgjjafbjnjaa
open Go.RowKit
set_option linter.unusedVariables false
attribute [local go_sem] Oper.semAt_some
set_option maxRecDepth 100000 in
set_option maxHeartbeats 1000000 in
theorem multiply_any (p q : List UInt8) (o o2 : Option Addr) (c c2 T : Nat) (C : Array Value) (w : World)
    (hP : RowIs w o (bytesV p) c) (hQ : RowIs w o2 (bytesV q) c2) (hT : TabAt w T C) (hl : p.length + q.length ≤ 1000000) :
    Calls Try.prog 22 #[.pointer (some ⟨T, 0, none⟩), .slice o p.length c, .slice o2 q.length c2] w fun e w' => ∃ g cap, e = .returned (.slice (some ⟨g, 0, none⟩) (tr (mulL p q)).length cap) ∧ w.heap.size ≤ g ∧ Below w.heap.size w w' ∧ RowIs w' (some ⟨g, 0, none⟩) (bytesV (tr (mulL p q))) cap := by
  have h1 := hP.le
  have h2 := hP.cap
  have h3 := hQ.le
  have h4 := hQ.cap
  simp only [bytesV_length] at h1 h3
  unfold maxLen at h2 h4
  have HP := Lib.hid hP
  have HQ := Lib.hid hQ
  have HT := Lib.hid hT
  clear hP hQ hT
  refine Rf.calls_marks Try.func22 rfl ?_
  simp only [Try.ntmps22, List.size_toArray, List.length_cons, List.length_nil, Nat.reduceAdd, Nat.reduceSub, Array.replicate_succ, Array.replicate_zero, List.push_toArray, List.append_toArray, List.nil_append, List.cons_append]
  go_wp2_with fail
  obtain ⟨w0, hw0⟩ : ∃ w0, (w.alloc (.cells #[.pointer (some ⟨T, 0, none⟩)] 39)).alloc (.cells #[.slice o2 q.length c2] 25) = w0 := ⟨_, rfl⟩
  have hb0 : Below w.heap.size w w0 := by rw [← hw0]; exact ((Below.refl _ w).alloc (Nat.le_refl _) _).alloc (by simp) _
  have hx1 : Boxed w0 w.heap.size 39 (.pointer (some ⟨T, 0, none⟩)) := by rw [← hw0]; exact (Boxed.new w _ _).alloc _
  have hx2 : Boxed w0 (w.heap.size + 1) 25 (.slice o2 q.length c2) := by
    rw [← hw0]
    have := Boxed.new (w.alloc (.cells #[.pointer (some ⟨T, 0, none⟩)] 39)) 25 (.slice o2 q.length c2)
    rwa [World.size_alloc] at this
  have hs0 : w0.heap.size = w.heap.size + 2 := by rw [← hw0]; simp
  rw [hw0]
  have HB0 := Lib.hid hb0
  have HX1 := Lib.hid hx1
  have HX2 := Lib.hid hx2
  have hc2 := hx2.cell
  have hf2 := hx2.frozen
  have HW := Lib.hid hw0
  have HP0 := Lib.hid (HP.out.later hb0)
  have HQ0 := Lib.hid (HQ.out.later hb0)
  clear hb0 hx1 hx2 hw0
  refine Code.wp_mono (Q := fun e a W => e = .normal ∧ a = { tmps := #[.pointer (some ⟨T, 0, none⟩), .slice o (tr p).length c, .slice o2 q.length c2, .pointer (some ⟨w.heap.size, 0, none⟩), undef, .pointer (some ⟨w.heap.size + 1, 0, none⟩), .slice none 0 0, undef, undef, undef, .slice o p.length c, .slice o (tr p).length c, .slice o2 q.length c2, .slice o2 (tr q).length c2, undef, undef, undef, undef, undef, undef, undef, undef, undef, undef, undef, undef, undef, undef, undef, undef, undef, undef, undef], defers := [] } ∧ ∃ v, Below w0.heap.size w0 v ∧ W = v.setCell ⟨w.heap.size + 1, 0, none⟩ (.slice o2 (tr q).length c2)) ?rest ?reg
  case reg =>
    refine wp_region_noPanic ?_
    go_region_with (go_at_call 24; refine (cut_any _ _ _ _ (by first | exact HP0.out.later (Below.refl _ _).drew | exact HQ0.out.later (Below.refl _ _).drew | exact (HP0.out.later (Below.refl _ _).drew).later (by assumption) | exact (HQ0.out.later (Below.refl _ _).drew).later (by assumption))).mono ?_; rintro e w' ⟨rfl, hb, hr⟩; have hx' : Boxed w' (w.heap.size + 1) 25 (.slice o2 q.length c2) := (by first | exact boxed_later HX2.out (Below.trans ((Below.refl _ _).drew) hb) | exact boxed_later (by assumption) hb); have hc' := hx'.cell; have hf' := hx'.frozen)
    all_goals first | exact ⟨rfl, rfl, _, Kit.step (Kit.step (Below.refl _ _).drew (by assumption)) (by assumption), rfl⟩ | skip
  case rest =>
    rintro e a W ⟨rfl, rfl, v, hv, rfl⟩
    obtain ⟨w1, hw1⟩ : ∃ w1, v.setCell ⟨w.heap.size + 1, 0, none⟩ (.slice o2 (tr q).length c2) = w1 := ⟨_, rfl⟩
    have hb1 : Below w.heap.size w w1 := by rw [← hw1]; exact (Kit.step HB0.out hv).setCell (p := ⟨w.heap.size + 1, 0, none⟩) (by simp) _
    have hx1 : Boxed w1 w.heap.size 39 (.pointer (some ⟨T, 0, none⟩)) := by rw [← hw1]; exact (boxed_later HX1.out hv).other (by omega) _
    have hx2 : Boxed w1 (w.heap.size + 1) 25 (.slice o2 (tr q).length c2) := by rw [← hw1]; exact (boxed_later HX2.out hv).set _
    have hs1 := hx2.lt
    rw [hw1]
    have HB1 := Lib.hid hb1
    have HX11 := Lib.hid hx1
    have HX21 := Lib.hid hx2
    have hc1 := hx2.cell
    clear hc2 hf2 hw1 hv hb1 hx1 hx2
    have htp := tr_le p
    have htq := tr_le q
    have hR1 := Lib.hid ((HP.out.later HB1.out).take (tl p p.length))
    have hR2 := Lib.hid ((HQ.out.later HB1.out).take (tl q q.length))
    have hT1 := Lib.hid (HT.out.later HB1.out)
    have hbl : o2 = none ∨ True := .inr trivial
    obtain ⟨i0, hi, hz0, hz1, hz2⟩ := info_parts info_u8
    go_wp2_with (at_make; refine wpList_make_full _ rfl _ _ 25 rfl 0 5 i0 (.int .u8 0) 1 Try.underlying25 hi hz0 hz1 _ _ _ _ ((tr p).length + (tr q).length) rfl rfl (by omega) (by omega) (by rw [hz2]; omega) (by unfold maxLen; omega) (Nat.zero_le _) ?_)
    intro w2 hown hgrow
    have hb2 : Below w1.heap.size w1 w2 := (Below.refl _ _).grown hgrow (Nat.le_refl _) (fun k h => by cases h)
    have hbuf : Buf w2 w1.heap.size ((tr p).length + (tr q).length) (part (tr p) (tr q) (tr p).length) := by
      rw [part_start]; exact buf_made hown
    have hs2 : w1.heap.size < w2.heap.size := hbuf.lt
    have HB2 := Lib.hid hb2
    have HBUF := Lib.hid hbuf
    clear hown hgrow hb2 hbuf
    go_wp2_with fail
    refine (terms_any o (tr p).length c _).mono ?_; rintro e w4 ⟨rfl, hw4⟩
    obtain ⟨n, hn⟩ : ∃ n, (tr p).length + (tr q).length = n := ⟨_, rfl⟩
    obtain ⟨g, hg⟩ : ∃ g, w1.heap.size = g := ⟨_, rfl⟩
    have hX7 : Boxed w4 w2.heap.size 25 (.slice (some ⟨g, 0, none⟩) n n) := by rw [hw4, ← hn, ← hg]; exact (Boxed.new w2 _ _).alloc _
    have hb24 : Below w2.heap.size w2 w4 := by rw [hw4]; exact ((Below.refl _ _).alloc (Nat.le_refl _) _).alloc (by simp) _
    have hXt : Boxed w4 (w2.heap.size + 1) 25 (.slice o (tr p).length c) := by
      rw [hw4]
      have := Boxed.new (w2.alloc (.cells #[.slice (some ⟨w1.heap.size, 0, none⟩) ((tr p).length + (tr q).length) ((tr p).length + (tr q).length)] 25)) 25 (.slice o (tr p).length c)
      rwa [World.size_alloc] at this
    have hb14 := Kit.step HB2.out hb24
    have hB4 := Kit.step HB1.out hb14
    have hX1 := boxed_later HX11.out hb14
    have hX2 := boxed_later HX21.out hb14
    have hBuf := HBUF.out.later hb24
    have hP4 := hR1.out.later hb14
    have hQ4 := hR2.out.later hb14
    have hT4 := hT1.out.later hb14
    have hapP := hR1.out.apart (Nat.le_of_eq hg)
    have hapQ := hR2.out.apart (Nat.le_of_eq hg)
    have hTlt : T < w1.heap.size := (Array.getElem?_eq_some_iff.1 hT1.out.block).1
    have hXtl := hXt.lt
    rw [hn] at hBuf
    rw [hg] at hBuf
    have hsz : (w2.alloc (Obj.cells #[Value.slice (some ⟨w1.heap.size, 0, none⟩) ((tr p).length + (tr q).length) ((tr p).length + (tr q).length)] 25)).heap.size = w2.heap.size + 1 := by simp
    rw [hsz]
    clear hs0 HB0 HX1 HX2 HW HP0 HQ0 hbl hi hz0 hz1 hz2 hc1 HB2 HBUF HX11 HX21
    have HX1 := Lib.hid hX1
    have HX2 := Lib.hid hX2
    have HX7 := Lib.hid hX7
    have HXt := Lib.hid hXt
    have HP4 := Lib.hid hP4
    have HQ4 := Lib.hid hQ4
    have HT4 := Lib.hid hT4
    have HBUF := Lib.hid hBuf
    have HB4 := Lib.hid hB4
    have HAP := Lib.hid hapP
    have HAQ := Lib.hid hapQ
    have HW4 := Lib.hid hw4
    clear hX1 hX2 hX7 hXt hP4 hQ4 hT4 hBuf hB4 hapP hapQ hw4 hR1 hR2 hT1 hb14 hb24 hsz HP HQ HT HB1
    have hgw : w.heap.size + 1 < g := by omega
    have hg4 : g < w4.heap.size := by omega
    go_wp2_with fail
    refine Rf.range_told (α := Nat × UInt8) (σ := Nat) rfl (enters_of Try.func28 (by kernel_rfl) rfl) (fun x => #[.int .i64 x.1, .int .u8 (x.2.toNat : Int)]) (fun _ => rfl)
      (fun i X => i ≤ (tr p).length ∧ Buf X g n (part (tr p) (tr q) i) ∧ Bt g w4.heap.size w4 X)
      (fun c X => False)
      (fun s x s' X => s = x.1 + 1 ∧ s' = x.1 ∧ x.1 < (tr p).length ∧ co (tr p) x.1 = x.2)
      (tr p).length (fun s => s = 0) ?hI ?hIx ?hV ?h0 ?hseq ?round ?done ?stop
    case hI => exact fun s X X' h k => ⟨h.1, h.2.1.nc k, h.2.2.trans (Bt.of_nc k (Nat.le_refl _))⟩
    case hIx => exact fun c X X' h k => h
    case hV => exact fun s x s' X X' h k => h
    case h0 => exact ⟨Nat.le_refl _, HBUF.out, Bt.refl _ _ _⟩
    case hseq =>
      intro l B Bx X hnc hi hB hk ht
      refine (walk_any l (fun i X => i ≤ (tr p).length ∧ Buf X g n (part (tr p) (tr q) i) ∧ Bt g w4.heap.size w4 X) B Bx o (tr p).length c (w2.heap.size + 1) X ?_ ?_ ?_ hi hB).mono ?_
      · exact fun i X h => ⟨(h.2.2.boxed HXt.out (by omega)).cell, tr p, rfl, h.2.2.row HP4.out HAP.out⟩
      · rintro i X z' ⟨h1, h2, h3⟩ hlt hr hl h0
        obtain rfl : tr p = z' := RowIs.uniq (h3.row HP4.out HAP.out) hr hl.symm
        exact ⟨by omega, by rw [part_skip _ _ i hlt h0]; exact h2, h3⟩
      · rintro i b X ⟨h1, h2, h3⟩ hB hlt ⟨z', hl, hr, rfl⟩ hb
        obtain rfl : tr p = z' := RowIs.uniq (h3.row HP4.out HAP.out) hr hl.symm
        exact ((ht (i + 1) (i, co (tr p) i) i X ⟨h1, h2, h3⟩ hB ⟨rfl, rfl, hlt, rfl⟩).mono fun e X' h => h.imp (fun h => ⟨h.1, h.2.1, h.2.2⟩) id)
      · rintro e X' ⟨hv, (⟨h, hB⟩ | hx)⟩
        · exact ⟨hv, .inl ⟨0, rfl, h, hB⟩⟩
        · exact ⟨hv, .inr hx⟩
    case round =>
      rintro l s ⟨x, b⟩ s' X Z To ⟨h1, h2, h3⟩ ⟨e1, e2, hx, e3⟩ HN HR HE
      dsimp only at e1 e2 hx e3
      subst e1
      subst e2
      subst e3
      have c1 := (h3.boxed HX1.out (by omega)).cell
      have c2' := (h3.boxed HX2.out (by omega)).cell
      have c7 := (h3.boxed HX7.out (by omega)).cell
      have hmix : Try.prog.follows .mixedOrders = true := by kernel_rfl
      have hns1 : s' < n := by omega
      have hns2 : ¬ n = s' := by omega
      have hnm : n - s' ≤ maxLen := by unfold maxLen; omega
      have hcal := addScaled_any (part (tr p) (tr q) (s' + 1)) (tr q) (co (tr p) s') s' g n T C o2 c2 X.drew (h2.later (Below.refl _ _).drew) ((h3.row HQ4.out HAQ.out).later (Below.refl _ _).drew) ((h3.tab HT4.out (by omega)).later (Below.refl _ _).drew) (by omega) HAQ.out (by simp; omega) (n - s') (n - s') (by omega) (Nat.le_refl _) hnm
      have HCAL := Lib.hid hcal
      have FIN : Hid (∀ W3, Buf W3 g n (mix (part (tr p) (tr q) (s' + 1)) s' (tr q) (co (tr p) s')) → Only g X.drew W3 → KeepsOthers X W3 ∧ s' ≤ (tr p).length ∧ Buf W3 g n (part (tr p) (tr q) s') ∧ Bt g w4.heap.size w4 W3) := Lib.hid fun W3 hb5 ho5 => by
        have ho : Only g X W3 := (Only.of_below (Below.refl _ _).drew).trans ho5
        refine ⟨ho.keeps h2, by omega, ?_, h3.trans (Bt.of_only ho)⟩
        rw [part_mix _ _ _ hx] at hb5
        exact hb5
      clear hcal hnm h2 h3
      gi_wp2
      refine ⟨trivial, ?_⟩
      gi_wp2
      refine Rf.region_round hmix (by kernel_rfl) ?_
      refine wpAnyIn_take (i := 2) (v := .int .i64 (s' : Int)) rfl rfl (by kernel_rfl) (by kernel_rfl) (by kernel_rfl) (fun _ _ _ h => h) ⟨Or.inl ⟨by rfl, fun w => by go_simp⟩, fun _ => rfl⟩ ?_
      refine wpAnyIn_take (i := 5) (v := .int .u8 ((co (tr p) s').toNat : Int)) rfl rfl (by kernel_rfl) (by kernel_rfl) (by kernel_rfl) (fun _ _ _ h => h) ⟨Or.inl ⟨by rfl, fun w => by go_simp⟩, fun _ => rfl⟩ ?_
      refine wpAnyIn_ready (rs := [0, 1, 4]) (by kernel_rfl) (by simp) ?_
      refine AllReadyIn.cons rfl (fun K hK => ?_) ?_
      · go_simp
        refine hK _ _ ?_
        clear hK K
        refine wpAnyIn_ready (rs := [1, 4]) (by kernel_rfl) (by simp) ?_
        refine AllReadyIn.cons rfl (fun K hK => ?_) ?_
        · go_simp
          refine hK _ _ ?_
          clear hK K
          refine wpAnyIn_take (i := 3) (v := .slice (some ⟨g, s', none⟩) (n - s') (n - s')) rfl rfl (by kernel_rfl) (by kernel_rfl) (by kernel_rfl) (fun _ _ _ h => h) ⟨Or.inl ⟨by rfl, fun w => by go_simp; intro hh; exact absurd hh (by omega)⟩, fun _ => rfl⟩ ?_
          refine wpAnyIn_ready (rs := [4]) (by kernel_rfl) (by simp) ?_
          refine AllReadyIn.cons rfl (fun K hK => ?_) ?_
          · go_simp
            refine hK _ _ ?_
            clear hK K
            refine wpAnyIn_ready (rs := [6]) (by kernel_rfl) (by simp) ?_
            refine AllReadyIn.cons rfl (fun K hK => ?_) AllReadyIn.nil
            go_simp
            refine ⟨trivial, rfl, ?_⟩
            refine ((callsIn_wide (n := 0)).2 HCAL.out).mono ?_
            rintro e W3 ⟨⟨v3, rfl⟩, hb5, ho5⟩
            refine hK _ _ ?_
            clear hK K
            refine wpAnyIn_done (by kernel_rfl) ?_ _
            exact HN.out _ _ (FIN.out W3 hb5 ho5).1 (FIN.out W3 hb5 ho5).2
          exact AllReadyIn.nil
        refine AllReadyIn.cons rfl (fun K hK => ?_) ?_
        · go_simp
          refine hK _ _ ?_
          clear hK K
          refine wpAnyIn_ready (rs := [1]) (by kernel_rfl) (by simp) ?_
          refine AllReadyIn.cons rfl (fun K hK => ?_) ?_
          · go_simp
            refine hK _ _ ?_
            clear hK K
            refine wpAnyIn_take (i := 3) (v := .slice (some ⟨g, s', none⟩) (n - s') (n - s')) rfl rfl (by kernel_rfl) (by kernel_rfl) (by kernel_rfl) (fun _ _ _ h => h) ⟨Or.inl ⟨by rfl, fun w => by go_simp; intro hh; exact absurd hh (by omega)⟩, fun _ => rfl⟩ ?_
            refine wpAnyIn_ready (rs := [6]) (by kernel_rfl) (by simp) ?_
            refine AllReadyIn.cons rfl (fun K hK => ?_) AllReadyIn.nil
            go_simp
            refine ⟨trivial, rfl, ?_⟩
            refine ((callsIn_wide (n := 0)).2 HCAL.out).mono ?_
            rintro e W3 ⟨⟨v3, rfl⟩, hb5, ho5⟩
            refine hK _ _ ?_
            clear hK K
            refine wpAnyIn_done (by kernel_rfl) ?_ _
            exact HN.out _ _ (FIN.out W3 hb5 ho5).1 (FIN.out W3 hb5 ho5).2
          exact AllReadyIn.nil
        exact AllReadyIn.nil
      refine AllReadyIn.cons rfl (fun K hK => ?_) ?_
      · go_simp
        refine hK _ _ ?_
        clear hK K
        refine wpAnyIn_take (i := 3) (v := .slice (some ⟨g, s', none⟩) (n - s') (n - s')) rfl rfl (by kernel_rfl) (by kernel_rfl) (by kernel_rfl) (fun _ _ _ h => h) ⟨Or.inl ⟨by rfl, fun w => by go_simp; intro hh; exact absurd hh (by omega)⟩, fun _ => rfl⟩ ?_
        refine wpAnyIn_ready (rs := [0, 4]) (by kernel_rfl) (by simp) ?_
        refine AllReadyIn.cons rfl (fun K hK => ?_) ?_
        · go_simp
          refine hK _ _ ?_
          clear hK K
          refine wpAnyIn_ready (rs := [4]) (by kernel_rfl) (by simp) ?_
          refine AllReadyIn.cons rfl (fun K hK => ?_) ?_
          · go_simp
            refine hK _ _ ?_
            clear hK K
            refine wpAnyIn_ready (rs := [6]) (by kernel_rfl) (by simp) ?_
            refine AllReadyIn.cons rfl (fun K hK => ?_) AllReadyIn.nil
            go_simp
            refine ⟨trivial, rfl, ?_⟩
            refine ((callsIn_wide (n := 0)).2 HCAL.out).mono ?_
            rintro e W3 ⟨⟨v3, rfl⟩, hb5, ho5⟩
            refine hK _ _ ?_
            clear hK K
            refine wpAnyIn_done (by kernel_rfl) ?_ _
            exact HN.out _ _ (FIN.out W3 hb5 ho5).1 (FIN.out W3 hb5 ho5).2
          exact AllReadyIn.nil
        refine AllReadyIn.cons rfl (fun K hK => ?_) ?_
        · go_simp
          refine hK _ _ ?_
          clear hK K
          refine wpAnyIn_ready (rs := [0]) (by kernel_rfl) (by simp) ?_
          refine AllReadyIn.cons rfl (fun K hK => ?_) ?_
          · go_simp
            refine hK _ _ ?_
            clear hK K
            refine wpAnyIn_ready (rs := [6]) (by kernel_rfl) (by simp) ?_
            refine AllReadyIn.cons rfl (fun K hK => ?_) AllReadyIn.nil
            go_simp
            refine ⟨trivial, rfl, ?_⟩
            refine ((callsIn_wide (n := 0)).2 HCAL.out).mono ?_
            rintro e W3 ⟨⟨v3, rfl⟩, hb5, ho5⟩
            refine hK _ _ ?_
            clear hK K
            refine wpAnyIn_done (by kernel_rfl) ?_ _
            exact HN.out _ _ (FIN.out W3 hb5 ho5).1 (FIN.out W3 hb5 ho5).2
          exact AllReadyIn.nil
        exact AllReadyIn.nil
      refine AllReadyIn.cons rfl (fun K hK => ?_) ?_
      · go_simp
        refine hK _ _ ?_
        clear hK K
        refine wpAnyIn_ready (rs := [0, 1]) (by kernel_rfl) (by simp) ?_
        refine AllReadyIn.cons rfl (fun K hK => ?_) ?_
        · go_simp
          refine hK _ _ ?_
          clear hK K
          refine wpAnyIn_ready (rs := [1]) (by kernel_rfl) (by simp) ?_
          refine AllReadyIn.cons rfl (fun K hK => ?_) ?_
          · go_simp
            refine hK _ _ ?_
            clear hK K
            refine wpAnyIn_take (i := 3) (v := .slice (some ⟨g, s', none⟩) (n - s') (n - s')) rfl rfl (by kernel_rfl) (by kernel_rfl) (by kernel_rfl) (fun _ _ _ h => h) ⟨Or.inl ⟨by rfl, fun w => by go_simp; intro hh; exact absurd hh (by omega)⟩, fun _ => rfl⟩ ?_
            refine wpAnyIn_ready (rs := [6]) (by kernel_rfl) (by simp) ?_
            refine AllReadyIn.cons rfl (fun K hK => ?_) AllReadyIn.nil
            go_simp
            refine ⟨trivial, rfl, ?_⟩
            refine ((callsIn_wide (n := 0)).2 HCAL.out).mono ?_
            rintro e W3 ⟨⟨v3, rfl⟩, hb5, ho5⟩
            refine hK _ _ ?_
            clear hK K
            refine wpAnyIn_done (by kernel_rfl) ?_ _
            exact HN.out _ _ (FIN.out W3 hb5 ho5).1 (FIN.out W3 hb5 ho5).2
          exact AllReadyIn.nil
        refine AllReadyIn.cons rfl (fun K hK => ?_) ?_
        · go_simp
          refine hK _ _ ?_
          clear hK K
          refine wpAnyIn_take (i := 3) (v := .slice (some ⟨g, s', none⟩) (n - s') (n - s')) rfl rfl (by kernel_rfl) (by kernel_rfl) (by kernel_rfl) (fun _ _ _ h => h) ⟨Or.inl ⟨by rfl, fun w => by go_simp; intro hh; exact absurd hh (by omega)⟩, fun _ => rfl⟩ ?_
          refine wpAnyIn_ready (rs := [0]) (by kernel_rfl) (by simp) ?_
          refine AllReadyIn.cons rfl (fun K hK => ?_) ?_
          · go_simp
            refine hK _ _ ?_
            clear hK K
            refine wpAnyIn_ready (rs := [6]) (by kernel_rfl) (by simp) ?_
            refine AllReadyIn.cons rfl (fun K hK => ?_) AllReadyIn.nil
            go_simp
            refine ⟨trivial, rfl, ?_⟩
            refine ((callsIn_wide (n := 0)).2 HCAL.out).mono ?_
            rintro e W3 ⟨⟨v3, rfl⟩, hb5, ho5⟩
            refine hK _ _ ?_
            clear hK K
            refine wpAnyIn_done (by kernel_rfl) ?_ _
            exact HN.out _ _ (FIN.out W3 hb5 ho5).1 (FIN.out W3 hb5 ho5).2
          exact AllReadyIn.nil
        exact AllReadyIn.nil
      exact AllReadyIn.nil
    case done =>
      rintro D s X hD rfl ⟨h1, h2, h3⟩ hK
      have c7 := (h3.boxed HX7.out (by omega)).cell
      have hcut := cut_any (some ⟨g, 0, none⟩) (part (tr p) (tr q) 0) n X h2.row
      rw [part_length, hn, part_zero] at hcut
      have HCUT := Lib.hid hcut
      clear hcut
      go_wp2_with fail
      refine HCUT.out.mono ?_; rintro e w5 ⟨rfl, hb5, hr5⟩
      have e5 : tr (mulL (tr p) (tr q)) = tr (mulL p q) := tr_congr (mulL_congr (co_tr p) (co_tr q))
      rw [e5] at hr5
      rw [e5]
      have hB5 : Below w.heap.size w w5 := (HB4.out.trans (h3.below (by omega) (by omega) (by omega))).trans (hb5.mono (by have := h3.size; omega))
      have hK5 : w5.heap[D]? = some (.deferred (some [])) := by rw [hb5.block D (Array.getElem?_eq_some_iff.1 hK).1]; exact hK
      clear HCUT
      go_wp2_with fail
      refine Rf.leaves hK5 (results_tmp rfl _ _ _) ?_
      refine ⟨g, n, rfl, by omega, hB5.trans (belowK_b (w := w) (Nat.le_refl _) w5 D _ _ (by have := HB4.out.size; omega) hK5 rfl rfl), ?_⟩
      exact hr5.nc (Rf.NC.put (B := 0) _ (Nat.zero_le _) hK5 rfl)
    case stop => exact fun D c X hD h => h.elim
end Go.Proofs.Ytkkmgjjafbjnjaa
