/- Contract of multiply: a product, looked up. The iterator over the factors of Roots. Contract of multiplyAll: the product of factors that an iterator hands over. Contracts of value and Eval. Rows that fill their block: made, copied into. Contracts of Add and Mul. -/
import Derived.Test.YtgifbpjmblemhaaGreatDoorTm
import Derived.Test.YtgifbpjmblemhaaGreatDoorSl
import Derived.Laws.CopyOwn
namespace Go.Proofs.YtgifbpjmblemhaaGreatDoor
open Go.RowKit
set_option linter.unusedVariables false
attribute [local go_sem] Oper.semAt_some
set_option maxRecDepth 100000 in
set_option maxHeartbeats 1000000 in
theorem multiply_any (p q : List UInt8) (o o2 : Option Addr) (c c2 T : Nat) (C : Array Value) (w : World)
    (hP : RowIs w o (bytesV p) c) (hQ : RowIs w o2 (bytesV q) c2) (hT : TabAt w T C) (hl : p.length + q.length ≤ 1000000) :
    Calls Tryz.prog 77 #[.pointer (some ⟨T, 0, none⟩), .slice o p.length c, .slice o2 q.length c2] w fun e w' => ∃ g cap, e = .returned (.slice (some ⟨g, 0, none⟩) (tr (mulL p q)).length cap) ∧ w.heap.size ≤ g ∧ Below w.heap.size w w' ∧ RowIs w' (some ⟨g, 0, none⟩) (bytesV (tr (mulL p q))) cap := by
  have h1 := hP.le
  have h2 := hP.cap
  have h3 := hQ.le
  have h4 := hQ.cap
  simp only [bytesV_length] at h1 h3
  unfold maxLen at h2 h4
  have HP := Lib.hid hP
  have HQ := Lib.hid hQ
  have HT := Lib.hid hT
  clear hP hQ hT
  refine Rf.calls_marks Tryz.func77 rfl ?_
  simp only [Tryz.ntmps77, List.size_toArray, List.length_cons, List.length_nil, Nat.reduceAdd, Nat.reduceSub, Array.replicate_succ, Array.replicate_zero, List.push_toArray, List.append_toArray, List.nil_append, List.cons_append]
  go_wp2_with fail
  obtain ⟨w0, hw0⟩ : ∃ w0, (w.alloc (.cells #[.pointer (some ⟨T, 0, none⟩)] 112)).alloc (.cells #[.slice o2 q.length c2] 24) = w0 := ⟨_, rfl⟩
  have hb0 : Below w.heap.size w w0 := by rw [← hw0]; exact ((Below.refl _ w).alloc (Nat.le_refl _) _).alloc (by simp) _
  have hx1 : Boxed w0 w.heap.size 112 (.pointer (some ⟨T, 0, none⟩)) := by rw [← hw0]; exact (Boxed.new w _ _).alloc _
  have hx2 : Boxed w0 (w.heap.size + 1) 24 (.slice o2 q.length c2) := by
    rw [← hw0]
    have := Boxed.new (w.alloc (.cells #[.pointer (some ⟨T, 0, none⟩)] 112)) 24 (.slice o2 q.length c2)
    rwa [World.size_alloc] at this
  have hs0 : w0.heap.size = w.heap.size + 2 := by rw [← hw0]; simp
  rw [hw0]
  have HB0 := Lib.hid hb0
  have HX1 := Lib.hid hx1
  have HX2 := Lib.hid hx2
  have hc2 := hx2.cell
  have hf2 := hx2.frozen
  have HW := Lib.hid hw0
  have HP0 := Lib.hid (HP.out.later hb0)
  have HQ0 := Lib.hid (HQ.out.later hb0)
  clear hb0 hx1 hx2 hw0
  refine Code.wp_mono (Q := fun e a W => e = .normal ∧ a = { tmps := #[.pointer (some ⟨T, 0, none⟩), .slice o (tr p).length c, .slice o2 q.length c2, .pointer (some ⟨w.heap.size, 0, none⟩), undef, .pointer (some ⟨w.heap.size + 1, 0, none⟩), .slice none 0 0, undef, undef, undef, .slice o p.length c, .slice o (tr p).length c, .slice o2 q.length c2, .slice o2 (tr q).length c2, undef, undef, undef, undef, undef, undef, undef, undef, undef, undef, undef, undef, undef, undef, undef, undef, undef, undef, undef], defers := [] } ∧ ∃ v, Below w0.heap.size w0 v ∧ W = v.setCell ⟨w.heap.size + 1, 0, none⟩ (.slice o2 (tr q).length c2)) ?rest ?reg
  case reg =>
    refine wp_region_noPanic ?_
    go_region_with (go_at_call 96; refine (cut_any _ _ _ _ (by first | exact HP0.out.later (Below.refl _ _).drew | exact HQ0.out.later (Below.refl _ _).drew | exact (HP0.out.later (Below.refl _ _).drew).later (by assumption) | exact (HQ0.out.later (Below.refl _ _).drew).later (by assumption))).mono ?_; rintro e w' ⟨rfl, hb, hr⟩; have hx' : Boxed w' (w.heap.size + 1) 24 (.slice o2 q.length c2) := (by first | exact boxed_later HX2.out (Below.trans ((Below.refl _ _).drew) hb) | exact boxed_later (by assumption) hb); have hc' := hx'.cell; have hf' := hx'.frozen)
    all_goals first | exact ⟨rfl, rfl, _, Kit.step (Kit.step (Below.refl _ _).drew (by assumption)) (by assumption), rfl⟩ | skip
  case rest =>
    rintro e a W ⟨rfl, rfl, v, hv, rfl⟩
    obtain ⟨w1, hw1⟩ : ∃ w1, v.setCell ⟨w.heap.size + 1, 0, none⟩ (.slice o2 (tr q).length c2) = w1 := ⟨_, rfl⟩
    have hb1 : Below w.heap.size w w1 := by rw [← hw1]; exact (Kit.step HB0.out hv).setCell (p := ⟨w.heap.size + 1, 0, none⟩) (by simp) _
    have hx1 : Boxed w1 w.heap.size 112 (.pointer (some ⟨T, 0, none⟩)) := by rw [← hw1]; exact (boxed_later HX1.out hv).other (by omega) _
    have hx2 : Boxed w1 (w.heap.size + 1) 24 (.slice o2 (tr q).length c2) := by rw [← hw1]; exact (boxed_later HX2.out hv).set _
    have hs1 := hx2.lt
    rw [hw1]
    have HB1 := Lib.hid hb1
    have HX11 := Lib.hid hx1
    have HX21 := Lib.hid hx2
    have hc1 := hx2.cell
    clear hc2 hf2 hw1 hv hb1 hx1 hx2
    have htp := tr_le p
    have htq := tr_le q
    have hR1 := Lib.hid ((HP.out.later HB1.out).take (tl p p.length))
    have hR2 := Lib.hid ((HQ.out.later HB1.out).take (tl q q.length))
    have hT1 := Lib.hid (HT.out.later HB1.out)
    have hbl : o2 = none ∨ True := .inr trivial
    obtain ⟨i0, hi, hz0, hz1, hz2⟩ := info_parts info_u8
    go_wp2_with (at_make; refine wpList_make_full _ rfl _ _ 24 rfl 0 5 i0 (.int .u8 0) 1 Tryz.underlying24 hi hz0 hz1 _ _ _ _ ((tr p).length + (tr q).length) rfl rfl (by omega) (by omega) (by rw [hz2]; omega) (by unfold maxLen; omega) (Nat.zero_le _) ?_)
    intro w2 hown hgrow
    have hb2 : Below w1.heap.size w1 w2 := (Below.refl _ _).grown hgrow (Nat.le_refl _) (fun k h => by cases h)
    have hbuf : Buf w2 w1.heap.size ((tr p).length + (tr q).length) (part (tr p) (tr q) (tr p).length) := by
      rw [part_start]; exact buf_made hown
    have hs2 : w1.heap.size < w2.heap.size := hbuf.lt
    have HB2 := Lib.hid hb2
    have HBUF := Lib.hid hbuf
    clear hown hgrow hb2 hbuf
    go_wp2_with fail
    refine (terms_any o (tr p).length c _).mono ?_; rintro e w4 ⟨rfl, hw4⟩
    obtain ⟨n, hn⟩ : ∃ n, (tr p).length + (tr q).length = n := ⟨_, rfl⟩
    obtain ⟨g, hg⟩ : ∃ g, w1.heap.size = g := ⟨_, rfl⟩
    have hX7 : Boxed w4 w2.heap.size 24 (.slice (some ⟨g, 0, none⟩) n n) := by rw [hw4, ← hn, ← hg]; exact (Boxed.new w2 _ _).alloc _
    have hb24 : Below w2.heap.size w2 w4 := by rw [hw4]; exact ((Below.refl _ _).alloc (Nat.le_refl _) _).alloc (by simp) _
    have hXt : Boxed w4 (w2.heap.size + 1) 24 (.slice o (tr p).length c) := by
      rw [hw4]
      have := Boxed.new (w2.alloc (.cells #[.slice (some ⟨w1.heap.size, 0, none⟩) ((tr p).length + (tr q).length) ((tr p).length + (tr q).length)] 24)) 24 (.slice o (tr p).length c)
      rwa [World.size_alloc] at this
    have hb14 := Kit.step HB2.out hb24
    have hB4 := Kit.step HB1.out hb14
    have hX1 := boxed_later HX11.out hb14
    have hX2 := boxed_later HX21.out hb14
    have hBuf := HBUF.out.later hb24
    have hP4 := hR1.out.later hb14
    have hQ4 := hR2.out.later hb14
    have hT4 := hT1.out.later hb14
    have hapP := hR1.out.apart (Nat.le_of_eq hg)
    have hapQ := hR2.out.apart (Nat.le_of_eq hg)
    have hTlt : T < w1.heap.size := (Array.getElem?_eq_some_iff.1 hT1.out.block).1
    have hXtl := hXt.lt
    rw [hn] at hBuf
    rw [hg] at hBuf
    have hsz : (w2.alloc (Obj.cells #[Value.slice (some ⟨w1.heap.size, 0, none⟩) ((tr p).length + (tr q).length) ((tr p).length + (tr q).length)] 24)).heap.size = w2.heap.size + 1 := by simp
    rw [hsz]
    clear hs0 HB0 HX1 HX2 HW HP0 HQ0 hbl hi hz0 hz1 hz2 hc1 HB2 HBUF HX11 HX21
    have HX1 := Lib.hid hX1
    have HX2 := Lib.hid hX2
    have HX7 := Lib.hid hX7
    have HXt := Lib.hid hXt
    have HP4 := Lib.hid hP4
    have HQ4 := Lib.hid hQ4
    have HT4 := Lib.hid hT4
    have HBUF := Lib.hid hBuf
    have HB4 := Lib.hid hB4
    have HAP := Lib.hid hapP
    have HAQ := Lib.hid hapQ
    have HW4 := Lib.hid hw4
    clear hX1 hX2 hX7 hXt hP4 hQ4 hT4 hBuf hB4 hapP hapQ hw4 hR1 hR2 hT1 hb14 hb24 hsz HP HQ HT HB1
    have hgw : w.heap.size + 1 < g := by omega
    have hg4 : g < w4.heap.size := by omega
    go_wp2_with fail
    refine Rf.range_told (α := Nat × UInt8) (σ := Nat) rfl (enters_of Tryz.func95 (by kernel_rfl) rfl) (fun x => #[.int .i64 x.1, .int .u8 (x.2.toNat : Int)]) (fun _ => rfl)
      (fun i X => i ≤ (tr p).length ∧ Buf X g n (part (tr p) (tr q) i) ∧ Bt g w4.heap.size w4 X)
      (fun c X => False)
      (fun s x s' X => s = x.1 + 1 ∧ s' = x.1 ∧ x.1 < (tr p).length ∧ co (tr p) x.1 = x.2)
      (tr p).length (fun s => s = 0) ?hI ?hIx ?hV ?h0 ?hseq ?round ?done ?stop
    case hI => exact fun s X X' h k => ⟨h.1, h.2.1.nc k, h.2.2.trans (Bt.of_nc k (Nat.le_refl _))⟩
    case hIx => exact fun c X X' h k => h
    case hV => exact fun s x s' X X' h k => h
    case h0 => exact ⟨Nat.le_refl _, HBUF.out, Bt.refl _ _ _⟩
    case hseq =>
      intro l B Bx X hnc hi hB hk ht
      refine (walk_any l (fun i X => i ≤ (tr p).length ∧ Buf X g n (part (tr p) (tr q) i) ∧ Bt g w4.heap.size w4 X) B Bx o (tr p).length c (w2.heap.size + 1) X ?_ ?_ ?_ hi hB).mono ?_
      · exact fun i X h => ⟨(h.2.2.boxed HXt.out (by omega)).cell, tr p, rfl, h.2.2.row HP4.out HAP.out⟩
      · rintro i X z' ⟨h1, h2, h3⟩ hlt hr hl h0
        obtain rfl : tr p = z' := RowIs.uniq (h3.row HP4.out HAP.out) hr hl.symm
        exact ⟨by omega, by rw [part_skip _ _ i hlt h0]; exact h2, h3⟩
      · rintro i b X ⟨h1, h2, h3⟩ hB hlt ⟨z', hl, hr, rfl⟩ hb
        obtain rfl : tr p = z' := RowIs.uniq (h3.row HP4.out HAP.out) hr hl.symm
        exact ((ht (i + 1) (i, co (tr p) i) i X ⟨h1, h2, h3⟩ hB ⟨rfl, rfl, hlt, rfl⟩).mono fun e X' h => h.imp (fun h => ⟨h.1, h.2.1, h.2.2⟩) id)
      · rintro e X' ⟨hv, (⟨h, hB⟩ | hx)⟩
        · exact ⟨hv, .inl ⟨0, rfl, h, hB⟩⟩
        · exact ⟨hv, .inr hx⟩
    case round =>
      rintro l s ⟨x, b⟩ s' X Z To ⟨h1, h2, h3⟩ ⟨e1, e2, hx, e3⟩ HN HR HE
      dsimp only at e1 e2 hx e3
      subst e1
      subst e2
      subst e3
      have c1 := (h3.boxed HX1.out (by omega)).cell
      have c2' := (h3.boxed HX2.out (by omega)).cell
      have c7 := (h3.boxed HX7.out (by omega)).cell
      have hmix : Tryz.prog.follows .mixedOrders = true := by kernel_rfl
      have hns1 : s' < n := by omega
      have hns2 : ¬ n = s' := by omega
      have hnm : n - s' ≤ maxLen := by unfold maxLen; omega
      have hcal := addScaled_any (part (tr p) (tr q) (s' + 1)) (tr q) (co (tr p) s') s' g n T C o2 c2 X.drew (h2.later (Below.refl _ _).drew) ((h3.row HQ4.out HAQ.out).later (Below.refl _ _).drew) ((h3.tab HT4.out (by omega)).later (Below.refl _ _).drew) (by omega) HAQ.out (by simp; omega) (n - s') (n - s') (by omega) (Nat.le_refl _) hnm
      have HCAL := Lib.hid hcal
      have FIN : Hid (∀ W3, Buf W3 g n (mix (part (tr p) (tr q) (s' + 1)) s' (tr q) (co (tr p) s')) → Only g X.drew W3 → KeepsOthers X W3 ∧ s' ≤ (tr p).length ∧ Buf W3 g n (part (tr p) (tr q) s') ∧ Bt g w4.heap.size w4 W3) := Lib.hid fun W3 hb5 ho5 => by
        have ho : Only g X W3 := (Only.of_below (Below.refl _ _).drew).trans ho5
        refine ⟨ho.keeps h2, by omega, ?_, h3.trans (Bt.of_only ho)⟩
        rw [part_mix _ _ _ hx] at hb5
        exact hb5
      clear hcal hnm h2 h3
      gi_wp2
      refine ⟨trivial, ?_⟩
      gi_wp2
      refine Rf.region_round hmix (by kernel_rfl) ?_
      refine wpAnyIn_take (i := 2) (v := .int .i64 (s' : Int)) rfl rfl (by kernel_rfl) (by kernel_rfl) (by kernel_rfl) (fun _ _ _ h => h) ⟨Or.inl ⟨by rfl, fun w => by go_simp⟩, fun _ => rfl⟩ ?_
      refine wpAnyIn_take (i := 5) (v := .int .u8 ((co (tr p) s').toNat : Int)) rfl rfl (by kernel_rfl) (by kernel_rfl) (by kernel_rfl) (fun _ _ _ h => h) ⟨Or.inl ⟨by rfl, fun w => by go_simp⟩, fun _ => rfl⟩ ?_
      refine wpAnyIn_ready (rs := [0, 1, 4]) (by kernel_rfl) (by simp) ?_
      refine AllReadyIn.cons rfl (fun K hK => ?_) ?_
      · go_simp
        refine hK _ _ ?_
        clear hK K
        refine wpAnyIn_ready (rs := [1, 4]) (by kernel_rfl) (by simp) ?_
        refine AllReadyIn.cons rfl (fun K hK => ?_) ?_
        · go_simp
          refine hK _ _ ?_
          clear hK K
          refine wpAnyIn_take (i := 3) (v := .slice (some ⟨g, s', none⟩) (n - s') (n - s')) rfl rfl (by kernel_rfl) (by kernel_rfl) (by kernel_rfl) (fun _ _ _ h => h) ⟨Or.inl ⟨by rfl, fun w => by go_simp; intro hh; exact absurd hh (by omega)⟩, fun _ => rfl⟩ ?_
          refine wpAnyIn_ready (rs := [4]) (by kernel_rfl) (by simp) ?_
          refine AllReadyIn.cons rfl (fun K hK => ?_) ?_
          · go_simp
            refine hK _ _ ?_
            clear hK K
            refine wpAnyIn_ready (rs := [6]) (by kernel_rfl) (by simp) ?_
            refine AllReadyIn.cons rfl (fun K hK => ?_) AllReadyIn.nil
            go_simp
            refine ⟨trivial, rfl, ?_⟩
            refine ((callsIn_wide (n := 0)).2 HCAL.out).mono ?_
            rintro e W3 ⟨⟨v3, rfl⟩, hb5, ho5⟩
            refine hK _ _ ?_
            clear hK K
            refine wpAnyIn_done (by kernel_rfl) ?_ _
            exact HN.out _ _ (FIN.out W3 hb5 ho5).1 (FIN.out W3 hb5 ho5).2
          exact AllReadyIn.nil
        refine AllReadyIn.cons rfl (fun K hK => ?_) ?_
        · go_simp
          refine hK _ _ ?_
          clear hK K
          refine wpAnyIn_ready (rs := [1]) (by kernel_rfl) (by simp) ?_
          refine AllReadyIn.cons rfl (fun K hK => ?_) ?_
          · go_simp
            refine hK _ _ ?_
            clear hK K
            refine wpAnyIn_take (i := 3) (v := .slice (some ⟨g, s', none⟩) (n - s') (n - s')) rfl rfl (by kernel_rfl) (by kernel_rfl) (by kernel_rfl) (fun _ _ _ h => h) ⟨Or.inl ⟨by rfl, fun w => by go_simp; intro hh; exact absurd hh (by omega)⟩, fun _ => rfl⟩ ?_
            refine wpAnyIn_ready (rs := [6]) (by kernel_rfl) (by simp) ?_
            refine AllReadyIn.cons rfl (fun K hK => ?_) AllReadyIn.nil
            go_simp
            refine ⟨trivial, rfl, ?_⟩
            refine ((callsIn_wide (n := 0)).2 HCAL.out).mono ?_
            rintro e W3 ⟨⟨v3, rfl⟩, hb5, ho5⟩
            refine hK _ _ ?_
            clear hK K
            refine wpAnyIn_done (by kernel_rfl) ?_ _
            exact HN.out _ _ (FIN.out W3 hb5 ho5).1 (FIN.out W3 hb5 ho5).2
          exact AllReadyIn.nil
        exact AllReadyIn.nil
      refine AllReadyIn.cons rfl (fun K hK => ?_) ?_
      · go_simp
        refine hK _ _ ?_
        clear hK K
        refine wpAnyIn_take (i := 3) (v := .slice (some ⟨g, s', none⟩) (n - s') (n - s')) rfl rfl (by kernel_rfl) (by kernel_rfl) (by kernel_rfl) (fun _ _ _ h => h) ⟨Or.inl ⟨by rfl, fun w => by go_simp; intro hh; exact absurd hh (by omega)⟩, fun _ => rfl⟩ ?_
        refine wpAnyIn_ready (rs := [0, 4]) (by kernel_rfl) (by simp) ?_
        refine AllReadyIn.cons rfl (fun K hK => ?_) ?_
        · go_simp
          refine hK _ _ ?_
          clear hK K
          refine wpAnyIn_ready (rs := [4]) (by kernel_rfl) (by simp) ?_
          refine AllReadyIn.cons rfl (fun K hK => ?_) ?_
          · go_simp
            refine hK _ _ ?_
            clear hK K
            refine wpAnyIn_ready (rs := [6]) (by kernel_rfl) (by simp) ?_
            refine AllReadyIn.cons rfl (fun K hK => ?_) AllReadyIn.nil
            go_simp
            refine ⟨trivial, rfl, ?_⟩
            refine ((callsIn_wide (n := 0)).2 HCAL.out).mono ?_
            rintro e W3 ⟨⟨v3, rfl⟩, hb5, ho5⟩
            refine hK _ _ ?_
            clear hK K
            refine wpAnyIn_done (by kernel_rfl) ?_ _
            exact HN.out _ _ (FIN.out W3 hb5 ho5).1 (FIN.out W3 hb5 ho5).2
          exact AllReadyIn.nil
        refine AllReadyIn.cons rfl (fun K hK => ?_) ?_
        · go_simp
          refine hK _ _ ?_
          clear hK K
          refine wpAnyIn_ready (rs := [0]) (by kernel_rfl) (by simp) ?_
          refine AllReadyIn.cons rfl (fun K hK => ?_) ?_
          · go_simp
            refine hK _ _ ?_
            clear hK K
            refine wpAnyIn_ready (rs := [6]) (by kernel_rfl) (by simp) ?_
            refine AllReadyIn.cons rfl (fun K hK => ?_) AllReadyIn.nil
            go_simp
            refine ⟨trivial, rfl, ?_⟩
            refine ((callsIn_wide (n := 0)).2 HCAL.out).mono ?_
            rintro e W3 ⟨⟨v3, rfl⟩, hb5, ho5⟩
            refine hK _ _ ?_
            clear hK K
            refine wpAnyIn_done (by kernel_rfl) ?_ _
            exact HN.out _ _ (FIN.out W3 hb5 ho5).1 (FIN.out W3 hb5 ho5).2
          exact AllReadyIn.nil
        exact AllReadyIn.nil
      refine AllReadyIn.cons rfl (fun K hK => ?_) ?_
      · go_simp
        refine hK _ _ ?_
        clear hK K
        refine wpAnyIn_ready (rs := [0, 1]) (by kernel_rfl) (by simp) ?_
        refine AllReadyIn.cons rfl (fun K hK => ?_) ?_
        · go_simp
          refine hK _ _ ?_
          clear hK K
          refine wpAnyIn_ready (rs := [1]) (by kernel_rfl) (by simp) ?_
          refine AllReadyIn.cons rfl (fun K hK => ?_) ?_
          · go_simp
            refine hK _ _ ?_
            clear hK K
            refine wpAnyIn_take (i := 3) (v := .slice (some ⟨g, s', none⟩) (n - s') (n - s')) rfl rfl (by kernel_rfl) (by kernel_rfl) (by kernel_rfl) (fun _ _ _ h => h) ⟨Or.inl ⟨by rfl, fun w => by go_simp; intro hh; exact absurd hh (by omega)⟩, fun _ => rfl⟩ ?_
            refine wpAnyIn_ready (rs := [6]) (by kernel_rfl) (by simp) ?_
            refine AllReadyIn.cons rfl (fun K hK => ?_) AllReadyIn.nil
            go_simp
            refine ⟨trivial, rfl, ?_⟩
            refine ((callsIn_wide (n := 0)).2 HCAL.out).mono ?_
            rintro e W3 ⟨⟨v3, rfl⟩, hb5, ho5⟩
            refine hK _ _ ?_
            clear hK K
            refine wpAnyIn_done (by kernel_rfl) ?_ _
            exact HN.out _ _ (FIN.out W3 hb5 ho5).1 (FIN.out W3 hb5 ho5).2
          exact AllReadyIn.nil
        refine AllReadyIn.cons rfl (fun K hK => ?_) ?_
        · go_simp
          refine hK _ _ ?_
          clear hK K
          refine wpAnyIn_take (i := 3) (v := .slice (some ⟨g, s', none⟩) (n - s') (n - s')) rfl rfl (by kernel_rfl) (by kernel_rfl) (by kernel_rfl) (fun _ _ _ h => h) ⟨Or.inl ⟨by rfl, fun w => by go_simp; intro hh; exact absurd hh (by omega)⟩, fun _ => rfl⟩ ?_
          refine wpAnyIn_ready (rs := [0]) (by kernel_rfl) (by simp) ?_
          refine AllReadyIn.cons rfl (fun K hK => ?_) ?_
          · go_simp
            refine hK _ _ ?_
            clear hK K
            refine wpAnyIn_ready (rs := [6]) (by kernel_rfl) (by simp) ?_
            refine AllReadyIn.cons rfl (fun K hK => ?_) AllReadyIn.nil
            go_simp
            refine ⟨trivial, rfl, ?_⟩
            refine ((callsIn_wide (n := 0)).2 HCAL.out).mono ?_
            rintro e W3 ⟨⟨v3, rfl⟩, hb5, ho5⟩
            refine hK _ _ ?_
            clear hK K
            refine wpAnyIn_done (by kernel_rfl) ?_ _
            exact HN.out _ _ (FIN.out W3 hb5 ho5).1 (FIN.out W3 hb5 ho5).2
          exact AllReadyIn.nil
        exact AllReadyIn.nil
      exact AllReadyIn.nil
    case done =>
      rintro D s X hD rfl ⟨h1, h2, h3⟩ hK
      have c7 := (h3.boxed HX7.out (by omega)).cell
      have hcut := cut_any (some ⟨g, 0, none⟩) (part (tr p) (tr q) 0) n X h2.row
      rw [part_length, hn, part_zero] at hcut
      have HCUT := Lib.hid hcut
      clear hcut
      go_wp2_with fail
      refine HCUT.out.mono ?_; rintro e w5 ⟨rfl, hb5, hr5⟩
      have e5 : tr (mulL (tr p) (tr q)) = tr (mulL p q) := tr_congr (mulL_congr (co_tr p) (co_tr q))
      rw [e5] at hr5
      rw [e5]
      have hB5 : Below w.heap.size w w5 := (HB4.out.trans (h3.below (by omega) (by omega) (by omega))).trans (hb5.mono (by have := h3.size; omega))
      have hK5 : w5.heap[D]? = some (.deferred (some [])) := by rw [hb5.block D (Array.getElem?_eq_some_iff.1 hK).1]; exact hK
      clear HCUT
      go_wp2_with fail
      refine Rf.leaves hK5 (results_tmp rfl _ _ _) ?_
      refine ⟨g, n, rfl, by omega, hB5.trans (belowK_b (w := w) (Nat.le_refl _) w5 D _ _ (by have := HB4.out.size; omega) hK5 rfl rfl), ?_⟩
      exact hr5.nc (Rf.NC.put (B := 0) _ (Nat.zero_le _) hK5 rfl)
    case stop => exact fun D c X hD h => h.elim
end Go.Proofs.YtgifbpjmblemhaaGreatDoor
namespace Go.Proofs.YtgifbpjmblemhaaGreatDoor
open Go.RowKit
set_option linter.unusedVariables false
attribute [local go_sem] Oper.semAt_some
end Go.Proofs.YtgifbpjmblemhaaGreatDoor
namespace Go.Proofs.YtgifbpjmblemhaaGreatDoor
open Go.RowKit
set_option linter.unusedVariables false
attribute [local go_sem] Oper.semAt_some
/-- the product of the first factors -/
def prodL (F : UInt8 → List UInt8) (z : List UInt8) : Nat → List UInt8
  | 0 => [1]
  | n + 1 => mulL (prodL F z n) (F (co z n))
theorem prodL_length (F : UInt8 → List UInt8) (z : List UInt8) (hF : ∀ x, (F x).length = 2) (n : Nat) : (prodL F z n).length = 1 + 2 * n := by
  induction n with
  | zero => rfl
  | succ n ih => simp [prodL, mulL, ih, hF]; omega
/-- the product so far lies where the variable in block b says -/
def SoFar (b B : Nat) (m : List UInt8) (X : World) : Prop := ∃ g cap, B ≤ g ∧ g ≠ b ∧ Boxed X b 24 (.slice (some ⟨g, 0, none⟩) (tr m).length cap) ∧ RowIs X (some ⟨g, 0, none⟩) (bytesV (tr m)) cap
theorem SoFar.nc {b B B' : Nat} {m : List UInt8} {X X' : World} (h : SoFar b B m X) (k : Rf.NC B' X X') : SoFar b B m X' := by
  obtain ⟨g, cap, h1, h2, h3, h4⟩ := h
  exact ⟨g, cap, h1, h2, k.cells h3, h4.nc k⟩
theorem row_cells {X : World} {A : Nat} {z : List UInt8} (h : X.heap[A]? = some (.cells (bytesV z).toArray 5 (0, 0))) (hm : z.length ≤ maxLen) : RowIs X (some ⟨A, 0, none⟩) (bytesV z) z.length :=
  ⟨by simp, hm, (fun e => by cases e), fun h0 => ⟨A, 0, rfl, (Array.getElem?_eq_some_iff.1 h).1, fun i v hv => by
    rw [Nat.zero_add]
    simp only [World.cell?, h]
    simpa using hv⟩⟩
theorem tr_one : tr [1] = [1] := by decide
/-- what an iterator over factors must do -/
def Factors (k : Nat) (F : UInt8 → List UInt8) (z : List UInt8) (o : Option Addr) (c Q : Nat) : Prop :=
  ∀ (l : Nat) (I : Nat → World → Prop) (B Bx : World → Prop) (w : World)
    (hI : ∀ i X, I i X → Boxed X Q 24 (.slice o z.length c) ∧ RowIs X o (bytesV z) c)
    (hA : ∀ i X ob, I i X → I i (X.alloc ob)) (hBk : ∀ X X', B X → KeepsOthers X X' → B X')
    (hturn : ∀ i A X, I i X → B X → i < z.length → X.heap[A]? = some (.cells (bytesV (F (co z i))).toArray 5 (0, 0)) →
      YieldAt Fence.wide 0 Tryz.prog l #[.slice (some ⟨A, 0, none⟩) 2 2] X fun e X' => (e = .returned (.bool true) ∧ I (i + 1) X' ∧ B X') ∨ (e = .returned (.bool false) ∧ Bx X'))
    (h0 : I 0 w) (hB : B w),
    Calls Tryz.prog k #[.func (.yield l) #[] #[], .pointer (some ⟨Q, 0, none⟩)] w fun e X => (∃ v, e = .returned v) ∧ ((I z.length X ∧ B X) ∨ Bx X)
set_option maxRecDepth 100000 in
set_option maxHeartbeats 1000000 in
theorem all_any (k : Nat) (F : UInt8 → List UInt8) (hF : ∀ x, (F x).length = 2) (z : List UInt8) (o : Option Addr) (c Q : Nat) (w : World)
    (ek : ∀ args w, (callFunc k args).run Tryz.prog w = .ok (.enter k args) w) (hf : Factors k F z o c Q) (hl : z.length ≤ 1000) (hQ : Boxed w Q 24 (.slice o z.length c)) (hR : RowIs w o (bytesV z) c) :
    Calls Tryz.prog 88 #[.func (.func k) #[] #[.pointer (some ⟨Q, 0, none⟩)]] w fun e w' => ∃ g cap, e = .returned (.slice (some ⟨g, 0, none⟩) (tr (prodL F z z.length)).length cap) ∧ w.heap.size ≤ g ∧ Below w.heap.size w w' ∧ RowIs w' (some ⟨g, 0, none⟩) (bytesV (tr (prodL F z z.length))) cap := by
  have HF := Lib.hid hf
  have HEK := Lib.hid ek
  have HFL := Lib.hid hF
  have HQ := Lib.hid hQ
  have HR := Lib.hid hR
  clear hf ek hF hQ hR
  refine Rf.calls_marks Tryz.func88 rfl ?_
  simp only [Tryz.ntmps88, List.size_toArray, List.length_cons, List.length_nil, Nat.reduceAdd, Nat.reduceSub, Array.replicate_succ, Array.replicate_zero, List.push_toArray, List.append_toArray, List.nil_append, List.cons_append]
  go_wp2_with fail
  refine (make_any _).mono ?_; rintro e w1 ⟨n, C, hC, rfl, hw1⟩
  have hT1 : TabAt w1 w.heap.size C := by rw [hw1]; exact TabAt.made hC
  have hb1 : Below w.heap.size w w1 := by rw [hw1]; exact made_below
  have hs1 : w.heap.size < w1.heap.size := (Array.getElem?_eq_some_iff.1 hT1.block).1
  have HT1 := Lib.hid hT1
  have HB1 := Lib.hid hb1
  have HC := Lib.hid hC
  have HW1 := Lib.hid hw1
  clear hC hT1 hb1 hw1
  go_wp2_with fail
  obtain ⟨w2, hw2⟩ : ∃ w2, ((w1.alloc (.cells #[.int .u8 1] 5)).alloc (.cells #[.pointer (some ⟨w.heap.size, 0, none⟩)] 112)).alloc (.cells #[.slice (some ⟨w1.heap.size, 0, none⟩) 1 1] 24) = w2 := ⟨_, rfl⟩
  have hb2 : Below w1.heap.size w1 w2 := by rw [← hw2]; exact (((Below.refl _ _).alloc (Nat.le_refl _) _).alloc (by simp) _).alloc (by simp; omega) _
  have hX3 : Boxed w2 (w1.heap.size + 1) 112 (.pointer (some ⟨w.heap.size, 0, none⟩)) := by
    rw [← hw2]
    have := Boxed.new (w1.alloc (.cells #[.int .u8 1] 5)) 112 (.pointer (some ⟨w.heap.size, 0, none⟩))
    rw [World.size_alloc] at this
    exact this.alloc _
  have hX4 : Boxed w2 (w1.heap.size + 1 + 1) 24 (.slice (some ⟨w1.heap.size, 0, none⟩) 1 1) := by
    rw [← hw2]
    have := Boxed.new ((w1.alloc (.cells #[.int .u8 1] 5)).alloc (.cells #[.pointer (some ⟨w.heap.size, 0, none⟩)] 112)) 24 (.slice (some ⟨w1.heap.size, 0, none⟩) 1 1)
    rw [World.size_alloc, World.size_alloc] at this
    exact this
  have hone : w2.heap[w1.heap.size]? = some (.cells (bytesV [1]).toArray 5 (0, 0)) := by
    rw [← hw2]
    exact ((Boxed.new w1 5 (.int .u8 1)).alloc _).alloc _
  have hs2 := hX4.lt
  have hT2 := HT1.out.later hb2
  have hQ2 := boxed_later HQ.out (Kit.step HB1.out hb2)
  have hR2 := HR.out.later (Kit.step HB1.out hb2)
  have hB2 := Kit.step HB1.out hb2
  have hQlt := HQ.out.lt
  rw [hw2]
  have HX3 := Lib.hid hX3
  have HT2 := Lib.hid hT2
  have HQ2 := Lib.hid hQ2
  have HR2 := Lib.hid hR2
  have HB2 := Lib.hid hB2
  have HAP := Lib.hid (HR.out.apart (g := w1.heap.size + 1 + 1) (by omega))
  have HI0 : Hid (SoFar (w1.heap.size + 1 + 1) w.heap.size (prodL F z 0) w2) := Lib.hid ⟨w1.heap.size, 1, by omega, by omega, by
    show Boxed w2 _ _ (.slice _ (tr [1]).length 1)
    rw [tr_one]; exact hX4, by
    show RowIs w2 _ (bytesV (tr [1])) 1
    rw [tr_one]; exact row_cells hone (by unfold maxLen; simp)⟩
  clear hX3 hT2 hQ2 hR2 hB2 hX4 hone hw2 hb2
  refine Rf.range_told (α := Nat) (σ := Nat) rfl HEK.out (fun x => #[.slice (some ⟨x, 0, none⟩) 2 2]) (fun _ => rfl)
    (fun s X => s ≤ z.length ∧ SoFar (w1.heap.size + 1 + 1) w.heap.size (prodL F z s) X ∧ Bt (w1.heap.size + 1 + 1) w2.heap.size w2 X)
    (fun c X => False)
    (fun s x s' X => s' = s + 1 ∧ s < z.length ∧ X.heap[x]? = some (.cells (bytesV (F (co z s))).toArray 5 (0, 0)))
    0 (fun s => s = z.length) ?hI ?hIx ?hV ?h0 ?hseq ?round ?done ?stop
  case hI => exact fun s X X' h k => ⟨h.1, h.2.1.nc k, h.2.2.trans (Bt.of_nc k (Nat.le_refl _))⟩
  case hIx => exact fun c X X' h k => h
  case hV => exact fun s x s' X X' h k => ⟨h.1, h.2.1, k.cells h.2.2⟩
  case h0 => exact ⟨Nat.zero_le _, HI0.out, Bt.refl _ _ _⟩
  case hseq =>
    intro l B Bx X hnc hi hB hk ht
    refine (HF.out l (fun s X => s ≤ z.length ∧ SoFar (w1.heap.size + 1 + 1) w.heap.size (prodL F z s) X ∧ Bt (w1.heap.size + 1 + 1) w2.heap.size w2 X) B Bx X ?_ ?_ hk ?_ hi hB).mono ?_
    · exact fun i X h => ⟨h.2.2.boxed HQ2.out (by omega), h.2.2.row HR2.out HAP.out⟩
    · exact fun i X ob h => ⟨h.1, h.2.1.nc (Rf.NC.alloc (B := 0) X ob), h.2.2.trans (Bt.of_nc (Rf.NC.alloc (B := w2.heap.size) X ob) (Nat.le_refl _))⟩
    · intro i A X h hB hlt hA
      exact (ht i A (i + 1) X h hB ⟨rfl, hlt, hA⟩).mono fun e X' h => h.imp (fun h => ⟨h.1, h.2.1, h.2.2⟩) id
    · rintro e X' ⟨hv, (⟨h, hB⟩ | hx)⟩
      · exact ⟨hv, .inl ⟨z.length, rfl, h, hB⟩⟩
      · exact ⟨hv, .inr hx⟩
  case round =>
    rintro l s x s' X Z To ⟨h1, ⟨g, cap, h2, h3, h4, h5⟩, h6⟩ ⟨rfl, hlt, hA⟩ HN HR HE
    have hrow := row_cells hA (by rw [HFL.out]; unfold maxLen; omega)
    have htl := tr_le (prodL F z s)
    rw [prodL_length F z HFL.out] at htl
    have hcal := multiply_any (tr (prodL F z s)) (F (co z s)) (some ⟨g, 0, none⟩) (some ⟨x, 0, none⟩) cap (F (co z s)).length w.heap.size C X h5 hrow (h6.tab HT2.out (by omega)) (by rw [HFL.out]; omega)
    have e1 : tr (mulL (tr (prodL F z s)) (F (co z s))) = tr (prodL F z (s + 1)) := tr_congr (mulL_congr (co_tr _) (fun _ => rfl))
    rw [e1, HFL.out] at hcal
    have c3 := (h6.boxed HX3.out (by omega)).cell
    have c4 := h4.cell
    have hblt := h4.lt
    have HCAL := Lib.hid hcal
    have FIN : Hid (∀ g' cap' X1, X.heap.size ≤ g' → Below X.heap.size X X1 → RowIs X1 (some ⟨g', 0, none⟩) (bytesV (tr (prodL F z (s + 1)))) cap' →
        KeepsOthers X (X1.setCell ⟨w1.heap.size + 1 + 1, 0, none⟩ (.slice (some ⟨g', 0, none⟩) (tr (prodL F z (s + 1))).length cap')) ∧ s + 1 ≤ z.length ∧ SoFar (w1.heap.size + 1 + 1) w.heap.size (prodL F z (s + 1)) (X1.setCell ⟨w1.heap.size + 1 + 1, 0, none⟩ (.slice (some ⟨g', 0, none⟩) (tr (prodL F z (s + 1))).length cap')) ∧ Bt (w1.heap.size + 1 + 1) w2.heap.size w2 (X1.setCell ⟨w1.heap.size + 1 + 1, 0, none⟩ (.slice (some ⟨g', 0, none⟩) (tr (prodL F z (s + 1))).length cap'))) := Lib.hid fun g' cap' X1 hg hb hr => by
      have ho : Only (w1.heap.size + 1 + 1) X1 (X1.setCell ⟨w1.heap.size + 1 + 1, 0, none⟩ (.slice (some ⟨g', 0, none⟩) (tr (prodL F z (s + 1))).length cap')) := grownBy_setCell' _ _ _
      refine ⟨(keeps_below hb).trans (KeepsOthers.setCell _ _ _), by omega, ⟨g', cap', by have := HB2.out.size; have := h6.size; omega, by omega, (boxed_later h4 hb).set _, ho.row hr (fun _ p e => by cases e; show g' ≠ _; omega)⟩, h6.trans (Bt.of_only ((Only.of_below hb).trans ho))⟩
    have F4 : Hid (∀ X1, Below X.heap.size X X1 → Boxed X1 (w1.heap.size + 1 + 1) 24 (.slice (some ⟨g, 0, none⟩) (tr (prodL F z s)).length cap)) := Lib.hid fun X1 hb => boxed_later h4 hb
    clear hcal hrow h5 h6 hA htl
    gi_wp2
    refine ⟨trivial, ?_⟩
    gi_wp2
    refine ⟨trivial, rfl, ?_⟩
    refine (CallsIn.inRound l ((callsIn_wide (n := 0)).2 HCAL.out)).mono ?_
    rintro e X1 ⟨g', cap', rfl, hg', hb', hr'⟩
    have b4 := F4.out X1 hb'
    have d4 := b4.cell
    have f4 := b4.frozen
    have FI := Lib.hid (FIN.out g' cap' X1 hg' hb' hr')
    clear b4 hr' HCAL FIN F4
    gi_wp2
    exact HN.out _ _ FI.out.1 FI.out.2
  case done =>
    rintro D s X hD rfl ⟨h1, ⟨g, cap, h2, h3, h4, h5⟩, h6⟩ hK
    have c4 := h4.cell
    have H5 := Lib.hid h5
    have H6 := Lib.hid h6
    clear h5 h6
    go_wp2_with fail
    refine Rf.leaves hK (results_tmp rfl _ _ _) ?_
    refine ⟨g, cap, rfl, h2, (HB2.out.trans (H6.out.below (by omega) (by have := HB2.out.size; omega) HB2.out.size)).trans (belowK_b (w := w) (Nat.le_refl _) X D _ _ (by have := HB2.out.size; omega) hK rfl rfl), ?_⟩
    exact H5.out.nc (Rf.NC.put (B := 0) _ (Nat.zero_le _) hK rfl)
  case stop => exact fun D c X hD h => h.elim
end Go.Proofs.YtgifbpjmblemhaaGreatDoor
namespace Go.Proofs.YtgifbpjmblemhaaGreatDoor
open Go.RowKit
set_option linter.unusedVariables false
def HorAt (z : List UInt8) (x : UInt8) (w : World) (s i : Value) (wr : World) : Prop :=
  ∃ k : Nat, k ≤ z.length ∧ i = .int .i64 ((z.length : Int) - k - 1) ∧ s = .int .u8 ((Gf.horner (co z) x k (z.length - k)).toNat : Int) ∧ Kit.Dn w wr
theorem tmul_dn (x y : UInt8) (B : Nat) (C : Array Value) (v : World) (hT : TabAt v B C) :
    Calls Tryz.prog 68 #[.pointer (some ⟨B, 0, none⟩), .int .u8 (x.toNat : Int), .int .u8 (y.toNat : Int)] v fun e w' => e = .returned (.int .u8 ((Gf.gm x y).toNat : Int)) ∧ ∃ n, w' = v.drewN n := by
  rw [Gf.gm_nat]; exact tmul_any _ _ (UInt8.toNat_lt _) (UInt8.toNat_lt _) B C v hT
theorem add_u8 (x y : UInt8) (v : World) : Calls Tryz.prog 66 #[.int .u8 (x.toNat : Int), .int .u8 (y.toNat : Int)] v fun e w' => e = .returned (.int .u8 ((x ^^^ y).toNat : Int)) ∧ w' = v := by
  rw [UInt8.toNat_xor]; exact (add_any _ _ (UInt8.toNat_lt _) (UInt8.toNat_lt _) v).mono fun _ _ h => ⟨h.1, h.2.symm⟩
set_option maxHeartbeats 1000000 in
theorem value_any (z : List UInt8) (x : UInt8) (T : Nat) (C : Array Value) (o : Option Addr) (c : Nat) (w : World) (hR : RowIs w o (bytesV z) c) (hT : TabAt w T C) :
    Calls Tryz.prog 98 #[.pointer (some ⟨T, 0, none⟩), .slice o z.length c, .int .u8 (x.toNat : Int)] w fun e w' => e = .returned (.int .u8 ((evL z x).toNat : Int)) ∧ Kit.Dn w w' := by
  have h1 := hR.le
  have h2 := hR.cap
  simp only [bytesV_length] at h1
  unfold maxLen at h2
  have HR := Lib.hid hR
  have HT := Lib.hid hT
  clear hR hT
  go_enter Tryz.func98, Tryz.ntmps98
  go_wp2
  go_loopw [7, 8] (fun s i wr => HorAt z x w s i wr) (fun _ i _ => (intOf i + 1).toNat)
  case atStart => exact ⟨0, Nat.zero_le _, by go_num, rfl, Kit.Dn.refl _⟩
  case round =>
    obtain ⟨k, hk, rfl, rfl, hd⟩ := hrel
    have HD := Lib.hid hd
    clear hd
    by_cases hlt : k < z.length
    · obtain ⟨i, hi⟩ : ∃ i, i = z.length - k - 1 := ⟨_, rfl⟩
      have hii : ((z.length : Int) - k - 1) = (i : Int) := by omega
      have hil : i < z.length := by omega
      obtain ⟨b1, off1, rfl, hb1, hcell⟩ := (HR.out.later HD.out.below).cells (by simp; omega)
      have hc1 : wr.cell? ⟨b1, off1 + i, none⟩ = some (.int .u8 ((co z i).toNat : Int)) := hcell i _ (bytesV_get z i hil)
      have HH : Hid (Gf.gm (Gf.horner (co z) x k (z.length - k)) x ^^^ co z i = Gf.horner (co z) x (k + 1) (z.length - (k + 1))) := Lib.hid (by
        rw [Gf.horner, show z.length - (k + 1) + 1 = z.length - k by omega, show z.length - (k + 1) = i by omega])
      generalize Gf.horner (co z) x k (z.length - k) = s at *
      generalize co z i = t at *
      have hx := UInt8.toNat_lt x
      have hs := UInt8.toNat_lt s
      have ht := UInt8.toNat_lt t
      have hu := UInt8.toNat_lt (Gf.gm s x)
      have MC : Hid (∀ n, Calls Tryz.prog 68 #[.pointer (some ⟨T, 0, none⟩), .int .u8 (s.toNat : Int), .int .u8 (x.toNat : Int)] (wr.drewN n) fun e w' => e = .returned (.int .u8 ((Gf.gm s x).toNat : Int)) ∧ ∃ m, w' = (wr.drewN n).drewN m) := Lib.hid fun n => tmul_dn s x T C _ ((HT.out.later HD.out.below).later (Kit.dn' _ _))
      generalize hg : Gf.gm s x = u at *
      have AC : Hid (∀ v : World, Calls Tryz.prog 66 #[.int .u8 (u.toNat : Int), .int .u8 (t.toNat : Int)] v fun e w' => e = .returned (.int .u8 ((u ^^^ t).toNat : Int)) ∧ w' = v) := Lib.hid fun v => add_u8 u t v
      generalize hr : u ^^^ t = r at *
      have HG := Lib.hid hg
      have HE := Lib.hid hr
      clear hcell hg hr
      rw [hii]
      have HI := Lib.hid hii
      have HJ := Lib.hid hi
      clear hi hii
      go_wp2
      go_quiet ((first | (go_at_call 68; exact Calls.quiet_of (MC.out _)) | (go_at_call 66; exact Calls.quiet_of_same (AC.out _))))
      go_wp2
      go_roundw
      case rel =>
        have := HI.out
        exact ⟨k + 1, by omega, by go_num, by rw [← HH.out], HD.out.add _⟩
      case measure => simp [intOf]
    · obtain rfl : k = z.length := by omega
      have HE : Hid (Gf.horner (co z) x z.length (z.length - z.length) = evL z x) := Lib.hid (by
        rw [Nat.sub_self, Gf.horner_ev]; unfold evL; exact Gf.ev_congr fun i _ => by rw [Nat.zero_add])
      rw [show ((z.length : Int) - z.length - 1) = -1 by omega]
      go_wp2
      go_ret
      exact ⟨ret_int (by rw [HE.out]), HD.out⟩
theorem eval_any (z : List UInt8) (x : UInt8) (o : Option Addr) (c : Nat) (w : World) (hR : RowIs w o (bytesV z) c) :
    Calls Tryz.prog 82 #[.slice o z.length c, .int .u8 (x.toNat : Int)] w fun e w' => e = .returned (.int .u8 ((evL z x).toNat : Int)) ∧ Below w.heap.size w w' := by
  have HR := Lib.hid hR
  have hx := UInt8.toNat_lt x
  clear hR
  go_enter Tryz.func82, Tryz.ntmps82
  go_wp2_with fail
  refine (make_any _).mono ?_; rintro e w1 ⟨n, C, hC, rfl, hw1⟩
  have hT1 : TabAt w1 w.heap.size C := by rw [hw1]; exact TabAt.made hC
  have hb1 : Below w.heap.size w w1 := by rw [hw1]; exact made_below
  have HB1 := Lib.hid hb1
  have HV := Lib.hid (value_any z x w.heap.size C o c w1 (HR.out.later hb1) hT1)
  clear hC hT1 hb1 hw1
  go_wp2_with fail
  refine HV.out.mono ?_; rintro e w2 ⟨rfl, hd⟩
  have HB2 := Lib.hid (Kit.step HB1.out hd.below)
  clear hd HV
  go_wp2_with fail
  go_ret
  exact ⟨rfl, HB2.out⟩
end Go.Proofs.YtgifbpjmblemhaaGreatDoor
namespace Go.Proofs.YtgifbpjmblemhaaGreatDoor
open Go.RowKit
set_option linter.unusedVariables false
def Full (W : World) (g : Nat) (ys : List UInt8) : Prop := W.heap[g]? = some (.cells (bytesV ys).toArray 5 (0, 0))
theorem Full.buf {W : World} {g : Nat} {ys : List UInt8} (h : Full W g ys) (hm : ys.length ≤ maxLen) : Buf W g ys.length ys :=
  ⟨by simp, .inr ⟨g, ys.length, _, rfl, Nat.zero_le _, h, Nat.le_refl _, hm, by simp, by rw [Nat.mul_one]; exact List.take_of_length_le (by simp)⟩⟩
theorem Buf.full {W : World} {g n : Nat} {ys : List UInt8} (h : Buf W g n ys) (hn : n = ys.length) : Full W g ys := by
  subst hn
  obtain ⟨hl, hx⟩ := h
  rcases hx with ⟨h, _⟩ | ⟨g', cap', cur, h, _, hh, _, _, hcur, htake⟩
  · cases h
  · injection h with h1 h2 h3
    injection h1 with h1
    injection h1 with h1
    subst h1; subst h3
    unfold Full
    rw [hh]
    have e : cur = (bytesV ys).toArray := by
      apply Array.ext'
      rw [← htake, List.take_of_length_le (by simp [hcur])]
    rw [e]
theorem splice_bytes (ys z : List UInt8) (off : Nat) : splice (bytesV ys) off (bytesV z) = bytesV (splice ys off z) := by
  simp [splice, bytesV]
theorem co_splice (ys z : List UInt8) (off i : Nat) (h : off + z.length ≤ ys.length) : co (splice ys off z) i = if off ≤ i ∧ i < off + z.length then co z (i - off) else co ys i := by
  unfold splice co
  simp only [List.getD_eq_getElem?_getD]
  by_cases h1 : i < off
  · rw [if_neg (by omega), List.getElem?_append_left (by simp; omega), List.getElem?_take_of_lt h1]
  · rw [List.getElem?_append_right (by simp; omega)]
    have e : (ys.take off).length = off := by simp; omega
    rw [e]
    by_cases h2 : i < off + z.length
    · rw [if_pos ⟨by omega, h2⟩, List.getElem?_append_left (by omega)]
    · rw [if_neg (by omega), List.getElem?_append_right (by omega), List.getElem?_drop]
      congr 2; omega
theorem zeros_co (n i : Nat) : co (List.replicate n 0) i = 0 := by
  simp only [co, List.getD_eq_getElem?_getD, List.getElem?_replicate]
  split <;> rfl
end Go.Proofs.YtgifbpjmblemhaaGreatDoor
namespace Go.Proofs.YtgifbpjmblemhaaGreatDoor
open Go.RowKit
set_option linter.unusedVariables false
theorem mul_poly_any (p q : List UInt8) (o o2 : Option Addr) (c c2 : Nat) (w : World) (hP : RowIs w o (bytesV p) c) (hQ : RowIs w o2 (bytesV q) c2) (hl : p.length + q.length ≤ 1000000) :
    Calls Tryz.prog 60 #[.slice o p.length c, .slice o2 q.length c2] w fun e w' => ∃ g cap, e = .returned (.slice (some ⟨g, 0, none⟩) (tr (mulL p q)).length cap) ∧ w.heap.size ≤ g ∧ Below w.heap.size w w' ∧ RowIs w' (some ⟨g, 0, none⟩) (bytesV (tr (mulL p q))) cap := by
  have HP := Lib.hid hP
  have HQ := Lib.hid hQ
  clear hP hQ
  go_enter Tryz.func60, Tryz.ntmps60
  go_wp2_with fail
  refine (make_any _).mono ?_; rintro e w1 ⟨n, C, hC, rfl, hw1⟩
  have hT1 : TabAt w1 w.heap.size C := by rw [hw1]; exact TabAt.made hC
  have hb1 : Below w.heap.size w w1 := by rw [hw1]; exact made_below
  have HB1 := Lib.hid hb1
  have HM := Lib.hid (multiply_any p q o o2 c c2 w.heap.size C w1 (HP.out.later hb1) (HQ.out.later hb1) hT1 hl)
  clear hC hT1 hb1 hw1
  go_wp2_with fail
  refine HM.out.mono ?_; rintro e w2 ⟨g, cap, rfl, hg, hb, hr⟩
  have HB2 := Lib.hid (Kit.step HB1.out hb)
  have HR := Lib.hid hr
  have hg2 := HB1.out.size
  clear hb HM hr
  go_wp2_with fail
  go_ret
  exact ⟨g, cap, rfl, by omega, HB2.out, HR.out⟩
def AddAt (w0 : World) (g n : Nat) (ys q : List UInt8) (i : Value) (wr : World) : Prop :=
  ∃ k : Nat, k ≤ q.length ∧ i = .int .i64 k ∧ Buf wr g n (mix ys 0 (q.take k) 1) ∧ Only g w0 wr
end Go.Proofs.YtgifbpjmblemhaaGreatDoor
