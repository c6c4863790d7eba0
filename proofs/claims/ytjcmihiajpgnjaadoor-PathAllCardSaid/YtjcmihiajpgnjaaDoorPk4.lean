/- The document's Make; the code's, where there is no such leaf; two rows of digests compared. Two rows of digests compared; PathMakes. -/
import Derived.Test.YtjcmihiajpgnjaaDoorPk3
namespace Go.Proofs.YtjcmihiajpgnjaaDoor
open Go.RowKit
set_option linter.unusedVariables false
set_option linter.unusedSimpArgs false
theorem own_base {T : TypeId} {W : World} {b b' sz n : Nat} {v : Value} {xs : List Value} (h : W.ownsRow b T sz v n xs) (hb : b' ≤ b) : W.ownsRow b' T sz v n xs := by
  obtain ⟨h1, h2⟩ := h
  refine ⟨h1, ?_⟩
  rcases h2 with h2 | ⟨g, cap, cur, e, hg, r⟩
  · exact .inl h2
  · exact .inr ⟨g, cap, cur, e, Nat.le_trans hb hg, r⟩
theorem pmake_bad (n c : Nat) (o : Option Addr) (i : Int) (hbad : ¬ (0 ≤ i ∧ i < (n : Int) ∧ (n : Int) ≤ 512)) (A : Nat → Addr) (w : World) (hA : E13 w A) :
    Calls Tryd.prog 10 #[.slice o n c, .int .i64 i] w fun e w' => e = .returned (.tuple #[.slice none 0 0, errP A 1]) ∧ Below w.heap.size w w' := by
  have PL := plen_bad (n : Int) i hbad w
  have hc := hA.c0
  have HPL := Lib.hid PL
  clear PL hA hbad
  go_enter Tryd.func10, Tryd.ntmps10
  go_wp2_with fail
  refine HPL.out.mono ?_
  rintro e w1 ⟨rfl, rfl⟩
  rename World => w
  clear HPL
  go_upto_region 2 with fail
  go_quiet (fail)
  go_wp2_with fail
  go_ret2
  first | exact ⟨rfl, Kit.dn' _ _⟩ | exact ⟨rfl, (Below.refl _ _).drew⟩ | exact ⟨rfl, by assumption⟩
set_option maxRecDepth 100000 in
set_option maxHeartbeats 2000000 in
theorem rmake_any13 : ∀ (n : Nat) (ds : List (List UInt8)) (o : Option Addr) (c i : Nat) (w : World), ds.length = n → i < n → DgIs w o ds c → Rds w → n ≤ 512 →
    Calls Tryd.prog 14 #[.slice o n c, .int .i64 (i : Int)] w fun e w' => ∃ v, e = .returned v ∧ w'.ownsRow w.heap.size 37 32 v (Da.ups n i).length (bytesV (Da.pa ds i).flatten) ∧ Below w.heap.size w w' := by
  intro n
  induction n using Nat.strongRecOn with
  | ind n ih =>
    intro ds o c i w hn hi hR hV h5
    by_cases h : n < 2
    · obtain rfl : n = 1 := by omega
      rw [Da.ups_one i h, Da.pa_one i (by omega)]
      clear ih hR hV
      go_enter Tryd.func14, Tryd.ntmps14
      go_wp2_with fail
      go_ret
      exact ⟨_, rfl, World.ownsRow_nil _ _ _ _, Below.refl _ _⟩
    have hd6 : decide ((n : Int) = 1) = false := decide_eq_false (by omega)
    have hd6' : decide (n = 1) = false := decide_eq_false (by omega)
    have SP := rsplit_any n (by omega) (by omega) w
    obtain ⟨s1, s2, _⟩ := Da.spl_lt (n := n) (by omega)
    have ul := Da.ups_left (n := n) (i := i) (by omega)
    have ur := Da.ups_right (n := n) (i := i) (by omega)
    have pl := Da.pa_left (l := ds) (i := i) (by omega)
    have pr := Da.pa_right (l := ds) (i := i) (by omega)
    rw [hn] at pl pr
    obtain ⟨k, hk⟩ : ∃ k, Da.spl n = k := ⟨_, rfl⟩
    rw [hk] at SP s1 s2 ul ur pl pr
    have HSP := Lib.hid SP
    have hcl := hR.le
    have hca := hR.cap
    rw [hn] at hcl
    unfold maxLen at hca
    have hall := hR.all
    obtain ⟨b1, off1, rfl, hlt1, _⟩ := hR.at_ 0 (by omega)
    have hLk := hR.part 0 k (by omega) c (by omega) (by unfold maxLen; omega)
    rw [Nat.zero_mul, Nat.add_zero, List.drop_zero] at hLk
    have hRk := hR.part k (n - k) (by omega) (c - k) (by omega) (by unfold maxLen; omega)
    rw [List.take_of_length_le (by rw [List.length_drop, hn]; exact Nat.le_refl _)] at hRk
    have hdr : Below w.heap.size w w.drew := Kit.dn' w 1
    have hll : (ds.take k).length = k := by rw [List.length_take]; omega
    have hrl : (ds.drop k).length = n - k := by rw [List.length_drop]; omega
    have hck : ¬ c = k := by omega
    have hkc : k ≤ c := by omega
    have hkn : k ≤ n := by omega
    by_cases hik : i < k
    · have hd7 : decide (i < k) = true := decide_eq_true hik
      have IH := ih k s2 (ds.take k) _ c i w.drew hll hik (hLk.later hdr) (hV.later hdr) (by omega)
      have hel := Da.ov_length (l := ds.drop k) (hall.drop k)
      have hle := Da.ups_nine (n := k) (by omega) i
      have hfl : (Da.pa ds i).flatten = (Da.pa (ds.take k) i).flatten ++ Da.ov (ds.drop k) := by rw [pl hik]; simp
      rw [ul hik, List.length_append, List.length_singleton]
      obtain ⟨u, hu⟩ : ∃ u, (Da.ups k i).length = u := ⟨_, rfl⟩
      rw [hu] at IH hle ⊢
      obtain ⟨e, he⟩ : ∃ e, Da.ov (ds.drop k) = e := ⟨_, rfl⟩
      have OV : ∀ W, Below w.heap.size w W → Calls Tryd.prog 35 #[.slice (some ⟨b1, off1 + k * 32, none⟩) (n - k) (c - k)] W fun e' w' => e' = .returned (.agg (bytesV e).toArray) ∧ Below W.heap.size W w' := fun W hW => by
        have := rover_any (ds.drop k) _ (n - k) (c - k) hrl W (hRk.later hW) (hV.later hW) (by omega)
        rw [he] at this
        exact this
      rw [he] at hel hfl
      obtain ⟨E, hE⟩ : ∃ E, (bytesV e).toArray = E := ⟨_, rfl⟩
      rw [hE] at OV
      have HES := Lib.hid (show E.size = 32 by rw [← hE]; simp [hel])
      have HE := Lib.hid hE
      have HEL := Lib.hid hel
      have HIH := Lib.hid IH
      have HOV := Lib.hid OV
      have HFL := Lib.hid hfl
      have HDR := Lib.hid hdr
      have HK := Lib.hid hik
      clear ih IH SP ul ur pl pr hk hu hik hR hV hLk hRk hdr OV hE hel he hfl hall hn hll hrl hlt1
      go_enter Tryd.func14, Tryd.ntmps14
      go_wp2_with fail
      refine HSP.out.mono ?_
      rintro e0 w1 ⟨rfl, rfl⟩
      rename World => w
      clear HSP
      go_upto_region 5 with fail
      refine Rgt.region (fun _ => True) (fun _ => false) (by kernel_rfl) ?_
      refine Rgt.take (i := 0) (x := .slice (some ⟨b1, off1, none⟩) n c) rfl rfl (by kernel_rfl) (by kernel_rfl) (by kernel_rfl) (by kernel_rfl) (fun _ _ _ h => h) (Or.inl ⟨by kernel_rfl, fun w hw => by (go_simp <;> with_reducible rfl)⟩) trivial ?_
      go_simp
      refine Rgt.take (i := 1) (x := .int .i64 (k : Int)) rfl rfl (by kernel_rfl) (by kernel_rfl) (by kernel_rfl) (by kernel_rfl) (fun _ _ _ h => h) (Or.inl ⟨by kernel_rfl, fun w hw => by (go_simp <;> with_reducible rfl)⟩) trivial ?_
      go_simp
      refine Rgt.take (i := 2) (x := .slice (some ⟨b1, off1, none⟩) k c) rfl rfl (by kernel_rfl) (by kernel_rfl) (by kernel_rfl) (by kernel_rfl) (fun _ _ _ h => h) (Or.inl ⟨by kernel_rfl, fun w hw => by (go_simp <;> with_reducible rfl)⟩) trivial ?_
      go_simp
      refine Rgt.take (i := 3) (x := .int .i64 (i : Int)) rfl rfl (by kernel_rfl) (by kernel_rfl) (by kernel_rfl) (by kernel_rfl) (fun _ _ _ h => h) (Or.inl ⟨by kernel_rfl, fun w hw => by (go_simp <;> with_reducible rfl)⟩) trivial ?_
      go_simp
      refine Rgt.take (i := 5) (x := .slice (some ⟨b1, off1, none⟩) n c) rfl rfl (by kernel_rfl) (by kernel_rfl) (by kernel_rfl) (by kernel_rfl) (fun _ _ _ h => h) (Or.inl ⟨by kernel_rfl, fun w hw => by (go_simp <;> with_reducible rfl)⟩) trivial ?_
      go_simp
      refine Rgt.take (i := 6) (x := .int .i64 (k : Int)) rfl rfl (by kernel_rfl) (by kernel_rfl) (by kernel_rfl) (by kernel_rfl) (fun _ _ _ h => h) (Or.inl ⟨by kernel_rfl, fun w hw => by (go_simp <;> with_reducible rfl)⟩) trivial ?_
      go_simp
      refine Rgt.take (i := 7) (x := .slice (some ⟨b1, off1 + k * 32, none⟩) (n - k) (c - k)) rfl rfl (by kernel_rfl) (by kernel_rfl) (by kernel_rfl) (by kernel_rfl) (fun _ _ _ h => h) (Or.inl ⟨by kernel_rfl, fun w hw => by (go_simp <;> with_reducible rfl)⟩) trivial ?_
      go_simp
      refine Rgt.ready (i := 4) (by kernel_rfl) rfl (by kernel_rfl) (fun K hK => ?_)
      go_simp
      refine HIH.out.mono ?_
      rintro e1 W1 ⟨v1, rfl, hown, hb1⟩
      refine hK _ _ trivial ?_
      clear hK K HIH
      have HBW1 := Lib.hid (Kit.step HDR.out hb1)
      have HOV1 := Lib.hid (HOV.out W1 HBW1.out)
      have HOWN := Lib.hid (own_base hown HDR.out.size)
      clear hown hb1 HOV
      refine Rgt.ready (i := 8) (by kernel_rfl) rfl (by kernel_rfl) (fun K hK => ?_)
      go_simp
      refine HOV1.out.mono ?_
      rintro e2 W2 ⟨rfl, hb2⟩
      refine hK _ _ trivial ?_
      clear hK K HOV1
      have hbs := dg_slice_run (tS := 32) Tryd.underlying32 dgI_doc E HES.out W2
      have hba := new12 W2 (.cells E 37)
      have hrow : (W2.alloc (.cells E 37)).rangeAt W2.heap.size 0 (bytesV e) := by rw [← HE.out]; exact (Arr.made W2 37 (bytesV e)).rng
      have hb3 := Kit.step hb2 hba
      have hbw := Kit.step HBW1.out hb3
      obtain ⟨g2, cap2, W3, hrun, hown3, hgr3, hat⟩ := dg_append_run (tS := 32) Tryd.underlying32 dgI_doc 32 _ w.heap.size v1 u _ (own_later12 HOWN.out hb3) W2.heap.size e HEL.out hrow (by omega) hbw.size
      have hbw3 : Below w.heap.size w W3 := Below.grown hbw hgr3 hbw.size (fun k e => (own_blk (own_later12 HOWN.out hb3) k e).1)
      rw [← bytesV_app, ← HFL.out] at hown3
      have HRUN := Lib.hid hrun
      have HBS := Lib.hid hbs
      have HO3 := Lib.hid hown3
      have HB3 := Lib.hid hbw3
      clear hb2 hbs hba hrow hb3 hbw hrun hown3 hgr3 hat hbw3 HOWN
      refine Rgt.ready (i := 9) (by kernel_rfl) rfl (by kernel_rfl) (fun K hK => oper_slice 32 1 _ rfl #[(0, .agg E)] (by first | rfl | simp [Act.eval, Act.put]) _ _ HBS.out (hK _ _ trivial ?_))
      clear hK K
      refine Rgt.ready (i := 10) (by kernel_rfl) rfl (by kernel_rfl) (fun K hK => oper_append (.tmp 19) (.tmp 24) 32 rfl _ _ rfl rfl _ _ HRUN.out (hK _ _ trivial ?_))
      clear hK K
      go_simp
      refine Rgt.ready (i := 11) (by kernel_rfl) rfl (by kernel_rfl) (fun K hK => ?_)
      go_simp
      refine hK _ _ trivial ?_
      clear hK K
      refine Rgt.done (by kernel_rfl) ?_ _
      go_wp2_with fail
      go_ret
      exact ⟨_, rfl, HO3.out, HB3.out⟩
    · have hd7 : decide (i < k) = false := decide_eq_false hik
      obtain ⟨J, hJ⟩ : ∃ J, i - k = J := ⟨_, rfl⟩
      have hj1 : (i : Int) - (k : Int) = (J : Int) := by omega
      have hj2 : IntKind.i64.wrap (J : Int) = (J : Int) := by rw [IntKind.wrap_i64]; omega
      have IH := ih (n - k) (by omega) (ds.drop k) _ (c - k) J w.drew hrl (by omega) (hRk.later hdr) (hV.later hdr) (by omega)
      have hel := Da.ov_length (l := ds.take k) (hall.take k)
      have hle := Da.ups_nine (n := n - k) (by omega) J
      have hfl : (Da.pa ds i).flatten = (Da.pa (ds.drop k) J).flatten ++ Da.ov (ds.take k) := by rw [pr (by omega), hJ]; simp
      rw [ur (by omega), hJ, List.length_append, List.length_singleton]
      obtain ⟨u, hu⟩ : ∃ u, (Da.ups (n - k) J).length = u := ⟨_, rfl⟩
      rw [hu] at IH hle ⊢
      obtain ⟨e, he⟩ : ∃ e, Da.ov (ds.take k) = e := ⟨_, rfl⟩
      have OV : ∀ W, Below w.heap.size w W → Calls Tryd.prog 35 #[.slice (some ⟨b1, off1, none⟩) k c] W fun e' w' => e' = .returned (.agg (bytesV e).toArray) ∧ Below W.heap.size W w' := fun W hW => by
        have := rover_any (ds.take k) _ k c hll W (hLk.later hW) (hV.later hW) (by omega)
        rw [he] at this
        exact this
      rw [he] at hel hfl
      obtain ⟨E, hE⟩ : ∃ E, (bytesV e).toArray = E := ⟨_, rfl⟩
      rw [hE] at OV
      have HES := Lib.hid (show E.size = 32 by rw [← hE]; simp [hel])
      have HE := Lib.hid hE
      have HEL := Lib.hid hel
      have HIH := Lib.hid IH
      have HOV := Lib.hid OV
      have HFL := Lib.hid hfl
      have HDR := Lib.hid hdr
      have HK := Lib.hid hik
      clear ih IH SP ul ur pl pr hk hu hik hR hV hLk hRk hdr OV hE hel he hfl hall hn hll hrl hlt1 hJ
      go_enter Tryd.func14, Tryd.ntmps14
      go_wp2_with fail
      refine HSP.out.mono ?_
      rintro e0 w1 ⟨rfl, rfl⟩
      rename World => w
      clear HSP
      go_upto_region 6 with fail
      refine Rgt.region (fun _ => True) (fun _ => false) (by kernel_rfl) ?_
      refine Rgt.take (i := 0) (x := .slice (some ⟨b1, off1, none⟩) n c) rfl rfl (by kernel_rfl) (by kernel_rfl) (by kernel_rfl) (by kernel_rfl) (fun _ _ _ h => h) (Or.inl ⟨by kernel_rfl, fun w hw => by (go_simp <;> with_reducible rfl)⟩) trivial ?_
      go_simp
      refine Rgt.take (i := 1) (x := .int .i64 (k : Int)) rfl rfl (by kernel_rfl) (by kernel_rfl) (by kernel_rfl) (by kernel_rfl) (fun _ _ _ h => h) (Or.inl ⟨by kernel_rfl, fun w hw => by (go_simp <;> with_reducible rfl)⟩) trivial ?_
      go_simp
      refine Rgt.take (i := 2) (x := .slice (some ⟨b1, off1 + k * 32, none⟩) (n - k) (c - k)) rfl rfl (by kernel_rfl) (by kernel_rfl) (by kernel_rfl) (by kernel_rfl) (fun _ _ _ h => h) (Or.inl ⟨by kernel_rfl, fun w hw => by (go_simp <;> with_reducible rfl)⟩) trivial ?_
      go_simp
      refine Rgt.take (i := 3) (x := .int .i64 (i : Int)) rfl rfl (by kernel_rfl) (by kernel_rfl) (by kernel_rfl) (by kernel_rfl) (fun _ _ _ h => h) (Or.inl ⟨by kernel_rfl, fun w hw => by (go_simp <;> with_reducible rfl)⟩) trivial ?_
      go_simp
      refine Rgt.take (i := 4) (x := .int .i64 (k : Int)) rfl rfl (by kernel_rfl) (by kernel_rfl) (by kernel_rfl) (by kernel_rfl) (fun _ _ _ h => h) (Or.inl ⟨by kernel_rfl, fun w hw => by (go_simp <;> with_reducible rfl)⟩) trivial ?_
      go_simp
      refine Rgt.take (i := 5) (x := .int .i64 (J : Int)) rfl rfl (by kernel_rfl) (by kernel_rfl) (by kernel_rfl) (by kernel_rfl) (fun _ _ _ h => h) (Or.inl ⟨by kernel_rfl, fun w hw => by (go_simp <;> with_reducible rfl)⟩) trivial ?_
      go_simp
      refine Rgt.take (i := 7) (x := .slice (some ⟨b1, off1, none⟩) n c) rfl rfl (by kernel_rfl) (by kernel_rfl) (by kernel_rfl) (by kernel_rfl) (fun _ _ _ h => h) (Or.inl ⟨by kernel_rfl, fun w hw => by (go_simp <;> with_reducible rfl)⟩) trivial ?_
      go_simp
      refine Rgt.take (i := 8) (x := .int .i64 (k : Int)) rfl rfl (by kernel_rfl) (by kernel_rfl) (by kernel_rfl) (by kernel_rfl) (fun _ _ _ h => h) (Or.inl ⟨by kernel_rfl, fun w hw => by (go_simp <;> with_reducible rfl)⟩) trivial ?_
      go_simp
      refine Rgt.take (i := 9) (x := .slice (some ⟨b1, off1, none⟩) k c) rfl rfl (by kernel_rfl) (by kernel_rfl) (by kernel_rfl) (by kernel_rfl) (fun _ _ _ h => h) (Or.inl ⟨by kernel_rfl, fun w hw => by (go_simp <;> with_reducible rfl)⟩) trivial ?_
      go_simp
      refine Rgt.ready (i := 6) (by kernel_rfl) rfl (by kernel_rfl) (fun K hK => ?_)
      go_simp
      refine HIH.out.mono ?_
      rintro e1 W1 ⟨v1, rfl, hown, hb1⟩
      refine hK _ _ trivial ?_
      clear hK K HIH
      have HBW1 := Lib.hid (Kit.step HDR.out hb1)
      have HOV1 := Lib.hid (HOV.out W1 HBW1.out)
      have HOWN := Lib.hid (own_base hown HDR.out.size)
      clear hown hb1 HOV
      refine Rgt.ready (i := 10) (by kernel_rfl) rfl (by kernel_rfl) (fun K hK => ?_)
      go_simp
      refine HOV1.out.mono ?_
      rintro e2 W2 ⟨rfl, hb2⟩
      refine hK _ _ trivial ?_
      clear hK K HOV1
      have hbs := dg_slice_run (tS := 32) Tryd.underlying32 dgI_doc E HES.out W2
      have hba := new12 W2 (.cells E 37)
      have hrow : (W2.alloc (.cells E 37)).rangeAt W2.heap.size 0 (bytesV e) := by rw [← HE.out]; exact (Arr.made W2 37 (bytesV e)).rng
      have hb3 := Kit.step hb2 hba
      have hbw := Kit.step HBW1.out hb3
      obtain ⟨g2, cap2, W3, hrun, hown3, hgr3, hat⟩ := dg_append_run (tS := 32) Tryd.underlying32 dgI_doc 32 _ w.heap.size v1 u _ (own_later12 HOWN.out hb3) W2.heap.size e HEL.out hrow (by omega) hbw.size
      have hbw3 : Below w.heap.size w W3 := Below.grown hbw hgr3 hbw.size (fun k e => (own_blk (own_later12 HOWN.out hb3) k e).1)
      rw [← bytesV_app, ← HFL.out] at hown3
      have HRUN := Lib.hid hrun
      have HBS := Lib.hid hbs
      have HO3 := Lib.hid hown3
      have HB3 := Lib.hid hbw3
      clear hb2 hbs hba hrow hb3 hbw hrun hown3 hgr3 hat hbw3 HOWN
      refine Rgt.ready (i := 11) (by kernel_rfl) rfl (by kernel_rfl) (fun K hK => oper_slice 32 1 _ rfl #[(0, .agg E)] (by first | rfl | simp [Act.eval, Act.put]) _ _ HBS.out (hK _ _ trivial ?_))
      clear hK K
      refine Rgt.ready (i := 12) (by kernel_rfl) rfl (by kernel_rfl) (fun K hK => oper_append (.tmp 32) (.tmp 37) 32 rfl _ _ rfl rfl _ _ HRUN.out (hK _ _ trivial ?_))
      clear hK K
      go_simp
      refine Rgt.ready (i := 13) (by kernel_rfl) rfl (by kernel_rfl) (fun K hK => ?_)
      go_simp
      refine hK _ _ trivial ?_
      clear hK K
      refine Rgt.done (by kernel_rfl) ?_ _
      go_wp2_with fail
      go_ret
      exact ⟨_, rfl, HO3.out, HB3.out⟩
end Go.Proofs.YtjcmihiajpgnjaaDoor
namespace Go.Proofs.YtjcmihiajpgnjaaDoor
open Go.RowKit
set_option linter.unusedVariables false
set_option linter.unusedSimpArgs false
theorem Er.Errs.t13 {W : World} {A : Nat → Addr} (h : Er.Errs W A) : E13 W A := ⟨h.c0, h.c7, h.c14⟩
/-- a leaf's own path holds -/
theorem Da.chk_own (bs : List (List UInt8)) (n i : Nat) (hn : bs.length = n) (hi : i < n) (h5 : n ≤ 512) : Da.chk13 (Da.mth bs) (n : Int) (i : Int) (bi bs i) (Da.pa (bs.map Da.lf) i) = 0 := by
  have hl := Da.pa_length (bs.map Da.lf) i
  rw [List.length_map, hn] at hl
  have hk : Da.chkF (n : Int) (i : Int) (Da.pa (bs.map Da.lf) i).length = 0 := by
    unfold Da.chkF
    rw [if_pos ⟨by omega, by omega, by omega⟩, if_pos (by rw [hl]; simp)]
  unfold Da.chk13
  rw [if_pos hk]
  have hr := Da.pa_root (bs.map Da.lf) n i (by rw [List.length_map]; exact hn) hi
  rw [bi_lf bs i (by omega)] at hr
  unfold Da.fold13
  rw [if_pos hk, hl]
  rw [show ((n : Int)).toNat = n by omega, show ((i : Int)).toNat = i by omega]
  rw [hr]
  exact if_pos rfl
def SmAt (n : Nat) (w : World) (iv : Value) (wr : World) : Prop := ∃ k : Nat, k ≤ n ∧ iv = .int .i64 (k : Int) ∧ Below w.heap.size w wr
set_option maxRecDepth 100000 in
set_option maxHeartbeats 2000000 in
theorem same_any13 (ds : List (List UInt8)) (o o2 : Option Addr) (n c c2 : Nat) (hn : ds.length = n) (w : World) (h1 : DgIs w o ds c) (h2 : DgIs w o2 ds c2) :
    Calls Tryd.prog 16 #[.slice o n c, .slice o2 n c2] w fun e w' => e = .returned (.bool true) ∧ Below w.heap.size w w' := by
  have hcl := h1.le
  have hca := h1.cap
  have hcl2 := h2.le
  have hca2 := h2.cap
  rw [hn] at hcl hcl2
  unfold maxLen at hca hca2
  have H1 := Lib.hid h1
  have H2 := Lib.hid h2
  have HN := Lib.hid hn
  have hgd := d32_guard
  clear h1 h2 hn
  go_enter Tryd.func16, Tryd.ntmps16
  go_wp2_with fail
  go_loopw [13] (fun iv wr => SmAt n w iv wr) (fun iv _ => n - (intOf iv).toNat)
  case atStart => exact ⟨0, Nat.zero_le _, rfl, Below.refl _ _⟩
  case round =>
    obtain ⟨k, hk, rfl, hb⟩ := hrel
    by_cases hlt : k < n
    · have hr1 := H1.out.later hb
      have hr2 := H2.out.later hb
      obtain ⟨b1, off1, rfl, hb1, hrng1⟩ := hr1.at_ k (by have := HN.out; omega)
      obtain ⟨b2, off2, rfl, hb2, hrng2⟩ := hr2.at_ k (by have := HN.out; omega)
      have hel := hr1.all.at_ (i := k) (by have := HN.out; omega)
      obtain ⟨D, hD⟩ : ∃ D, (bytesV (bi ds k)).toArray = D := ⟨_, rfl⟩
      have hne : ∀ W, (binOp .neq 37 (.agg D) (.agg D)).run Tryd.prog W = .ok (.bool false) W := fun W => by
        have := d32_neq (bi ds k) (bi ds k) hel hel W
        rw [hD, beq_self_eq_true] at this
        exact this
      obtain ⟨C, hC⟩ : ∃ C : World → Prop, (fun v => Below wr.heap.size wr v) = C := ⟨_, rfl⟩
      have HC1 : Hid (∀ v, Below wr.heap.size wr v → C v) := Lib.hid fun v hv => by rw [← hC]; exact hv
      have HC2 : Hid (∀ v, C v → Below wr.heap.size wr v) := Lib.hid fun v hv => by rw [← hC] at hv; exact hv
      have HM1 : Hid (∀ v, C v → v.rangeAt b1 (off1 + k * 32) (bytesV (bi ds k))) := Lib.hid fun v hv => rangeAt_later hrng1 (HC2.out v hv) hb1
      have HM2 : Hid (∀ v, C v → v.rangeAt b2 (off2 + k * 32) (bytesV (bi ds k))) := Lib.hid fun v hv => rangeAt_later hrng2 (HC2.out v hv) hb2
      have HS1 : Hid ((Tryd.prog.info? 38).map (·.size) = some (bytesV (bi ds k)).length) := Lib.hid (by rw [dg_info]; simp [hel])
      have HS2 : Hid ((Tryd.prog.info? 37).map (·.size) = some (bytesV (bi ds k)).length) := Lib.hid (by rw [d32_info]; simp [hel])
      have hC0 : C wr.drew := HC1.out _ (Kit.dn' wr 1)
      have HD := Lib.hid hD
      have HB := Lib.hid hb
      clear hr1 hr2 hb1 hrng1 hb2 hrng2 hel hD hC hb
      go_upto_region 6 with fail
      refine Rgt.region C (fun _ => false) (by kernel_rfl) ?_
      refine Rgt.take (i := 0) (x := .slice (some ⟨b1, off1, none⟩) n c) rfl rfl (by kernel_rfl) (by kernel_rfl) (by kernel_rfl) (by kernel_rfl) (fun _ _ _ h => h) (Or.inl ⟨by kernel_rfl, fun w hw => by (go_simp <;> with_reducible rfl)⟩) hC0 ?_
      go_simp
      refine Rgt.take (i := 1) (x := .int .i64 (k : Int)) rfl rfl (by kernel_rfl) (by kernel_rfl) (by kernel_rfl) (by kernel_rfl) (fun _ _ _ h => h) (Or.inl ⟨by kernel_rfl, fun w hw => by (go_simp <;> with_reducible rfl)⟩) hC0 ?_
      go_simp
      refine Rgt.take (i := 2) (x := .pointer (some ⟨b1, off1 + k * 32, none⟩)) rfl rfl (by kernel_rfl) (by kernel_rfl) (by kernel_rfl) (by kernel_rfl) (fun _ _ _ h => h) (Or.inl ⟨by kernel_rfl, fun w hw => by (go_simp <;> with_reducible rfl)⟩) hC0 ?_
      go_simp
      refine Rgt.take (i := 3) (x := .agg D) rfl rfl (by kernel_rfl) (by kernel_rfl) (by kernel_rfl) (by kernel_rfl) (fun _ _ _ h => h) (Or.inl ⟨by kernel_rfl, fun w hw => by rw [← HD.out]; exact St.exec_load rfl rfl (bytesV (bi ds k)) _ (HM1.out w hw) dg_under rfl HS1.out⟩) hC0 ?_
      go_simp
      refine Rgt.take (i := 4) (x := .slice (some ⟨b2, off2, none⟩) n c2) rfl rfl (by kernel_rfl) (by kernel_rfl) (by kernel_rfl) (by kernel_rfl) (fun _ _ _ h => h) (Or.inl ⟨by kernel_rfl, fun w hw => by (go_simp <;> with_reducible rfl)⟩) hC0 ?_
      go_simp
      refine Rgt.take (i := 5) (x := .int .i64 (k : Int)) rfl rfl (by kernel_rfl) (by kernel_rfl) (by kernel_rfl) (by kernel_rfl) (fun _ _ _ h => h) (Or.inl ⟨by kernel_rfl, fun w hw => by (go_simp <;> with_reducible rfl)⟩) hC0 ?_
      go_simp
      refine Rgt.take (i := 6) (x := .pointer (some ⟨b2, off2 + k * 32, none⟩)) rfl rfl (by kernel_rfl) (by kernel_rfl) (by kernel_rfl) (by kernel_rfl) (fun _ _ _ h => h) (Or.inl ⟨by kernel_rfl, fun w hw => by (go_simp <;> with_reducible rfl)⟩) hC0 ?_
      go_simp
      refine Rgt.take (i := 7) (x := .agg D) rfl rfl (by kernel_rfl) (by kernel_rfl) (by kernel_rfl) (by kernel_rfl) (fun _ _ _ h => h) (Or.inl ⟨by kernel_rfl, fun w hw => by rw [← HD.out]; exact St.exec_load rfl rfl (bytesV (bi ds k)) _ (HM2.out w hw) d32_under rfl HS2.out⟩) hC0 ?_
      go_simp
      refine Rgt.take (i := 8) (x := .bool false) rfl rfl (by kernel_rfl) (by kernel_rfl) (by kernel_rfl) (by kernel_rfl) (fun _ _ _ h => h) (Or.inl ⟨by kernel_rfl, fun w hw => by have hc := hne w; (go_simp <;> with_reducible rfl)⟩) hC0 ?_
      go_simp
      refine Rgt.done (by kernel_rfl) ?_ _
      have HB2 := Lib.hid (Kit.step HB.out (HC2.out _ hC0))
      clear hC0
      go_wp2_with fail
      go_roundw
      case rel => exact ⟨k + 1, by omega, by go_num, HB2.out⟩
      case measure => simp [intOf]; omega
    · obtain rfl : k = n := by omega
      have HB := Lib.hid hb
      clear hb
      go_wp2_with fail
      go_ret
      exact ⟨rfl, HB.out⟩
set_option maxRecDepth 100000 in
set_option maxHeartbeats 4000000 in
theorem pm13_any (bs : List (List UInt8)) (o : Option Addr) (n c : Nat) (hn : bs.length = n) (i m : Int) (hi1 : -9223372036854775808 ≤ i) (hi2 : i ≤ 9223372036854775807) (hm1 : -9223372036854775808 ≤ m) (hm2 : m ≤ 9223372036854775807) (A : Nat → Addr) (w : World) (hR : RbIs w o bs c) (hV : Cds w) (hD : Rds w) (hE : Er.Errs w A) :
    Calls Tryd.prog 3 #[.slice o n c, .int .i64 i, .int .i64 m] w fun e w' => e = .returned (.bool true) ∧ Below w.heap.size w w' := by
  have AL := alive13_any w hV
  have hcl := hR.le.1
  have hca := hR.le.2
  rw [hn] at hcl
  unfold maxLen at hca
  have HAL := Lib.hid AL
  have HR := Lib.hid hR
  have HV := Lib.hid hV
  have HD := Lib.hid hD
  have HE := Lib.hid hE
  have HN := Lib.hid hn
  have hen := eql_nil13
  clear AL hR hV hD hE hn
  go_enter Tryd.func3, Tryd.ntmps3
  go_wp2_with fail
  refine HAL.out.mono ?_
  rintro e W1 ⟨rfl, hb1⟩
  have LG := long_any bs o n c HN.out 40 (by omega) W1 (HR.out.later hb1)
  have HB1 := Lib.hid hb1
  clear HAL hb1
  by_cases hlg : Da.lng bs 40 = true
  · rw [hlg] at LG
    have HLG := Lib.hid LG
    clear LG hlg
    go_wp2_with fail
    refine HLG.out.mono ?_
    rintro e W2 ⟨rfl, rfl⟩
    go_wp2_with fail
    go_ret
    exact ⟨rfl, HB1.out⟩
  have hlg2 : Da.lng bs 40 = false := by simpa using hlg
  obtain ⟨hl40, hl200⟩ := Da.lng_not hlg2
  rw [hlg2] at LG
  rw [HN.out] at hl40
  have HLG := Lib.hid LG
  have HL2 := Lib.hid hl200
  clear LG hlg hlg2 hl200
  go_wp2_with fail
  refine HLG.out.mono ?_
  rintro e W2 ⟨rfl, rfl⟩
  rename World => W1
  clear HLG
  have PL : ∀ W : World, ∃ x : Int, (Calls Tryd.prog 11 #[.int .i64 m, .int .i64 i] W fun e w' => e = .returned (.int .i64 x) ∧ Below W.heap.size W w') ∧ (∀ V, Calls Tryd.prog 12 #[.int .i64 m, .int .i64 i] V fun e w' => e = .returned (.int .i64 x) ∧ w' = V) := fun W => by
    by_cases h : 0 ≤ i ∧ i < m ∧ m ≤ 512
    · have h1 := plen_any m.toNat i.toNat (by omega) (by omega) W
      have h2 := fun V => rlen_any13 m.toNat i.toNat V (by omega) (by omega)
      rw [show ((m.toNat : Nat) : Int) = m by omega, show ((i.toNat : Nat) : Int) = i by omega] at h1 h2
      exact ⟨_, h1, h2⟩
    · exact ⟨-1, (plen_bad m i h W).mono (fun e w' h => ⟨h.1, by rw [h.2]; exact Below.refl _ _⟩), fun V => rlen_bad13 m i h V⟩
  have HPL := Lib.hid PL
  clear PL
  by_cases hin : 0 ≤ i ∧ i < (n : Int)
  · obtain ⟨i, rfl⟩ : ∃ k : Nat, i = (k : Int) := ⟨i.toNat, by omega⟩
    have hin' : i < n := by omega
    have MK := pmake_any bs o n c i HN.out W1 (HR.out.later HB1.out) (HV.out.later HB1.out) hin' (by omega) (Da.len_of HL2.out 800000 (by omega))
    have hlen := Da.pa_length (bs.map Da.lf) i
    rw [List.length_map, HN.out] at hlen
    obtain ⟨u, hu⟩ : ∃ u, (Da.ups n i).length = u := ⟨_, rfl⟩
    have hu9 : u ≤ 9 := by rw [← hu]; exact Da.ups_nine (by omega) i
    have hco := Da.chk_own bs n i HN.out hin' (by omega)
    obtain ⟨ps, hps⟩ : ∃ ps, Da.pa (bs.map Da.lf) i = ps := ⟨_, rfl⟩
    rw [hps] at MK hlen hco
    rw [hu] at MK hlen
    have HCO := Lib.hid hco
    have HMK := Lib.hid MK
    have HPS := Lib.hid hps
    have HU := Lib.hid hu
    have HLEN := Lib.hid hlen
    have HIN := Lib.hid hin
    have hd1 : decide ((i : Int) < 0) = false := decide_eq_false (by omega)
    have hd2 : decide ((i : Int) ≥ (n : Int)) = false := decide_eq_false (by omega)
    have hd3 : decide (n ≤ i) = false := decide_eq_false (by omega)
    clear MK hps hu hlen hco hin
    go_wp2_with fail
    refine HMK.out.mono ?_
    rintro e W2 ⟨o2, c2, rfl, hdg, hb2⟩
    obtain ⟨x, hx1, hx2⟩ := HPL.out W2
    have HX1 := Lib.hid hx1
    have HX2 := Lib.hid hx2
    have HDG := Lib.hid hdg
    have HB2 := Lib.hid (Kit.step HB1.out hb2)
    clear hx1 hx2 hdg hb2 HMK HPL
    go_wp2_with fail
    refine HX1.out.mono ?_
    rintro e W3 ⟨rfl, hb3⟩
    have HDG3 := Lib.hid (HDG.out.later hb3)
    have HB3 := Lib.hid (Kit.step HB2.out hb3)
    clear hb3 HX1
    go_wp2_with fail
    refine (HX2.out W3).mono ?_
    rintro e W4 ⟨rfl, rfl⟩
    rename World => W3
    clear HX2
    have LV := rleaves_any bs o n c HN.out W3 (HR.out.later HB3.out) (HD.out.later HB3.out) (by omega) (Da.len_of HL2.out 90000 (by omega))
    have HLV := Lib.hid LV
    clear LV
    go_wp2_with fail
    refine HLV.out.mono ?_
    rintro e W4 ⟨o4, c4, rfl, hdg4, hb4⟩
    have hB4 := Kit.step HB3.out hb4
    have RM := rmake_any13 n (bs.map Da.lf) o4 c4 i W4 (by rw [List.length_map]; exact HN.out) hin' hdg4 (HD.out.later hB4) (by omega)
    rw [HPS.out, HU.out] at RM
    have HRM := Lib.hid RM
    have HB4 := Lib.hid hB4
    have HDG4 := Lib.hid (HDG3.out.later hb4)
    clear RM hB4 hdg4 hb4 HLV
    go_wp2_with fail
    refine HRM.out.mono ?_
    rintro e W5 ⟨v5, rfl, hown5, hb5⟩
    obtain ⟨hnn5, o5, c5, rfl, hdg5⟩ := own_dg hown5 HDG4.out.all
    clear hnn5
    have HDGA := Lib.hid (HDG4.out.later hb5)
    have HDGB := Lib.hid hdg5
    have HB5 := Lib.hid (Kit.step HB4.out hb5)
    clear hown5 hdg5 hb5 HRM
    have SM : ∀ v, Below W5.heap.size W5 v → Calls Tryd.prog 16 #[.slice o2 u c2, .slice o5 u c5] v fun e w' => e = .returned (.bool true) ∧ Below W5.heap.size W5 w' := fun v hv => (same_any13 ps o2 o5 u c2 c5 HLEN.out v (HDGA.out.later hv) (HDGB.out.later hv)).mono fun e w' h => ⟨h.1, Kit.step hv h.2⟩
    have RT : ∀ v, Below W5.heap.size W5 v → Calls Tryd.prog 18 #[.slice o n c] v fun e w' => e = .returned (.agg (bytesV (Da.mth bs)).toArray) ∧ Below W5.heap.size W5 w' := fun v hv => (rroot_any bs o n c HN.out v ((HR.out.later HB5.out).later hv) ((HD.out.later HB5.out).later hv) (by omega) (Da.len_of HL2.out 90000 (by omega))).mono fun e w' h => ⟨h.1, Kit.step hv h.2⟩
    obtain ⟨bl, offl, pl, ql, rfl, hlbl, hlcell, hlrow⟩ := (HR.out.later HB5.out).cell i (by rw [HN.out]; omega)
    have CK : ∀ v, Below W5.heap.size W5 v → Calls Tryd.prog 17 #[.agg (bytesV (Da.mth bs)).toArray, .int .i64 (n : Int), .int .i64 (i : Int), .slice pl (bi bs i).length ql, .slice o2 u c2] v fun e w' => e = .returned .nilIface ∧ Below W5.heap.size W5 w' := fun v hv => by
      have := pcheck_all (Da.mth bs) (Da.mth_length bs) (bi bs i) pl ql ps o2 c2 (n : Int) (i : Int) (Da.len_of HL2.out 8900 (by omega) i (by rw [HN.out]; omega)) (by rw [HLEN.out]; omega) A v (hlrow.later hv) (HDGA.out.later hv) ((HV.out.later HB5.out).later hv) ((HE.out.later HB5.out).later hv).t13
      rw [HLEN.out, HCO.out] at this
      exact this.mono fun e w' h => ⟨h.1, Kit.step hv h.2⟩
    obtain ⟨RA, hRA⟩ : ∃ RA, (bytesV (Da.mth bs)).toArray = RA := ⟨_, rfl⟩
    rw [hRA] at RT CK
    obtain ⟨ll, hll⟩ : ∃ ll, (bi bs i).length = ll := ⟨_, rfl⟩
    rw [hll] at hlcell CK
    obtain ⟨C, hC⟩ : ∃ C : World → Prop, (fun v => Below W5.heap.size W5 v) = C := ⟨_, rfl⟩
    have HC1 : Hid (∀ v, Below W5.heap.size W5 v → C v) := Lib.hid fun v hv => by rw [← hC]; exact hv
    have HC2 : Hid (∀ v, C v → Below W5.heap.size W5 v) := Lib.hid fun v hv => by rw [← hC] at hv; exact hv
    have HLC : Hid (∀ v, C v → v.cell? ⟨bl, offl + i, none⟩ = some (.slice pl ll ql)) := Lib.hid fun v hv => by rw [(HC2.out v hv).cell (p := ⟨bl, offl + i, none⟩) hlbl]; exact hlcell
    have hC0 : C W5.drew := HC1.out _ (Kit.dn' W5 1)
    have HSM := Lib.hid SM
    have HRT := Lib.hid RT
    have HCK := Lib.hid CK
    clear SM RT CK hRA hll hC hlbl hlcell hlrow
    go_upto_region 11 with fail
    refine Rgt.region C (fun _ => false) (by kernel_rfl) ?_
    refine Rgt.take (i := 0) (x := .nilIface) rfl rfl (by kernel_rfl) (by kernel_rfl) (by kernel_rfl) (by kernel_rfl) (fun _ _ _ h => h) (Or.inl ⟨by kernel_rfl, fun w hw => by (go_simp <;> with_reducible rfl)⟩) hC0 ?_
    go_simp
    refine Rgt.take (i := 1) (x := .bool true) rfl rfl (by kernel_rfl) (by kernel_rfl) (by kernel_rfl) (by kernel_rfl) (fun _ _ _ h => h) (Or.inl ⟨by kernel_rfl, fun w hw => by have hc := hen w; (go_simp <;> with_reducible rfl)⟩) hC0 ?_
    go_simp
    refine Rgt.take (i := 2) (x := .bool true) rfl rfl (by kernel_rfl) (by kernel_rfl) (by kernel_rfl) (by kernel_rfl) (fun _ _ _ h => h) (Or.inl ⟨by kernel_rfl, fun w hw => by (go_simp <;> with_reducible rfl)⟩) hC0 ?_
    go_simp
    refine Rgt.take (i := 3) (x := .slice o2 u c2) rfl rfl (by kernel_rfl) (by kernel_rfl) (by kernel_rfl) (by kernel_rfl) (fun _ _ _ h => h) (Or.inl ⟨by kernel_rfl, fun w hw => by (go_simp <;> with_reducible rfl)⟩) hC0 ?_
    go_simp
    refine Rgt.take (i := 4) (x := .slice o5 u c5) rfl rfl (by kernel_rfl) (by kernel_rfl) (by kernel_rfl) (by kernel_rfl) (fun _ _ _ h => h) (Or.inl ⟨by kernel_rfl, fun w hw => by (go_simp <;> with_reducible rfl)⟩) hC0 ?_
    go_simp
    refine Rgt.ready (i := 5) (by kernel_rfl) rfl (by kernel_rfl) (fun K hK => ?_)
    go_simp
    refine (HSM.out _ (HC2.out _ hC0)).mono ?_
    rintro e Y1 ⟨rfl, hb⟩
    have hC1 := HC1.out _ hb
    clear hb
    refine hK _ _ hC1 ?_
    clear hK K HSM hC0
    rename C _ => hC0
    refine Rgt.take (i := 6) (x := .bool true) rfl rfl (by kernel_rfl) (by kernel_rfl) (by kernel_rfl) (by kernel_rfl) (fun _ _ _ h => h) (Or.inl ⟨by kernel_rfl, fun w hw => by (go_simp <;> with_reducible rfl)⟩) hC0 ?_
    go_simp
    refine Rgt.take (i := 7) (x := .bool true) rfl rfl (by kernel_rfl) (by kernel_rfl) (by kernel_rfl) (by kernel_rfl) (fun _ _ _ h => h) (Or.inl ⟨by kernel_rfl, fun w hw => by (go_simp <;> with_reducible rfl)⟩) hC0 ?_
    go_simp
    refine Rgt.take (i := 8) (x := .slice (some ⟨bl, offl, none⟩) n c) rfl rfl (by kernel_rfl) (by kernel_rfl) (by kernel_rfl) (by kernel_rfl) (fun _ _ _ h => h) (Or.inl ⟨by kernel_rfl, fun w hw => by (go_simp <;> with_reducible rfl)⟩) hC0 ?_
    go_simp
    refine Rgt.take (i := 10) (x := .slice (some ⟨bl, offl, none⟩) n c) rfl rfl (by kernel_rfl) (by kernel_rfl) (by kernel_rfl) (by kernel_rfl) (fun _ _ _ h => h) (Or.inl ⟨by kernel_rfl, fun w hw => by (go_simp <;> with_reducible rfl)⟩) hC0 ?_
    go_simp
    refine Rgt.take (i := 11) (x := .int .i64 (n : Int)) rfl rfl (by kernel_rfl) (by kernel_rfl) (by kernel_rfl) (by kernel_rfl) (fun _ _ _ h => h) (Or.inl ⟨by kernel_rfl, fun w hw => by (go_simp <;> with_reducible rfl)⟩) hC0 ?_
    go_simp
    refine Rgt.take (i := 12) (x := .int .i64 (i : Int)) rfl rfl (by kernel_rfl) (by kernel_rfl) (by kernel_rfl) (by kernel_rfl) (fun _ _ _ h => h) (Or.inl ⟨by kernel_rfl, fun w hw => by (go_simp <;> with_reducible rfl)⟩) hC0 ?_
    go_simp
    refine Rgt.take (i := 13) (x := .slice (some ⟨bl, offl, none⟩) n c) rfl rfl (by kernel_rfl) (by kernel_rfl) (by kernel_rfl) (by kernel_rfl) (fun _ _ _ h => h) (Or.inl ⟨by kernel_rfl, fun w hw => by (go_simp <;> with_reducible rfl)⟩) hC0 ?_
    go_simp
    refine Rgt.take (i := 14) (x := .int .i64 (i : Int)) rfl rfl (by kernel_rfl) (by kernel_rfl) (by kernel_rfl) (by kernel_rfl) (fun _ _ _ h => h) (Or.inl ⟨by kernel_rfl, fun w hw => by (go_simp <;> with_reducible rfl)⟩) hC0 ?_
    go_simp
    refine Rgt.take (i := 15) (x := .pointer (some ⟨bl, offl + i, none⟩)) rfl rfl (by kernel_rfl) (by kernel_rfl) (by kernel_rfl) (by kernel_rfl) (fun _ _ _ h => h) (Or.inl ⟨by kernel_rfl, fun w hw => by (go_simp <;> with_reducible rfl)⟩) hC0 ?_
    go_simp
    refine Rgt.take (i := 16) (x := .slice pl ll ql) rfl rfl (by kernel_rfl) (by kernel_rfl) (by kernel_rfl) (by kernel_rfl) (fun _ _ _ h => h) (Or.inl ⟨by kernel_rfl, fun w hw => by have hc := HLC.out w hw; (go_simp <;> with_reducible rfl)⟩) hC0 ?_
    go_simp
    refine Rgt.take (i := 17) (x := .slice o2 u c2) rfl rfl (by kernel_rfl) (by kernel_rfl) (by kernel_rfl) (by kernel_rfl) (fun _ _ _ h => h) (Or.inl ⟨by kernel_rfl, fun w hw => by (go_simp <;> with_reducible rfl)⟩) hC0 ?_
    go_simp
    refine Rgt.ready (i := 9) (by kernel_rfl) rfl (by kernel_rfl) (fun K hK => ?_)
    go_simp
    refine (HRT.out _ (HC2.out _ hC0)).mono ?_
    rintro e Y2 ⟨rfl, hb⟩
    have hC1 := HC1.out _ hb
    clear hb
    refine hK _ _ hC1 ?_
    clear hK K HRT hC0
    rename C _ => hC0
    refine Rgt.ready (i := 18) (by kernel_rfl) rfl (by kernel_rfl) (fun K hK => ?_)
    go_simp
    refine (HCK.out _ (HC2.out _ hC0)).mono ?_
    rintro e Y3 ⟨rfl, hb⟩
    have hC1 := HC1.out _ hb
    clear hb
    refine hK _ _ hC1 ?_
    clear hK K HCK hC0
    rename C _ => hC0
    refine Rgt.take (i := 19) (x := .bool true) rfl rfl (by kernel_rfl) (by kernel_rfl) (by kernel_rfl) (by kernel_rfl) (fun _ _ _ h => h) (Or.inl ⟨by kernel_rfl, fun w hw => by have hc := hen w; (go_simp <;> with_reducible rfl)⟩) hC0 ?_
    go_simp
    refine Rgt.take (i := 20) (x := .bool true) rfl rfl (by kernel_rfl) (by kernel_rfl) (by kernel_rfl) (by kernel_rfl) (fun _ _ _ h => h) (Or.inl ⟨by kernel_rfl, fun w hw => by (go_simp <;> with_reducible rfl)⟩) hC0 ?_
    go_simp
    refine Rgt.ready (i := 21) (by kernel_rfl) rfl (by kernel_rfl) (fun K hK => ?_)
    go_simp
    refine hK _ _ hC0 ?_
    clear hK K
    refine Rgt.done (by kernel_rfl) ?_ _
    have HB6 := Lib.hid (Kit.step HB5.out (HC2.out _ hC0))
    clear hC0
    go_wp2_with fail
    go_ret
    exact ⟨rfl, HB6.out⟩
  · have MK := pmake_bad n c o i (by omega) A W1 (HE.out.later HB1.out).t13
    have HMK := Lib.hid MK
    have HHI := Lib.hid hin
    have e1 : errP A 1 = .iface 137 (.pointer (some (A 0))) := rfl
    rw [e1] at HMK
    have hdd : decide (i < 0) = true ∨ (decide (i < 0) = false ∧ decide (i ≥ (n : Int)) = true ∧ decide ((n : Int) ≤ i) = true) := by
      by_cases h : i < 0
      · exact .inl (decide_eq_true h)
      · exact .inr ⟨decide_eq_false h, decide_eq_true (by omega), decide_eq_true (by omega)⟩
    clear MK hin e1
    go_wp2_with fail
    refine HMK.out.mono ?_
    rintro e W2 ⟨rfl, hb2⟩
    obtain ⟨x, hx1, hx2⟩ := HPL.out W2
    have HX1 := Lib.hid hx1
    have HX2 := Lib.hid hx2
    have HB2 := Lib.hid (Kit.step HB1.out hb2)
    clear hx1 hx2 hb2 HMK HPL
    go_wp2_with fail
    refine HX1.out.mono ?_
    rintro e W3 ⟨rfl, hb3⟩
    have HB3 := Lib.hid (Kit.step HB2.out hb3)
    clear hb3 HX1
    go_wp2_with fail
    refine (HX2.out W3).mono ?_
    rintro e W4 ⟨rfl, rfl⟩
    rename World => W3
    clear HX2
    have NU := Lib.hid (Er.num_of A 0 (by omega) W3 (HE.out.later HB3.out))
    rcases hdd with hdd | ⟨hdd, hdd2, hdd3⟩
    · go_wp2_with fail
      refine NU.out.mono ?_
      rintro e W5 ⟨rfl, hb5⟩
      have HB5 := Lib.hid (Kit.step HB3.out hb5)
      clear hb5
      go_wp2_with fail
      go_ret
      exact ⟨rfl, HB5.out⟩
    · go_wp2_with fail
      refine NU.out.mono ?_
      rintro e W5 ⟨rfl, hb5⟩
      have HB5 := Lib.hid (Kit.step HB3.out hb5)
      clear hb5
      go_wp2_with fail
      go_ret
      exact ⟨rfl, HB5.out⟩
end Go.Proofs.YtjcmihiajpgnjaaDoor
