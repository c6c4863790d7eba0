/- The document's Make; the code's, where there is no such leaf; two rows of digests compared. -/
import Derived.Test.YtjcmihiajpgnjaaDoorPa13
namespace Go.Proofs.YtjcmihiajpgnjaaDoor
open Go.RowKit
set_option linter.unusedVariables false
set_option linter.unusedSimpArgs false
theorem own_base {T : TypeId} {W : World} {b b' sz n : Nat} {v : Value} {xs : List Value} (h : W.ownsRow b T sz v n xs) (hb : b' ≤ b) : W.ownsRow b' T sz v n xs := by
  obtain ⟨h1, h2⟩ := h
  refine ⟨h1, ?_⟩
  rcases h2 with h2 | ⟨g, cap, cur, e, hg, r⟩
  · exact .inl h2
  · exact .inr ⟨g, cap, cur, e, Nat.le_trans hb hg, r⟩
theorem pmake_bad (n c : Nat) (o : Option Addr) (i : Int) (hbad : ¬ (0 ≤ i ∧ i < (n : Int) ∧ (n : Int) ≤ 512)) (A : Nat → Addr) (w : World) (hA : E13 w A) :
    Calls Tryd.prog 10 #[.slice o n c, .int .i64 i] w fun e w' => e = .returned (.tuple #[.slice none 0 0, errP A 1]) ∧ Below w.heap.size w w' := by
  have PL := plen_bad (n : Int) i hbad w
  have hc := hA.c0
  have HPL := Lib.hid PL
  clear PL hA hbad
  go_enter Tryd.func10, Tryd.ntmps10
  go_wp2_with fail
  refine HPL.out.mono ?_
  rintro e w1 ⟨rfl, rfl⟩
  rename World => w
  clear HPL
  go_upto_region 2 with fail
  go_quiet (fail)
  go_wp2_with fail
  go_ret2
  first | exact ⟨rfl, Kit.dn' _ _⟩ | exact ⟨rfl, (Below.refl _ _).drew⟩ | exact ⟨rfl, by assumption⟩
set_option maxRecDepth 100000 in
set_option maxHeartbeats 2000000 in
theorem rmake_any13 : ∀ (n : Nat) (ds : List (List UInt8)) (o : Option Addr) (c i : Nat) (w : World), ds.length = n → i < n → DgIs w o ds c → Rds w → n ≤ 512 →
    Calls Tryd.prog 14 #[.slice o n c, .int .i64 (i : Int)] w fun e w' => ∃ v, e = .returned v ∧ w'.ownsRow w.heap.size 37 32 v (Da.ups n i).length (bytesV (Da.pa ds i).flatten) ∧ Below w.heap.size w w' := by
  intro n
  induction n using Nat.strongRecOn with
  | ind n ih =>
    intro ds o c i w hn hi hR hV h5
    by_cases h : n < 2
    · obtain rfl : n = 1 := by omega
      rw [Da.ups_one i h, Da.pa_one i (by omega)]
      clear ih hR hV
      go_enter Tryd.func14, Tryd.ntmps14
      go_wp2_with fail
      go_ret
      exact ⟨_, rfl, World.ownsRow_nil _ _ _ _, Below.refl _ _⟩
    have hd6 : decide ((n : Int) = 1) = false := decide_eq_false (by omega)
    have hd6' : decide (n = 1) = false := decide_eq_false (by omega)
    have SP := rsplit_any n (by omega) (by omega) w
    obtain ⟨s1, s2, _⟩ := Da.spl_lt (n := n) (by omega)
    have ul := Da.ups_left (n := n) (i := i) (by omega)
    have ur := Da.ups_right (n := n) (i := i) (by omega)
    have pl := Da.pa_left (l := ds) (i := i) (by omega)
    have pr := Da.pa_right (l := ds) (i := i) (by omega)
    rw [hn] at pl pr
    obtain ⟨k, hk⟩ : ∃ k, Da.spl n = k := ⟨_, rfl⟩
    rw [hk] at SP s1 s2 ul ur pl pr
    have HSP := Lib.hid SP
    have hcl := hR.le
    have hca := hR.cap
    rw [hn] at hcl
    unfold maxLen at hca
    have hall := hR.all
    obtain ⟨b1, off1, rfl, hlt1, _⟩ := hR.at_ 0 (by omega)
    have hLk := hR.part 0 k (by omega) c (by omega) (by unfold maxLen; omega)
    rw [Nat.zero_mul, Nat.add_zero, List.drop_zero] at hLk
    have hRk := hR.part k (n - k) (by omega) (c - k) (by omega) (by unfold maxLen; omega)
    rw [List.take_of_length_le (by rw [List.length_drop, hn]; exact Nat.le_refl _)] at hRk
    have hdr : Below w.heap.size w w.drew := Kit.dn' w 1
    have hll : (ds.take k).length = k := by rw [List.length_take]; omega
    have hrl : (ds.drop k).length = n - k := by rw [List.length_drop]; omega
    have hck : ¬ c = k := by omega
    have hkc : k ≤ c := by omega
    have hkn : k ≤ n := by omega
    by_cases hik : i < k
    · have hd7 : decide (i < k) = true := decide_eq_true hik
      have IH := ih k s2 (ds.take k) _ c i w.drew hll hik (hLk.later hdr) (hV.later hdr) (by omega)
      have hel := Da.ov_length (l := ds.drop k) (hall.drop k)
      have hle := Da.ups_nine (n := k) (by omega) i
      have hfl : (Da.pa ds i).flatten = (Da.pa (ds.take k) i).flatten ++ Da.ov (ds.drop k) := by rw [pl hik]; simp
      rw [ul hik, List.length_append, List.length_singleton]
      obtain ⟨u, hu⟩ : ∃ u, (Da.ups k i).length = u := ⟨_, rfl⟩
      rw [hu] at IH hle ⊢
      obtain ⟨e, he⟩ : ∃ e, Da.ov (ds.drop k) = e := ⟨_, rfl⟩
      have OV : ∀ W, Below w.heap.size w W → Calls Tryd.prog 35 #[.slice (some ⟨b1, off1 + k * 32, none⟩) (n - k) (c - k)] W fun e' w' => e' = .returned (.agg (bytesV e).toArray) ∧ Below W.heap.size W w' := fun W hW => by
        have := rover_any (ds.drop k) _ (n - k) (c - k) hrl W (hRk.later hW) (hV.later hW) (by omega)
        rw [he] at this
        exact this
      rw [he] at hel hfl
      obtain ⟨E, hE⟩ : ∃ E, (bytesV e).toArray = E := ⟨_, rfl⟩
      rw [hE] at OV
      have HES := Lib.hid (show E.size = 32 by rw [← hE]; simp [hel])
      have HE := Lib.hid hE
      have HEL := Lib.hid hel
      have HIH := Lib.hid IH
      have HOV := Lib.hid OV
      have HFL := Lib.hid hfl
      have HDR := Lib.hid hdr
      have HK := Lib.hid hik
      clear ih IH SP ul ur pl pr hk hu hik hR hV hLk hRk hdr OV hE hel he hfl hall hn hll hrl hlt1
      go_enter Tryd.func14, Tryd.ntmps14
      go_wp2_with fail
      refine HSP.out.mono ?_
      rintro e0 w1 ⟨rfl, rfl⟩
      rename World => w
      clear HSP
      go_upto_region 5 with fail
      refine Rgt.region (fun _ => True) (fun _ => false) (by kernel_rfl) ?_
      refine Rgt.take (i := 0) (x := .slice (some ⟨b1, off1, none⟩) n c) rfl rfl (by kernel_rfl) (by kernel_rfl) (by kernel_rfl) (by kernel_rfl) (fun _ _ _ h => h) (Or.inl ⟨by kernel_rfl, fun w hw => by (go_simp <;> with_reducible rfl)⟩) trivial ?_
      go_simp
      refine Rgt.take (i := 1) (x := .int .i64 (k : Int)) rfl rfl (by kernel_rfl) (by kernel_rfl) (by kernel_rfl) (by kernel_rfl) (fun _ _ _ h => h) (Or.inl ⟨by kernel_rfl, fun w hw => by (go_simp <;> with_reducible rfl)⟩) trivial ?_
      go_simp
      refine Rgt.take (i := 2) (x := .slice (some ⟨b1, off1, none⟩) k c) rfl rfl (by kernel_rfl) (by kernel_rfl) (by kernel_rfl) (by kernel_rfl) (fun _ _ _ h => h) (Or.inl ⟨by kernel_rfl, fun w hw => by (go_simp <;> with_reducible rfl)⟩) trivial ?_
      go_simp
      refine Rgt.take (i := 3) (x := .int .i64 (i : Int)) rfl rfl (by kernel_rfl) (by kernel_rfl) (by kernel_rfl) (by kernel_rfl) (fun _ _ _ h => h) (Or.inl ⟨by kernel_rfl, fun w hw => by (go_simp <;> with_reducible rfl)⟩) trivial ?_
      go_simp
      refine Rgt.take (i := 5) (x := .slice (some ⟨b1, off1, none⟩) n c) rfl rfl (by kernel_rfl) (by kernel_rfl) (by kernel_rfl) (by kernel_rfl) (fun _ _ _ h => h) (Or.inl ⟨by kernel_rfl, fun w hw => by (go_simp <;> with_reducible rfl)⟩) trivial ?_
      go_simp
      refine Rgt.take (i := 6) (x := .int .i64 (k : Int)) rfl rfl (by kernel_rfl) (by kernel_rfl) (by kernel_rfl) (by kernel_rfl) (fun _ _ _ h => h) (Or.inl ⟨by kernel_rfl, fun w hw => by (go_simp <;> with_reducible rfl)⟩) trivial ?_
      go_simp
      refine Rgt.take (i := 7) (x := .slice (some ⟨b1, off1 + k * 32, none⟩) (n - k) (c - k)) rfl rfl (by kernel_rfl) (by kernel_rfl) (by kernel_rfl) (by kernel_rfl) (fun _ _ _ h => h) (Or.inl ⟨by kernel_rfl, fun w hw => by (go_simp <;> with_reducible rfl)⟩) trivial ?_
      go_simp
      refine Rgt.ready (i := 4) (by kernel_rfl) rfl (by kernel_rfl) (fun K hK => ?_)
      go_simp
      refine HIH.out.mono ?_
      rintro e1 W1 ⟨v1, rfl, hown, hb1⟩
      refine hK _ _ trivial ?_
      clear hK K HIH
      have HBW1 := Lib.hid (Kit.step HDR.out hb1)
      have HOV1 := Lib.hid (HOV.out W1 HBW1.out)
      have HOWN := Lib.hid (own_base hown HDR.out.size)
      clear hown hb1 HOV
      refine Rgt.ready (i := 8) (by kernel_rfl) rfl (by kernel_rfl) (fun K hK => ?_)
      go_simp
      refine HOV1.out.mono ?_
      rintro e2 W2 ⟨rfl, hb2⟩
      refine hK _ _ trivial ?_
      clear hK K HOV1
      have hbs := dg_slice_run (tS := 32) Tryd.underlying32 dgI_doc E HES.out W2
      have hba := new12 W2 (.cells E 37)
      have hrow : (W2.alloc (.cells E 37)).rangeAt W2.heap.size 0 (bytesV e) := by rw [← HE.out]; exact (Arr.made W2 37 (bytesV e)).rng
      have hb3 := Kit.step hb2 hba
      have hbw := Kit.step HBW1.out hb3
      obtain ⟨g2, cap2, W3, hrun, hown3, hgr3, hat⟩ := dg_append_run (tS := 32) Tryd.underlying32 dgI_doc 32 _ w.heap.size v1 u _ (own_later12 HOWN.out hb3) W2.heap.size e HEL.out hrow (by omega) hbw.size
      have hbw3 : Below w.heap.size w W3 := Below.grown hbw hgr3 hbw.size (fun k e => (own_blk (own_later12 HOWN.out hb3) k e).1)
      rw [← bytesV_app, ← HFL.out] at hown3
      have HRUN := Lib.hid hrun
      have HBS := Lib.hid hbs
      have HO3 := Lib.hid hown3
      have HB3 := Lib.hid hbw3
      clear hb2 hbs hba hrow hb3 hbw hrun hown3 hgr3 hat hbw3 HOWN
      refine Rgt.ready (i := 9) (by kernel_rfl) rfl (by kernel_rfl) (fun K hK => oper_slice 32 1 _ rfl #[(0, .agg E)] (by first | rfl | simp [Act.eval, Act.put]) _ _ HBS.out (hK _ _ trivial ?_))
      clear hK K
      refine Rgt.ready (i := 10) (by kernel_rfl) rfl (by kernel_rfl) (fun K hK => oper_append (.tmp 19) (.tmp 24) 32 rfl _ _ rfl rfl _ _ HRUN.out (hK _ _ trivial ?_))
      clear hK K
      go_simp
      refine Rgt.ready (i := 11) (by kernel_rfl) rfl (by kernel_rfl) (fun K hK => ?_)
      go_simp
      refine hK _ _ trivial ?_
      clear hK K
      refine Rgt.done (by kernel_rfl) ?_ _
      go_wp2_with fail
      go_ret
      exact ⟨_, rfl, HO3.out, HB3.out⟩
    · have hd7 : decide (i < k) = false := decide_eq_false hik
      obtain ⟨J, hJ⟩ : ∃ J, i - k = J := ⟨_, rfl⟩
      have hj1 : (i : Int) - (k : Int) = (J : Int) := by omega
      have hj2 : IntKind.i64.wrap (J : Int) = (J : Int) := by rw [IntKind.wrap_i64]; omega
      have IH := ih (n - k) (by omega) (ds.drop k) _ (c - k) J w.drew hrl (by omega) (hRk.later hdr) (hV.later hdr) (by omega)
      have hel := Da.ov_length (l := ds.take k) (hall.take k)
      have hle := Da.ups_nine (n := n - k) (by omega) J
      have hfl : (Da.pa ds i).flatten = (Da.pa (ds.drop k) J).flatten ++ Da.ov (ds.take k) := by rw [pr (by omega), hJ]; simp
      rw [ur (by omega), hJ, List.length_append, List.length_singleton]
      obtain ⟨u, hu⟩ : ∃ u, (Da.ups (n - k) J).length = u := ⟨_, rfl⟩
      rw [hu] at IH hle ⊢
      obtain ⟨e, he⟩ : ∃ e, Da.ov (ds.take k) = e := ⟨_, rfl⟩
      have OV : ∀ W, Below w.heap.size w W → Calls Tryd.prog 35 #[.slice (some ⟨b1, off1, none⟩) k c] W fun e' w' => e' = .returned (.agg (bytesV e).toArray) ∧ Below W.heap.size W w' := fun W hW => by
        have := rover_any (ds.take k) _ k c hll W (hLk.later hW) (hV.later hW) (by omega)
        rw [he] at this
        exact this
      rw [he] at hel hfl
      obtain ⟨E, hE⟩ : ∃ E, (bytesV e).toArray = E := ⟨_, rfl⟩
      rw [hE] at OV
      have HES := Lib.hid (show E.size = 32 by rw [← hE]; simp [hel])
      have HE := Lib.hid hE
      have HEL := Lib.hid hel
      have HIH := Lib.hid IH
      have HOV := Lib.hid OV
      have HFL := Lib.hid hfl
      have HDR := Lib.hid hdr
      have HK := Lib.hid hik
      clear ih IH SP ul ur pl pr hk hu hik hR hV hLk hRk hdr OV hE hel he hfl hall hn hll hrl hlt1 hJ
      go_enter Tryd.func14, Tryd.ntmps14
      go_wp2_with fail
      refine HSP.out.mono ?_
      rintro e0 w1 ⟨rfl, rfl⟩
      rename World => w
      clear HSP
      go_upto_region 6 with fail
      refine Rgt.region (fun _ => True) (fun _ => false) (by kernel_rfl) ?_
      refine Rgt.take (i := 0) (x := .slice (some ⟨b1, off1, none⟩) n c) rfl rfl (by kernel_rfl) (by kernel_rfl) (by kernel_rfl) (by kernel_rfl) (fun _ _ _ h => h) (Or.inl ⟨by kernel_rfl, fun w hw => by (go_simp <;> with_reducible rfl)⟩) trivial ?_
      go_simp
      refine Rgt.take (i := 1) (x := .int .i64 (k : Int)) rfl rfl (by kernel_rfl) (by kernel_rfl) (by kernel_rfl) (by kernel_rfl) (fun _ _ _ h => h) (Or.inl ⟨by kernel_rfl, fun w hw => by (go_simp <;> with_reducible rfl)⟩) trivial ?_
      go_simp
      refine Rgt.take (i := 2) (x := .slice (some ⟨b1, off1 + k * 32, none⟩) (n - k) (c - k)) rfl rfl (by kernel_rfl) (by kernel_rfl) (by kernel_rfl) (by kernel_rfl) (fun _ _ _ h => h) (Or.inl ⟨by kernel_rfl, fun w hw => by (go_simp <;> with_reducible rfl)⟩) trivial ?_
      go_simp
      refine Rgt.take (i := 3) (x := .int .i64 (i : Int)) rfl rfl (by kernel_rfl) (by kernel_rfl) (by kernel_rfl) (by kernel_rfl) (fun _ _ _ h => h) (Or.inl ⟨by kernel_rfl, fun w hw => by (go_simp <;> with_reducible rfl)⟩) trivial ?_
      go_simp
      refine Rgt.take (i := 4) (x := .int .i64 (k : Int)) rfl rfl (by kernel_rfl) (by kernel_rfl) (by kernel_rfl) (by kernel_rfl) (fun _ _ _ h => h) (Or.inl ⟨by kernel_rfl, fun w hw => by (go_simp <;> with_reducible rfl)⟩) trivial ?_
      go_simp
      refine Rgt.take (i := 5) (x := .int .i64 (J : Int)) rfl rfl (by kernel_rfl) (by kernel_rfl) (by kernel_rfl) (by kernel_rfl) (fun _ _ _ h => h) (Or.inl ⟨by kernel_rfl, fun w hw => by (go_simp <;> with_reducible rfl)⟩) trivial ?_
      go_simp
      refine Rgt.take (i := 7) (x := .slice (some ⟨b1, off1, none⟩) n c) rfl rfl (by kernel_rfl) (by kernel_rfl) (by kernel_rfl) (by kernel_rfl) (fun _ _ _ h => h) (Or.inl ⟨by kernel_rfl, fun w hw => by (go_simp <;> with_reducible rfl)⟩) trivial ?_
      go_simp
      refine Rgt.take (i := 8) (x := .int .i64 (k : Int)) rfl rfl (by kernel_rfl) (by kernel_rfl) (by kernel_rfl) (by kernel_rfl) (fun _ _ _ h => h) (Or.inl ⟨by kernel_rfl, fun w hw => by (go_simp <;> with_reducible rfl)⟩) trivial ?_
      go_simp
      refine Rgt.take (i := 9) (x := .slice (some ⟨b1, off1, none⟩) k c) rfl rfl (by kernel_rfl) (by kernel_rfl) (by kernel_rfl) (by kernel_rfl) (fun _ _ _ h => h) (Or.inl ⟨by kernel_rfl, fun w hw => by (go_simp <;> with_reducible rfl)⟩) trivial ?_
      go_simp
      refine Rgt.ready (i := 6) (by kernel_rfl) rfl (by kernel_rfl) (fun K hK => ?_)
      go_simp
      refine HIH.out.mono ?_
      rintro e1 W1 ⟨v1, rfl, hown, hb1⟩
      refine hK _ _ trivial ?_
      clear hK K HIH
      have HBW1 := Lib.hid (Kit.step HDR.out hb1)
      have HOV1 := Lib.hid (HOV.out W1 HBW1.out)
      have HOWN := Lib.hid (own_base hown HDR.out.size)
      clear hown hb1 HOV
      refine Rgt.ready (i := 10) (by kernel_rfl) rfl (by kernel_rfl) (fun K hK => ?_)
      go_simp
      refine HOV1.out.mono ?_
      rintro e2 W2 ⟨rfl, hb2⟩
      refine hK _ _ trivial ?_
      clear hK K HOV1
      have hbs := dg_slice_run (tS := 32) Tryd.underlying32 dgI_doc E HES.out W2
      have hba := new12 W2 (.cells E 37)
      have hrow : (W2.alloc (.cells E 37)).rangeAt W2.heap.size 0 (bytesV e) := by rw [← HE.out]; exact (Arr.made W2 37 (bytesV e)).rng
      have hb3 := Kit.step hb2 hba
      have hbw := Kit.step HBW1.out hb3
      obtain ⟨g2, cap2, W3, hrun, hown3, hgr3, hat⟩ := dg_append_run (tS := 32) Tryd.underlying32 dgI_doc 32 _ w.heap.size v1 u _ (own_later12 HOWN.out hb3) W2.heap.size e HEL.out hrow (by omega) hbw.size
      have hbw3 : Below w.heap.size w W3 := Below.grown hbw hgr3 hbw.size (fun k e => (own_blk (own_later12 HOWN.out hb3) k e).1)
      rw [← bytesV_app, ← HFL.out] at hown3
      have HRUN := Lib.hid hrun
      have HBS := Lib.hid hbs
      have HO3 := Lib.hid hown3
      have HB3 := Lib.hid hbw3
      clear hb2 hbs hba hrow hb3 hbw hrun hown3 hgr3 hat hbw3 HOWN
      refine Rgt.ready (i := 11) (by kernel_rfl) rfl (by kernel_rfl) (fun K hK => oper_slice 32 1 _ rfl #[(0, .agg E)] (by first | rfl | simp [Act.eval, Act.put]) _ _ HBS.out (hK _ _ trivial ?_))
      clear hK K
      refine Rgt.ready (i := 12) (by kernel_rfl) rfl (by kernel_rfl) (fun K hK => oper_append (.tmp 32) (.tmp 37) 32 rfl _ _ rfl rfl _ _ HRUN.out (hK _ _ trivial ?_))
      clear hK K
      go_simp
      refine Rgt.ready (i := 13) (by kernel_rfl) rfl (by kernel_rfl) (fun K hK => ?_)
      go_simp
      refine hK _ _ trivial ?_
      clear hK K
      refine Rgt.done (by kernel_rfl) ?_ _
      go_wp2_with fail
      go_ret
      exact ⟨_, rfl, HO3.out, HB3.out⟩
end Go.Proofs.YtjcmihiajpgnjaaDoor
