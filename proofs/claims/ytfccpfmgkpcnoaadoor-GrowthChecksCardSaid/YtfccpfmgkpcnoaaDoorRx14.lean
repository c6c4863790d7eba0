/- The document's Count and Prove of growth. The document's Made and Check of growth. The document's Check of growth. -/
import Derived.Test.YtfccpfmgkpcnoaaDoorGx14
import Derived.Test.YtfccpfmgkpcnoaaDoorPkx
namespace Go.Proofs.YtfccpfmgkpcnoaaDoor
open Go.RowKit
set_option linter.unusedVariables false
set_option linter.unusedSimpArgs false
set_option maxRecDepth 100000 in
set_option maxHeartbeats 2000000 in
theorem rcount_any14 : ∀ (n m : Nat) (b : Bool) (w : World), 1 ≤ m → m ≤ n → n ≤ 1000 →
    Calls Tryd.prog 27 #[.int .i64 (m : Int), .int .i64 (n : Int), .bool b] w fun e w' => e = .returned (.int .i64 ((Da.cnt m n b : Nat) : Int)) ∧ w' = w := by
  intro n
  induction n using Nat.strongRecOn with
  | ind n ih =>
    intro m b w hm1 hmn h5
    by_cases h : m = n
    · subst h
      have hq : ((m : Int) == (m : Int)) = true := by simp
      have hdq : decide ((m : Int) = (m : Int)) = true := by simp
      rw [Da.cnt_all]
      clear ih
      cases b with
      | true =>
        go_enter Tryd.func27, Tryd.ntmps27
        go_wp2_with fail
        go_ret
        exact ⟨rfl, rfl⟩
      | false =>
        go_enter Tryd.func27, Tryd.ntmps27
        go_wp2_with fail
        go_ret
        exact ⟨rfl, rfl⟩
    have hq : ((m : Int) == (n : Int)) = false := by simp; omega
    have hdq : decide ((m : Int) = (n : Int)) = false := by simp; omega
    have hdq2 : decide (m = n) = false := by simp; omega
    have SP := rsplit_any n (by omega) (by omega) w
    obtain ⟨s1, s2, _⟩ := Da.spl_lt (n := n) (by omega)
    have ul := Da.cnt_left (m := m) (n := n) b hm1 (by omega)
    have ur := Da.cnt_right (m := m) (n := n) b (by omega)
    obtain ⟨k, hk⟩ : ∃ k, Da.spl n = k := ⟨_, rfl⟩
    rw [hk] at SP s1 s2 ul ur
    have HSP := Lib.hid SP
    by_cases hik : m ≤ k
    · have hd7 : decide ((m : Int) ≤ (k : Int)) = true := decide_eq_true (by omega)
      have hd8 : decide (m ≤ k) = true := decide_eq_true hik
      rw [ul hik]
      have IH := ih k s2 m b w hm1 hik (by omega)
      have hle := Da.cnt_le k m b hm1 hik
      have hdl := Da.dpt_le (n := k) (by omega)
      obtain ⟨u, hu⟩ : ∃ u, Da.cnt m k b = u := ⟨_, rfl⟩
      rw [hu] at IH hle ⊢
      have HIH := Lib.hid IH
      have HK := Lib.hid hik
      have hu64 : u ≤ 64 := by omega
      clear ih IH SP ul ur hk hu hik h hdl hle
      go_enter Tryd.func27, Tryd.ntmps27
      go_wp2_with fail
      refine HSP.out.mono ?_
      rintro e w1 ⟨rfl, rfl⟩
      rename World => w
      go_wp2_with fail
      refine HIH.out.mono ?_
      rintro e w1 ⟨rfl, rfl⟩
      go_wp2_with fail
      go_ret
      refine ⟨?_, rfl⟩
      rw [show (((1 + u : Nat) : Int)) = 1 + (u : Int) by omega]
      rfl
    · have hd7 : decide ((m : Int) ≤ (k : Int)) = false := decide_eq_false (by omega)
      have hd8 : decide (m ≤ k) = false := decide_eq_false hik
      rw [ur (by omega)]
      have IH := ih (n - k) (by omega) (m - k) false w (by omega) (by omega) (by omega)
      have hle := Da.cnt_le (n - k) (m - k) false (by omega) (by omega)
      have hdl := Da.dpt_le (n := n - k) (by omega)
      obtain ⟨u, hu⟩ : ∃ u, Da.cnt (m - k) (n - k) false = u := ⟨_, rfl⟩
      rw [hu] at IH hle ⊢
      obtain ⟨N, hN⟩ : ∃ N, n - k = N := ⟨_, rfl⟩
      obtain ⟨J, hJ⟩ : ∃ J, m - k = J := ⟨_, rfl⟩
      rw [hN, hJ] at IH
      have hn1 : (n : Int) - (k : Int) = (N : Int) := by omega
      have hj1 : (m : Int) - (k : Int) = (J : Int) := by omega
      have HIH := Lib.hid IH
      have HK := Lib.hid hik
      have hu64 : u ≤ 64 := by rw [hN] at hle hdl; omega
      clear ih IH SP ul ur hk hu hik h hN hJ hle hdl
      go_enter Tryd.func27, Tryd.ntmps27
      go_wp2_with fail
      refine HSP.out.mono ?_
      rintro e w1 ⟨rfl, rfl⟩
      rename World => w
      go_wp2_with fail
      refine HIH.out.mono ?_
      rintro e w1 ⟨rfl, rfl⟩
      go_wp2_with fail
      go_ret
      refine ⟨?_, rfl⟩
      rw [show (((1 + u : Nat) : Int)) = 1 + (u : Int) by omega]
      rfl
set_option maxRecDepth 100000 in
set_option maxHeartbeats 4000000 in
theorem rprove_any14 : ∀ (n : Nat) (ds : List (List UInt8)) (o : Option Addr) (c m : Nat) (b : Bool) (w : World), ds.length = n → 1 ≤ m → m ≤ n → DgIs w o ds c → Rds w → n ≤ 512 →
    Calls Tryd.prog 24 #[.slice o n c, .int .i64 (m : Int), .bool b] w fun e w' => ∃ v, e = .returned v ∧ w'.ownsRow w.heap.size 40 32 v (Da.cnt m n b) (bytesV (Da.prf ds m b).flatten) ∧ Below w.heap.size w w' := by
  intro n
  induction n using Nat.strongRecOn with
  | ind n ih =>
    intro ds o c m b w hn hm1 hmn hR hV h5
    by_cases h : m = n
    · subst h
      have hq : ((m : Int) == (m : Int)) = true := by simp
      have hdq : decide ((m : Int) = (m : Int)) = true := by simp
      rw [Da.cnt_all, Da.prf_all b hn.symm]
      cases b with
      | true =>
        clear ih hR hV
        go_enter Tryd.func24, Tryd.ntmps24
        go_wp2_with fail
        go_ret
        exact ⟨_, rfl, World.ownsRow_nil _ _ _ _, Below.refl _ _⟩
      | false =>
        have OV := rover_any ds o m c hn w hR hV (by omega)
        have hel := Da.ov_length (l := ds) hR.all
        obtain ⟨e, he⟩ : ∃ e, Da.ov ds = e := ⟨_, rfl⟩
        rw [he] at OV hel
        obtain ⟨E, hE⟩ : ∃ E, (bytesV e).toArray = E := ⟨_, rfl⟩
        rw [hE] at OV
        have HOV := Lib.hid OV
        have HE := Lib.hid hE
        have HEL := Lib.hid hel
        have HES := Lib.hid (show E.size = 32 by rw [← hE]; simp [hel])
        rw [if_neg (by simp), if_neg (by simp), he]
        clear ih hR hV OV hel he hE hn
        go_enter Tryd.func24, Tryd.ntmps24
        go_upto_region 5 with fail
        apply wp_region_lit
        (refine wpList_plain rfl (fun K hK => ?_); go_simp; refine hK _ _ ?_; clear hK K)
        (refine wpList_plain rfl (fun K hK => ?_); go_simp)
        refine HOV.out.mono ?_
        rintro e1 W1 ⟨rfl, hb1⟩
        refine hK _ _ ?_
        clear hK K HOV
        have hbs := dg_slice_run (tS := 35) Tryd.underlying35 dgI_doc E HES.out W1
        have HOW : Hid ((W1.alloc (.cells E 40)).ownsRow w.heap.size 40 32 (.slice (some ⟨W1.heap.size, 0, none⟩) 1 1) 1 (bytesV e)) := Lib.hid
          ⟨by rw [bytesV_length, HEL.out], .inr ⟨W1.heap.size, 1, E, rfl, hb1.size, World.alloc_heap_new W1 _, Nat.le_refl _, by decide, by rw [HES.out], by rw [← HE.out]; exact List.take_of_length_le (by simp [HEL.out])⟩⟩
        have HBA := Lib.hid (Kit.step hb1 (new12 W1 (.cells E 40)))
        have HBS := Lib.hid hbs
        clear hbs hb1
        refine BigFrame.wpList_want (by rfl) (fun K hK => oper_slice 35 1 _ rfl #[(0, .agg E)] (by first | rfl | simp [Act.eval, Act.put]) _ _ HBS.out (hK _ _ ?_))
        go_wp2_with fail
        go_ret
        exact ⟨_, rfl, by simpa using HOW.out, HBA.out⟩
    have hq : ((m : Int) == (n : Int)) = false := by simp; omega
    have hdq : decide ((m : Int) = (n : Int)) = false := by simp; omega
    have hdq2 : decide (m = n) = false := by simp; omega
    have SP := rsplit_any n (by omega) (by omega) w
    obtain ⟨s1, s2, _⟩ := Da.spl_lt (n := n) (by omega)
    have ul := Da.cnt_left (m := m) (n := n) b hm1 (by omega)
    have ur := Da.cnt_right (m := m) (n := n) b (by omega)
    have pl := Da.prf_left (l := ds) (m := m) b hm1 (by omega)
    have pr := Da.prf_right (l := ds) (m := m) b (by omega)
    rw [hn] at pl pr
    obtain ⟨k, hk⟩ : ∃ k, Da.spl n = k := ⟨_, rfl⟩
    rw [hk] at SP s1 s2 ul ur pl pr
    have HSP := Lib.hid SP
    have hcl := hR.le
    have hca := hR.cap
    rw [hn] at hcl
    unfold maxLen at hca
    have hall := hR.all
    obtain ⟨b1, off1, rfl, hlt1, _⟩ := hR.at_ 0 (by omega)
    have hLk := hR.part 0 k (by omega) c (by omega) (by unfold maxLen; omega)
    rw [Nat.zero_mul, Nat.add_zero, List.drop_zero] at hLk
    have hRk := hR.part k (n - k) (by omega) (c - k) (by omega) (by unfold maxLen; omega)
    rw [List.take_of_length_le (by rw [List.length_drop, hn]; exact Nat.le_refl _)] at hRk
    have hdr : Below w.heap.size w w.drew := Kit.dn' w 1
    have hll : (ds.take k).length = k := by rw [List.length_take]; omega
    have hrl : (ds.drop k).length = n - k := by rw [List.length_drop]; omega
    have hck : ¬ c = k := by omega
    have hkc : k ≤ c := by omega
    have hkn : k ≤ n := by omega
    by_cases hik : m ≤ k
    · have hd7 : decide ((m : Int) ≤ (k : Int)) = true := decide_eq_true (by omega)
      have hd8 : decide (m ≤ k) = true := decide_eq_true hik
      have IH := ih k s2 (ds.take k) _ c m b w.drew hll hm1 hik (hLk.later hdr) (hV.later hdr) (by omega)
      have hel := Da.ov_length (l := ds.drop k) (hall.drop k)
      have hle := Da.cnt_le k m b hm1 hik
      have hdl := Da.dpt_le (n := k) (by omega)
      have hfl : (Da.prf ds m b).flatten = (Da.prf (ds.take k) m b).flatten ++ Da.ov (ds.drop k) := by rw [pl hik]; simp
      rw [ul hik]
      obtain ⟨u, hu⟩ : ∃ u, Da.cnt m k b = u := ⟨_, rfl⟩
      rw [hu] at IH hle ⊢
      have hu64 : u ≤ 64 := by omega
      have hu1 : 1 + u = u + 1 := Nat.add_comm _ _
      rw [hu1]
      obtain ⟨e, he⟩ : ∃ e, Da.ov (ds.drop k) = e := ⟨_, rfl⟩
      have OV : ∀ W, Below w.heap.size w W → Calls Tryd.prog 20 #[.slice (some ⟨b1, off1 + k * 32, none⟩) (n - k) (c - k)] W fun e' w' => e' = .returned (.agg (bytesV e).toArray) ∧ Below W.heap.size W w' := fun W hW => by
        have := rover_any (ds.drop k) _ (n - k) (c - k) hrl W (hRk.later hW) (hV.later hW) (by omega)
        rw [he] at this
        exact this
      rw [he] at hel hfl
      obtain ⟨E, hE⟩ : ∃ E, (bytesV e).toArray = E := ⟨_, rfl⟩
      rw [hE] at OV
      have HES := Lib.hid (show E.size = 32 by rw [← hE]; simp [hel])
      have HE := Lib.hid hE
      have HEL := Lib.hid hel
      have HIH := Lib.hid IH
      have HOV := Lib.hid OV
      have HFL := Lib.hid hfl
      have HDR := Lib.hid hdr
      have HK := Lib.hid hik
      clear ih IH SP ul ur pl pr hk hu hik hR hV hLk hRk hdr OV hE hel he hfl hall hn hll hrl hlt1 h hle hdl hu1
      go_enter Tryd.func24, Tryd.ntmps24
      go_wp2_with fail
      refine HSP.out.mono ?_
      rintro e0 w1 ⟨rfl, rfl⟩
      rename World => w
      clear HSP
      go_upto_region 8 with fail
      refine Rgt.region (fun _ => True) (fun _ => false) (by kernel_rfl) ?_
      refine Rgt.take (i := 0) (x := .slice (some ⟨b1, off1, none⟩) n c) rfl rfl (by kernel_rfl) (by kernel_rfl) (by kernel_rfl) (by kernel_rfl) (fun _ _ _ h => h) (Or.inl ⟨by kernel_rfl, fun w hw => by (go_simp <;> with_reducible rfl)⟩) trivial ?_
      go_simp
      refine Rgt.take (i := 1) (x := .int .i64 (k : Int)) rfl rfl (by kernel_rfl) (by kernel_rfl) (by kernel_rfl) (by kernel_rfl) (fun _ _ _ h => h) (Or.inl ⟨by kernel_rfl, fun w hw => by (go_simp <;> with_reducible rfl)⟩) trivial ?_
      go_simp
      refine Rgt.take (i := 2) (x := .slice (some ⟨b1, off1, none⟩) k c) rfl rfl (by kernel_rfl) (by kernel_rfl) (by kernel_rfl) (by kernel_rfl) (fun _ _ _ h => h) (Or.inl ⟨by kernel_rfl, fun w hw => by (go_simp <;> with_reducible rfl)⟩) trivial ?_
      go_simp
      refine Rgt.take (i := 3) (x := .int .i64 (m : Int)) rfl rfl (by kernel_rfl) (by kernel_rfl) (by kernel_rfl) (by kernel_rfl) (fun _ _ _ h => h) (Or.inl ⟨by kernel_rfl, fun w hw => by (go_simp <;> with_reducible rfl)⟩) trivial ?_
      go_simp
      refine Rgt.take (i := 4) (x := .bool b) rfl rfl (by kernel_rfl) (by kernel_rfl) (by kernel_rfl) (by kernel_rfl) (fun _ _ _ h => h) (Or.inl ⟨by kernel_rfl, fun w hw => by (go_simp <;> with_reducible rfl)⟩) trivial ?_
      go_simp
      refine Rgt.take (i := 6) (x := .slice (some ⟨b1, off1, none⟩) n c) rfl rfl (by kernel_rfl) (by kernel_rfl) (by kernel_rfl) (by kernel_rfl) (fun _ _ _ h => h) (Or.inl ⟨by kernel_rfl, fun w hw => by (go_simp <;> with_reducible rfl)⟩) trivial ?_
      go_simp
      refine Rgt.take (i := 7) (x := .int .i64 (k : Int)) rfl rfl (by kernel_rfl) (by kernel_rfl) (by kernel_rfl) (by kernel_rfl) (fun _ _ _ h => h) (Or.inl ⟨by kernel_rfl, fun w hw => by (go_simp <;> with_reducible rfl)⟩) trivial ?_
      go_simp
      refine Rgt.take (i := 8) (x := .slice (some ⟨b1, off1 + k * 32, none⟩) (n - k) (c - k)) rfl rfl (by kernel_rfl) (by kernel_rfl) (by kernel_rfl) (by kernel_rfl) (fun _ _ _ h => h) (Or.inl ⟨by kernel_rfl, fun w hw => by (go_simp <;> with_reducible rfl)⟩) trivial ?_
      go_simp
      refine Rgt.ready (i := 5) (by kernel_rfl) rfl (by kernel_rfl) (fun K hK => ?_)
      go_simp
      refine HIH.out.mono ?_
      rintro e1 W1 ⟨v1, rfl, hown, hb1⟩
      refine hK _ _ trivial ?_
      clear hK K HIH
      have HBW1 := Lib.hid (Kit.step HDR.out hb1)
      have HOV1 := Lib.hid (HOV.out W1 HBW1.out)
      have HOWN := Lib.hid (own_base hown HDR.out.size)
      clear hown hb1 HOV
      refine Rgt.ready (i := 9) (by kernel_rfl) rfl (by kernel_rfl) (fun K hK => ?_)
      go_simp
      refine HOV1.out.mono ?_
      rintro e2 W2 ⟨rfl, hb2⟩
      refine hK _ _ trivial ?_
      clear hK K HOV1
      have hbs := dg_slice_run (tS := 35) Tryd.underlying35 dgI_doc E HES.out W2
      have hba := new12 W2 (.cells E 40)
      have hrow : (W2.alloc (.cells E 40)).rangeAt W2.heap.size 0 (bytesV e) := by rw [← HE.out]; exact (Arr.made W2 40 (bytesV e)).rng
      have hb3 := Kit.step hb2 hba
      have hbw := Kit.step HBW1.out hb3
      obtain ⟨g2, cap2, W3, hrun, hown3, hgr3, hat⟩ := dg_append_run (tS := 35) Tryd.underlying35 dgI_doc 35 _ w.heap.size v1 u _ (own_later12 HOWN.out hb3) W2.heap.size e HEL.out hrow (by omega) hbw.size
      have hbw3 : Below w.heap.size w W3 := Below.grown hbw hgr3 hbw.size (fun k e => (own_blk (own_later12 HOWN.out hb3) k e).1)
      rw [← bytesV_app, ← HFL.out] at hown3
      have HRUN := Lib.hid hrun
      have HBS := Lib.hid hbs
      have HO3 := Lib.hid hown3
      have HB3 := Lib.hid hbw3
      clear hb2 hbs hba hrow hb3 hbw hrun hown3 hgr3 hat hbw3 HOWN
      refine Rgt.ready (i := 10) (by kernel_rfl) rfl (by kernel_rfl) (fun K hK => oper_slice 35 1 _ rfl #[(0, .agg E)] (by first | rfl | simp [Act.eval, Act.put]) _ _ HBS.out (hK _ _ trivial ?_))
      clear hK K
      refine Rgt.ready (i := 11) (by kernel_rfl) rfl (by kernel_rfl) (fun K hK => oper_append (.tmp 28) (.tmp 33) 35 rfl _ _ rfl rfl _ _ HRUN.out (hK _ _ trivial ?_))
      clear hK K
      go_simp
      refine Rgt.ready (i := 12) (by kernel_rfl) rfl (by kernel_rfl) (fun K hK => ?_)
      go_simp
      refine hK _ _ trivial ?_
      clear hK K
      refine Rgt.done (by kernel_rfl) ?_ _
      go_wp2_with fail
      go_ret
      exact ⟨_, rfl, HO3.out, HB3.out⟩
    · have hd7 : decide ((m : Int) ≤ (k : Int)) = false := decide_eq_false (by omega)
      have hd8 : decide (m ≤ k) = false := decide_eq_false hik
      obtain ⟨J, hJ⟩ : ∃ J, m - k = J := ⟨_, rfl⟩
      have hj1 : (m : Int) - (k : Int) = (J : Int) := by omega
      have hj2 : IntKind.i64.wrap (J : Int) = (J : Int) := by rw [IntKind.wrap_i64]; omega
      have IH := ih (n - k) (by omega) (ds.drop k) _ (c - k) J false w.drew hrl (by omega) (by omega) (hRk.later hdr) (hV.later hdr) (by omega)
      have hel := Da.ov_length (l := ds.take k) (hall.take k)
      have hle := Da.cnt_le (n - k) J false (by omega) (by omega)
      have hdl := Da.dpt_le (n := n - k) (by omega)
      have hfl : (Da.prf ds m b).flatten = (Da.prf (ds.drop k) J false).flatten ++ Da.ov (ds.take k) := by rw [pr (by omega), hJ]; simp
      rw [ur (by omega), hJ]
      obtain ⟨u, hu⟩ : ∃ u, Da.cnt J (n - k) false = u := ⟨_, rfl⟩
      rw [hu] at IH hle ⊢
      have hu64 : u ≤ 64 := by omega
      have hu1 : 1 + u = u + 1 := Nat.add_comm _ _
      rw [hu1]
      obtain ⟨e, he⟩ : ∃ e, Da.ov (ds.take k) = e := ⟨_, rfl⟩
      have OV : ∀ W, Below w.heap.size w W → Calls Tryd.prog 20 #[.slice (some ⟨b1, off1, none⟩) k c] W fun e' w' => e' = .returned (.agg (bytesV e).toArray) ∧ Below W.heap.size W w' := fun W hW => by
        have := rover_any (ds.take k) _ k c hll W (hLk.later hW) (hV.later hW) (by omega)
        rw [he] at this
        exact this
      rw [he] at hel hfl
      obtain ⟨E, hE⟩ : ∃ E, (bytesV e).toArray = E := ⟨_, rfl⟩
      rw [hE] at OV
      have HES := Lib.hid (show E.size = 32 by rw [← hE]; simp [hel])
      have HE := Lib.hid hE
      have HEL := Lib.hid hel
      have HIH := Lib.hid IH
      have HOV := Lib.hid OV
      have HFL := Lib.hid hfl
      have HDR := Lib.hid hdr
      have HK := Lib.hid hik
      clear ih IH SP ul ur pl pr hk hu hik hR hV hLk hRk hdr OV hE hel he hfl hall hn hll hrl hlt1 h hle hdl hu1 hJ
      go_enter Tryd.func24, Tryd.ntmps24
      go_wp2_with fail
      refine HSP.out.mono ?_
      rintro e0 w1 ⟨rfl, rfl⟩
      rename World => w
      clear HSP
      go_upto_region 9 with fail
      refine Rgt.region (fun _ => True) (fun _ => false) (by kernel_rfl) ?_
      refine Rgt.take (i := 0) (x := .slice (some ⟨b1, off1, none⟩) n c) rfl rfl (by kernel_rfl) (by kernel_rfl) (by kernel_rfl) (by kernel_rfl) (fun _ _ _ h => h) (Or.inl ⟨by kernel_rfl, fun w hw => by (go_simp <;> with_reducible rfl)⟩) trivial ?_
      go_simp
      refine Rgt.take (i := 1) (x := .int .i64 (k : Int)) rfl rfl (by kernel_rfl) (by kernel_rfl) (by kernel_rfl) (by kernel_rfl) (fun _ _ _ h => h) (Or.inl ⟨by kernel_rfl, fun w hw => by (go_simp <;> with_reducible rfl)⟩) trivial ?_
      go_simp
      refine Rgt.take (i := 2) (x := .slice (some ⟨b1, off1 + k * 32, none⟩) (n - k) (c - k)) rfl rfl (by kernel_rfl) (by kernel_rfl) (by kernel_rfl) (by kernel_rfl) (fun _ _ _ h => h) (Or.inl ⟨by kernel_rfl, fun w hw => by (go_simp <;> with_reducible rfl)⟩) trivial ?_
      go_simp
      refine Rgt.take (i := 3) (x := .int .i64 (m : Int)) rfl rfl (by kernel_rfl) (by kernel_rfl) (by kernel_rfl) (by kernel_rfl) (fun _ _ _ h => h) (Or.inl ⟨by kernel_rfl, fun w hw => by (go_simp <;> with_reducible rfl)⟩) trivial ?_
      go_simp
      refine Rgt.take (i := 4) (x := .int .i64 (k : Int)) rfl rfl (by kernel_rfl) (by kernel_rfl) (by kernel_rfl) (by kernel_rfl) (fun _ _ _ h => h) (Or.inl ⟨by kernel_rfl, fun w hw => by (go_simp <;> with_reducible rfl)⟩) trivial ?_
      go_simp
      refine Rgt.take (i := 5) (x := .int .i64 (J : Int)) rfl rfl (by kernel_rfl) (by kernel_rfl) (by kernel_rfl) (by kernel_rfl) (fun _ _ _ h => h) (Or.inl ⟨by kernel_rfl, fun w hw => by (go_simp <;> with_reducible rfl)⟩) trivial ?_
      go_simp
      refine Rgt.take (i := 7) (x := .slice (some ⟨b1, off1, none⟩) n c) rfl rfl (by kernel_rfl) (by kernel_rfl) (by kernel_rfl) (by kernel_rfl) (fun _ _ _ h => h) (Or.inl ⟨by kernel_rfl, fun w hw => by (go_simp <;> with_reducible rfl)⟩) trivial ?_
      go_simp
      refine Rgt.take (i := 8) (x := .int .i64 (k : Int)) rfl rfl (by kernel_rfl) (by kernel_rfl) (by kernel_rfl) (by kernel_rfl) (fun _ _ _ h => h) (Or.inl ⟨by kernel_rfl, fun w hw => by (go_simp <;> with_reducible rfl)⟩) trivial ?_
      go_simp
      refine Rgt.take (i := 9) (x := .slice (some ⟨b1, off1, none⟩) k c) rfl rfl (by kernel_rfl) (by kernel_rfl) (by kernel_rfl) (by kernel_rfl) (fun _ _ _ h => h) (Or.inl ⟨by kernel_rfl, fun w hw => by (go_simp <;> with_reducible rfl)⟩) trivial ?_
      go_simp
      refine Rgt.ready (i := 6) (by kernel_rfl) rfl (by kernel_rfl) (fun K hK => ?_)
      go_simp
      refine HIH.out.mono ?_
      rintro e1 W1 ⟨v1, rfl, hown, hb1⟩
      refine hK _ _ trivial ?_
      clear hK K HIH
      have HBW1 := Lib.hid (Kit.step HDR.out hb1)
      have HOV1 := Lib.hid (HOV.out W1 HBW1.out)
      have HOWN := Lib.hid (own_base hown HDR.out.size)
      clear hown hb1 HOV
      refine Rgt.ready (i := 10) (by kernel_rfl) rfl (by kernel_rfl) (fun K hK => ?_)
      go_simp
      refine HOV1.out.mono ?_
      rintro e2 W2 ⟨rfl, hb2⟩
      refine hK _ _ trivial ?_
      clear hK K HOV1
      have hbs := dg_slice_run (tS := 35) Tryd.underlying35 dgI_doc E HES.out W2
      have hba := new12 W2 (.cells E 40)
      have hrow : (W2.alloc (.cells E 40)).rangeAt W2.heap.size 0 (bytesV e) := by rw [← HE.out]; exact (Arr.made W2 40 (bytesV e)).rng
      have hb3 := Kit.step hb2 hba
      have hbw := Kit.step HBW1.out hb3
      obtain ⟨g2, cap2, W3, hrun, hown3, hgr3, hat⟩ := dg_append_run (tS := 35) Tryd.underlying35 dgI_doc 35 _ w.heap.size v1 u _ (own_later12 HOWN.out hb3) W2.heap.size e HEL.out hrow (by omega) hbw.size
      have hbw3 : Below w.heap.size w W3 := Below.grown hbw hgr3 hbw.size (fun k e => (own_blk (own_later12 HOWN.out hb3) k e).1)
      rw [← bytesV_app, ← HFL.out] at hown3
      have HRUN := Lib.hid hrun
      have HBS := Lib.hid hbs
      have HO3 := Lib.hid hown3
      have HB3 := Lib.hid hbw3
      clear hb2 hbs hba hrow hb3 hbw hrun hown3 hgr3 hat hbw3 HOWN
      refine Rgt.ready (i := 11) (by kernel_rfl) rfl (by kernel_rfl) (fun K hK => oper_slice 35 1 _ rfl #[(0, .agg E)] (by first | rfl | simp [Act.eval, Act.put]) _ _ HBS.out (hK _ _ trivial ?_))
      clear hK K
      refine Rgt.ready (i := 12) (by kernel_rfl) rfl (by kernel_rfl) (fun K hK => oper_append (.tmp 41) (.tmp 46) 35 rfl _ _ rfl rfl _ _ HRUN.out (hK _ _ trivial ?_))
      clear hK K
      go_simp
      refine Rgt.ready (i := 13) (by kernel_rfl) rfl (by kernel_rfl) (fun K hK => ?_)
      go_simp
      refine hK _ _ trivial ?_
      clear hK K
      refine Rgt.done (by kernel_rfl) ?_ _
      go_wp2_with fail
      go_ret
      exact ⟨_, rfl, HO3.out, HB3.out⟩
end Go.Proofs.YtfccpfmgkpcnoaaDoor
namespace Go.Proofs.YtfccpfmgkpcnoaaDoor.Da
theorem mde_len : ∀ (n m : Nat) (old : List UInt8) (w : Bool) (ps : List (List UInt8)), 1 ≤ m → m ≤ n → old.length = 32 → all32 ps → ps.length = cnt m n w → (mde m n old w ps).1.length = 32 ∧ (mde m n old w ps).2.length = 32 := by
  intro n
  induction n using Nat.strongRecOn with
  | ind n ih =>
    intro m old w ps h1 h2 ho hp hc
    by_cases he : m = n
    · subst he
      rw [mde_all]
      rw [cnt_all] at hc
      cases w with
      | true => exact ⟨ho, ho⟩
      | false => exact ⟨hp.at_ (by rw [hc]; decide), hp.at_ (by rw [hc]; decide)⟩
    obtain ⟨s1, s2, _⟩ := spl_lt (n := n) (by omega)
    by_cases k : m ≤ spl n
    · rw [cnt_left w h1 (by omega) k] at hc
      rw [mde_left old w ps h1 (by omega) k]
      exact ⟨(ih (spl n) s2 m old w _ h1 k ho (hp.take _) (by rw [List.length_take]; omega)).1, nd_length _ _⟩
    · rw [mde_right old w ps (by omega) (by omega)]
      exact ⟨nd_length _ _, nd_length _ _⟩
end Go.Proofs.YtfccpfmgkpcnoaaDoor.Da
namespace Go.Proofs.YtfccpfmgkpcnoaaDoor
open Go.RowKit
set_option linter.unusedVariables false
set_option linter.unusedSimpArgs false
theorem exec_mid14 {P : Program} {o : Oper} {a : Act} {w : World} {ty : TypeId} {x : Operand} {b off : Nat} {V : Value} (ho : o.op = .load ty x) (hx : a.eval x = .pointer (some ⟨b, off, none⟩)) (h : (Instr.loadAt ty (.pointer (some ⟨b, off, none⟩))).run P w = .ok V w) :
    (execOp a.eval o).run P w = .ok (.value V) w := by
  unfold execOp
  simp only [ho, hx, h, Result.andThen_ok, Sem.run_bind, Sem.run_pure]
theorem results_rows2 {P : Program} {fn : Func} {p q : Tmp} {a b : TypeId} (h : fn.results = #[.cell p a, .cell q b]) (tmps : Array Value) {w : World} {g1 g2 : Nat} {t1 t2 : TypeId} {D1 D2 : Array Value} {f1 f2 : Nat × Nat} {d1 d2 : TypeDesc}
    (hp : tmps.getD p undef = .pointer (some ⟨g1, 0, none⟩)) (hq : tmps.getD q undef = .pointer (some ⟨g2, 0, none⟩)) (hg1 : w.heap[g1]? = some (.cells D1 t1 f1)) (hg2 : w.heap[g2]? = some (.cells D2 t2 f2))
    (hu1 : P.underlying a = some d1) (hd1 : (match d1 with | .struct _ | .array _ _ => true | _ => false) = true) (hi1 : (P.info? a).map (·.size) = some D1.size)
    (hu2 : P.underlying b = some d2) (hd2 : (match d2 with | .struct _ | .array _ _ => true | _ => false) = true) (hi2 : (P.info? b).map (·.size) = some D2.size) :
    (results fn tmps).run P w = .ok (.tuple #[.agg D1, .agg D2]) w := by
  have hp' : tmps[p]?.getD undef = .pointer (some ⟨g1, 0, none⟩) := by simpa using hp
  have hq' : tmps[q]?.getD undef = .pointer (some ⟨g2, 0, none⟩) := by simpa using hq
  simp [results, h, hp', hq', asAddr, run_loadVar_row w g1 t1 a D1 f1 d1 hg1 hu1 hd1 hi1, run_loadVar_row w g2 t2 b D2 f2 d2 hg2 hu2 hd2 hi2, Sem.run_bind, Result.andThen]
/-- two rows stored, one behind the other -/
theorem two_rows {w X : World} {g : Nat} {T : TypeId} {Z : Array Value} (F1 F2 : Array Value) (h1 : X.heap[g + 1]? = some (.cells Z T (0, 0))) (h2 : X.heap[g + 2]? = some (.cells Z T (0, 0))) (hb : Below w.heap.size w X) (hg : w.heap.size = g) :
    (X.setRow (g + 1) F1).heap[g + 2]? = some (.cells Z T (0, 0)) ∧ ((X.setRow (g + 1) F1).setRow (g + 2) F2).heap[g + 1]? = some (.cells F1 T (0, 0)) ∧ ((X.setRow (g + 1) F1).setRow (g + 2) F2).heap[g + 2]? = some (.cells F2 T (0, 0)) ∧ Below w.heap.size w ((X.setRow (g + 1) F1).setRow (g + 2) F2) := by
  have k : (X.setRow (g + 1) F1).heap[g + 2]? = some (.cells Z T (0, 0)) := by rw [setRow_other X (g + 1) (g + 2) F1 (by omega)]; exact h2
  exact ⟨k, by rw [setRow_other _ (g + 2) (g + 1) F2 (by omega)]; exact setRow_heap _ _ _ _ _ _ h1, setRow_heap _ _ _ _ _ _ k, (hb.trans (below_row (by omega))).trans (below_row (by omega))⟩
set_option maxRecDepth 100000 in
set_option maxHeartbeats 8000000 in
theorem rmade_of (Z : Array Value) (hZ : Z = (bytesV (List.replicate 32 0)).toArray) (hzs : ∀ w, Sem.run Tryd.prog (zeroValue 40) w = .ok (.agg Z) w) :
    ∀ (n m : Nat) (b : Bool) (old : List UInt8) (ps : List (List UInt8)) (o : Option Addr) (c : Nat) (w : World), 1 ≤ m → m ≤ n → n ≤ 512 → old.length = 32 → ps.length = Da.cnt m n b → DgIs w o ps c → Rds w →
    Calls Tryd.prog 46 #[.int .i64 (m : Int), .int .i64 (n : Int), .agg (bytesV old).toArray, .bool b, .slice o ps.length c] w fun e w' => e = .returned (.tuple #[.agg (bytesV (Da.mde m n old b ps).1).toArray, .agg (bytesV (Da.mde m n old b ps).2).toArray]) ∧ Below w.heap.size w w' := by
  intro n
  induction n using Nat.strongRecOn with
  | ind n ih =>
    intro m b old ps o c w hm1 hmn h5 hdl hps hR hV
    obtain ⟨hfl1, hfl2⟩ := Da.mde_len n m old b ps hm1 hmn hdl hR.all hps
    obtain ⟨g, hg⟩ : ∃ g, w.heap.size = g := ⟨_, rfl⟩
    obtain ⟨DA, hDA⟩ : ∃ DA, (bytesV old).toArray = DA := ⟨_, rfl⟩
    obtain ⟨W1, hW1⟩ : ∃ W1, w.alloc (.cells DA 40) = W1 := ⟨_, rfl⟩
    have hs1 : W1.heap.size = g + 1 := by rw [← hW1, World.size_alloc, hg]
    obtain ⟨W2, hW2⟩ : ∃ W2, W1.alloc (.cells Z 40) = W2 := ⟨_, rfl⟩
    have hs2 : W2.heap.size = g + 2 := by rw [← hW2, World.size_alloc, hs1]
    obtain ⟨W3, hW3⟩ : ∃ W3, W2.alloc (.cells Z 40) = W3 := ⟨_, rfl⟩
    have hs3 : W3.heap.size = g + 3 := by rw [← hW3, World.size_alloc, hs2]
    have hb1 : Below w.heap.size w W1 := by rw [← hW1]; exact new12 _ _
    have hb2 : Below W1.heap.size W1 W2 := by rw [← hW2]; exact new12 _ _
    have hb3 : Below W2.heap.size W2 W3 := by rw [← hW3]; exact new12 _ _
    have hB3 := Kit.step (Kit.step hb1 hb2) hb3
    have hg3 : W3.heap[g]? = some (.cells DA 40 (0, 0)) := by rw [hb3.block g (by omega), hb2.block g (by omega), ← hW1, ← hg]; exact World.alloc_heap_new w _
    have hy3 : W3.heap[g + 1]? = some (.cells Z 40 (0, 0)) := by rw [hb3.block (g + 1) (by omega), ← hW2, ← hs1]; exact World.alloc_heap_new W1 _
    have hz3 : W3.heap[g + 2]? = some (.cells Z 40 (0, 0)) := by rw [← hW3, ← hs2]; exact World.alloc_heap_new W2 _
    obtain ⟨F1, hF1⟩ : ∃ F, (bytesV (Da.mde m n old b ps).1).toArray = F := ⟨_, rfl⟩
    obtain ⟨F2, hF2⟩ : ∃ F, (bytesV (Da.mde m n old b ps).2).toArray = F := ⟨_, rfl⟩
    have HF1S : Hid ((Tryd.prog.info? 40).map (·.size) = some F1.size) := Lib.hid (by rw [d32_info, ← hF1]; simp [hfl1])
    have HF1O : Hid (F1.all (·.oneCell') = true) := Lib.hid (by rw [← hF1]; exact all_oneCell_toArray (bytesV_one _))
    have HF1Z : Hid (Z.size = F1.size) := Lib.hid (by rw [hZ, ← hF1]; simp [hfl1])
    have HF2S : Hid ((Tryd.prog.info? 40).map (·.size) = some F2.size) := Lib.hid (by rw [d32_info, ← hF2]; simp [hfl2])
    have HF2O : Hid (F2.all (·.oneCell') = true) := Lib.hid (by rw [← hF2]; exact all_oneCell_toArray (bytesV_one _))
    have HF2Z : Hid (Z.size = F2.size) := Lib.hid (by rw [hZ, ← hF2]; simp [hfl2])
    have HDS : Hid ((Tryd.prog.info? 40).map (·.size) = some DA.size) := Lib.hid (by rw [d32_info, ← hDA]; simp [hdl])
    have HW1 := Lib.hid hW1
    have HW2 := Lib.hid hW2
    have HW3 := Lib.hid hW3
    have HG := Lib.hid hg
    have HS1 := Lib.hid hs1
    have HS2 := Lib.hid hs2
    have HB3 := Lib.hid hB3
    have HG3 := Lib.hid hg3
    have HY3 := Lib.hid hy3
    have HZ3 := Lib.hid hz3
    rw [hF1, hF2, hDA]
    by_cases h : m = n
    · subst h
      have hq : ((m : Int) == (m : Int)) = true := by simp
      have hdq : decide ((m : Int) = (m : Int)) = true := by simp
      rw [Da.cnt_all] at hps
      rw [Da.mde_all] at hF1 hF2
      clear ih hW1 hW2 hW3 hg hs1 hs2 hs3 hb1 hb2 hb3 hg3 hy3 hz3 hfl1 hfl2
      cases b with
      | true =>
        have e1 : F1 = DA := by rw [← hF1, ← hDA]; rfl
        have e2 : F2 = DA := by rw [← hF2, ← hDA]; rfl
        subst e1
        subst e2
        obtain ⟨L, hL⟩ : ∃ L, ps.length = L := ⟨_, rfl⟩
        rw [hL]
        obtain ⟨t1, t2, t3, t4⟩ := two_rows (w := w) (X := W3.drew) F2 F2 HY3.out HZ3.out (HB3.out.trans (Kit.dn' W3 1 |>.mono (by exact HB3.out.size))) HG.out
        have HT := Lib.hid (And.intro t1 (And.intro t2 (And.intro t3 t4)))
        obtain ⟨C, hC⟩ : ∃ C : World → Prop, (fun v : World => v.heap[g]? = some (.cells F2 40 (0, 0))) = C := ⟨_, rfl⟩
        have HC2 : Hid (∀ v, C v → v.heap[g]? = some (.cells F2 40 (0, 0))) := Lib.hid fun v hv => by rw [← hC] at hv; exact hv
        have hC0 : C W3.drew := by rw [← hC]; exact HG3.out
        have hC1 : C (W3.drew.setRow (g + 1) F2) := by rw [← hC]; exact (setRow_other _ (g + 1) g F2 (by omega)).trans HG3.out
        have hC2 : C ((W3.drew.setRow (g + 1) F2).setRow (g + 2) F2) := by rw [← hC]; exact ((setRow_other _ (g + 2) g F2 (by omega)).trans (setRow_other _ (g + 1) g F2 (by omega))).trans HG3.out
        clear t1 t2 t3 t4 hC hps hF1 hF2 hDA hdl hR hV hB3 hZ hL
        go_enter Tryd.func46, Tryd.ntmps46
        go_upto_region 1 with fail
        rw [HW1.out, HW2.out, HW3.out, HG.out, show g + 1 + 1 = g + 2 from rfl]
        go_upto_region 3 with fail
        refine Rgt.region C (fun _ => false) (by kernel_rfl) ?_
        refine Rgt.take (i := 0) (x := .agg F2) rfl rfl (by kernel_rfl) (by kernel_rfl) (by kernel_rfl) (by kernel_rfl) (fun _ _ _ h => h) (Or.inl ⟨by kernel_rfl, fun w hw => exec_row (t := 40) (fr := (0, 0)) rfl rfl (HC2.out w hw) d32_under rfl HDS.out⟩) hC0 ?_
        go_simp
        refine Rgt.take (i := 1) (x := .agg F2) rfl rfl (by kernel_rfl) (by kernel_rfl) (by kernel_rfl) (by kernel_rfl) (fun _ _ _ h => h) (Or.inl ⟨by kernel_rfl, fun w hw => exec_row (t := 40) (fr := (0, 0)) rfl rfl (HC2.out w hw) d32_under rfl HDS.out⟩) hC0 ?_
        go_simp
        refine Rgt.ready (i := 2) (by kernel_rfl) rfl (by kernel_rfl) (fun K hK => ?_)
        refine wp_store_row 40 (.tmp 10) (.tmp 23) rfl (g + 1) F2 rfl rfl 40 Z HY3.out HF2S.out HF2Z.out HF2O.out (hK _ _ hC1 ?_)
        clear hK K
        refine Rgt.ready (i := 3) (by kernel_rfl) rfl (by kernel_rfl) (fun K hK => ?_)
        refine wp_store_row 40 (.tmp 11) (.tmp 24) rfl (g + 2) F2 rfl rfl 40 Z HT.out.1 HF2S.out HF2Z.out HF2O.out (hK _ _ hC2 ?_)
        clear hK K
        refine Rgt.done (by kernel_rfl) ?_ _
        go_wp2_with fail
        refine bodyPost_ret (results_rows2 rfl _ (g1 := g + 1) (g2 := g + 2) rfl rfl HT.out.2.1 HT.out.2.2.1 d32_under rfl HF2S.out d32_under rfl HF2S.out) rfl ?_
        exact ⟨rfl, HT.out.2.2.2⟩
      | false =>
        rw [if_neg (by simp)] at hps hF1 hF2
        have e2 : F1 = F2 := by rw [← hF2, ← hF1]
        subst e2
        obtain ⟨b1, off1, rfl, hlt1, hrng⟩ := hR.at_ 0 (by omega)
        rw [Nat.zero_mul, Nat.add_zero] at hrng
        have hd0 : (bi ps 0).length = 32 := hR.all.at_ (by omega)
        have hcl := hR.le
        rw [hps] at hcl ⊢
        obtain ⟨t1, t2, t3, t4⟩ := two_rows (w := w) (X := W3.drew) F1 F1 HY3.out HZ3.out (HB3.out.trans (Kit.dn' W3 1 |>.mono (by exact HB3.out.size))) HG.out
        have HT := Lib.hid (And.intro t1 (And.intro t2 (And.intro t3 t4)))
        have hlt3 : b1 < g := by rw [← HG.out]; exact hlt1
        have hrg3 : W3.drew.rangeAt b1 off1 (bytesV (bi ps 0)) := rangeAt_later hrng (HB3.out.trans (Kit.dn' W3 1 |>.mono (by exact HB3.out.size))) hlt1
        obtain ⟨C, hC⟩ : ∃ C : World → Prop, (fun v : World => v.rangeAt b1 off1 (bytesV (bi ps 0))) = C := ⟨_, rfl⟩
        have HC2 : Hid (∀ v, C v → (Instr.loadAt 40 (.pointer (some ⟨b1, off1, none⟩))).run Tryd.prog v = .ok (.agg F1) v) := Lib.hid fun v hv => by
          rw [← hC] at hv
          have := dg_load_run d32_under dgI_doc hd0 hv
          rw [hF2] at this
          exact this
        have hset : ∀ (X : World) (k : Nat), g < k → X.rangeAt b1 off1 (bytesV (bi ps 0)) → (X.setRow k F1).rangeAt b1 off1 (bytesV (bi ps 0)) := fun X k hk hr j v hv => by
          rw [← hr j v hv]
          exact World.cell?_of_block (setRow_other X k b1 F1 (by omega))
        have hC0 : C W3.drew := by rw [← hC]; exact hrg3
        have hC1 : C (W3.drew.setRow (g + 1) F1) := by rw [← hC]; exact hset _ _ (by omega) hrg3
        have hC2 : C ((W3.drew.setRow (g + 1) F1).setRow (g + 2) F1) := by rw [← hC]; exact hset _ _ (by omega) (hset _ _ (by omega) hrg3)
        clear t1 t2 t3 t4 hC hps hF1 hF2 hDA hdl hR hV hB3 hZ hset hrg3 hlt3 hrng hd0 hlt1
        go_enter Tryd.func46, Tryd.ntmps46
        go_upto_region 1 with fail
        rw [HW1.out, HW2.out, HW3.out, HG.out, show g + 1 + 1 = g + 2 from rfl]
        go_upto_region 4 with fail
        refine Rgt.region C (fun _ => false) (by kernel_rfl) ?_
        refine Rgt.take (i := 0) (x := .slice (some ⟨b1, off1, none⟩) 1 c) rfl rfl (by kernel_rfl) (by kernel_rfl) (by kernel_rfl) (by kernel_rfl) (fun _ _ _ h => h) (Or.inl ⟨by kernel_rfl, fun w hw => by (go_simp <;> with_reducible rfl)⟩) hC0 ?_
        go_simp
        refine Rgt.take (i := 1) (x := .pointer (some ⟨b1, off1, none⟩)) rfl rfl (by kernel_rfl) (by kernel_rfl) (by kernel_rfl) (by kernel_rfl) (fun _ _ _ h => h) (Or.inl ⟨by kernel_rfl, fun w hw => by (go_simp <;> with_reducible rfl)⟩) hC0 ?_
        go_simp
        refine Rgt.take (i := 2) (x := .agg F1) rfl rfl (by kernel_rfl) (by kernel_rfl) (by kernel_rfl) (by kernel_rfl) (fun _ _ _ h => h) (Or.inl ⟨by kernel_rfl, fun w hw => exec_mid14 rfl rfl (HC2.out w hw)⟩) hC0 ?_
        go_simp
        refine Rgt.take (i := 3) (x := .slice (some ⟨b1, off1, none⟩) 1 c) rfl rfl (by kernel_rfl) (by kernel_rfl) (by kernel_rfl) (by kernel_rfl) (fun _ _ _ h => h) (Or.inl ⟨by kernel_rfl, fun w hw => by (go_simp <;> with_reducible rfl)⟩) hC0 ?_
        go_simp
        refine Rgt.take (i := 4) (x := .pointer (some ⟨b1, off1, none⟩)) rfl rfl (by kernel_rfl) (by kernel_rfl) (by kernel_rfl) (by kernel_rfl) (fun _ _ _ h => h) (Or.inl ⟨by kernel_rfl, fun w hw => by (go_simp <;> with_reducible rfl)⟩) hC0 ?_
        go_simp
        refine Rgt.take (i := 5) (x := .agg F1) rfl rfl (by kernel_rfl) (by kernel_rfl) (by kernel_rfl) (by kernel_rfl) (fun _ _ _ h => h) (Or.inl ⟨by kernel_rfl, fun w hw => exec_mid14 rfl rfl (HC2.out w hw)⟩) hC0 ?_
        go_simp
        refine Rgt.ready (i := 6) (by kernel_rfl) rfl (by kernel_rfl) (fun K hK => ?_)
        refine wp_store_row 40 (.tmp 10) (.tmp 27) rfl (g + 1) F1 rfl rfl 40 Z HY3.out HF1S.out HF1Z.out HF1O.out (hK _ _ hC1 ?_)
        clear hK K
        refine Rgt.ready (i := 7) (by kernel_rfl) rfl (by kernel_rfl) (fun K hK => ?_)
        refine wp_store_row 40 (.tmp 11) (.tmp 30) rfl (g + 2) F1 rfl rfl 40 Z HT.out.1 HF1S.out HF1Z.out HF1O.out (hK _ _ hC2 ?_)
        clear hK K
        refine Rgt.done (by kernel_rfl) ?_ _
        go_wp2_with fail
        refine bodyPost_ret (results_rows2 rfl _ (g1 := g + 1) (g2 := g + 2) rfl rfl HT.out.2.1 HT.out.2.2.1 d32_under rfl HF1S.out d32_under rfl HF1S.out) rfl ?_
        exact ⟨rfl, HT.out.2.2.2⟩
    have hq : ((m : Int) == (n : Int)) = false := by simp; omega
    have hdq : decide ((m : Int) = (n : Int)) = false := by simp; omega
    have hdq2 : decide (m = n) = false := by simp; omega
    have SP := rsplit_any n (by omega) (by omega) W3
    obtain ⟨s1, s2, _⟩ := Da.spl_lt (n := n) (by omega)
    have ul := Da.cnt_left (m := m) (n := n) b hm1 (by omega)
    have ur := Da.cnt_right (m := m) (n := n) b (by omega)
    have ml := Da.mde_left (m := m) (n := n) old b ps hm1 (by omega)
    have mr := Da.mde_right (m := m) (n := n) old b ps (by omega)
    obtain ⟨k, hk⟩ : ∃ k, Da.spl n = k := ⟨_, rfl⟩
    rw [hk] at SP s1 s2 ul ur ml mr
    have hc64 := Da.cnt_le n m b hm1 hmn
    have hd63 := Da.dpt_le (n := n) (by omega)
    have hpos : 1 ≤ Da.cnt m n b := by
      by_cases hik : m ≤ k
      · rw [ul hik]; omega
      · rw [ur (by omega)]; omega
    obtain ⟨u, hpl⟩ : ∃ u, ps.length = u + 1 := ⟨ps.length - 1, by omega⟩
    have hu8 : u ≤ 64 := by omega
    rw [show ps.length - 1 = u by omega] at ml mr
    obtain ⟨M, hM⟩ : ∃ M, u + 1 = M := ⟨_, rfl⟩
    rw [hpl, hM]
    have hul : Da.cnt m n b = u + 1 := by omega
    have hcl := hR.le
    have hca := hR.cap
    rw [hpl] at hcl
    unfold maxLen at hca
    have hR3 := hR.later hB3
    have hV3 := hV.later hB3
    obtain ⟨b1, off1, rfl, hlt1, hrng⟩ := hR3.at_ u (by omega)
    have hll : (bi ps u).length = 32 := hR.all.at_ (by omega)
    obtain ⟨LA, hLA⟩ : ∃ LA, (bytesV (bi ps u)).toArray = LA := ⟨_, rfl⟩
    have HLS : Hid ((Tryd.prog.info? 40).map (·.size) = some LA.size) := Lib.hid (by rw [d32_info, ← hLA]; simp [hll])
    have HLM : Hid ((Tryd.prog.info? 40).map (·.size) = some (bytesV (bi ps u)).length) := Lib.hid (by rw [d32_info]; simp [hll])
    have HLO : Hid (LA.all (·.oneCell') = true) := Lib.hid (by rw [← hLA]; exact all_oneCell_toArray (bytesV_one _))
    have HLZ : Hid (Z.size = LA.size) := Lib.hid (by rw [hZ, ← hLA]; simp [hll])
    have hw1 : (M : Int) - 1 = (u : Int) := by omega
    have hwu : IntKind.i64.wrap (u : Int) = (u : Int) := by rw [IntKind.wrap_i64]; omega
    have h0u : (0 : Int) ≤ (u : Int) := by omega
    have huM : u < M := by omega
    have huM2 : u ≤ M := by omega
    have huM3 : (u : Int) < (M : Int) := by omega
    have huc : u ≤ c := by omega
    obtain ⟨p, hp⟩ : ∃ p, W3.heap.size = p := ⟨_, rfl⟩
    obtain ⟨W4, hW4⟩ : ∃ W4, W3.alloc (.cells Z 40) = W4 := ⟨_, rfl⟩
    obtain ⟨W5, hW5⟩ : ∃ W5, W4.setRow p LA = W5 := ⟨_, rfl⟩
    have hA4 : W4.heap[p]? = some (.cells Z 40 (0, 0)) := by rw [← hW4, ← hp]; exact World.alloc_heap_new W3 _
    have hA5 : W5.heap[p]? = some (.cells LA 40 (0, 0)) := by rw [← hW5]; exact setRow_heap _ _ _ _ _ _ hA4
    have hb5 : Below W3.heap.size W3 W5 := by rw [← hW5, ← hW4]; exact (new12 _ _).trans (below_row (Nat.le_of_eq hp))
    have hg5 : W5.heap[g]? = some (.cells DA 40 (0, 0)) := by rw [hb5.block g (by omega)]; exact hg3
    have hy5 : W5.heap[g + 1]? = some (.cells Z 40 (0, 0)) := by rw [hb5.block (g + 1) (by omega)]; exact hy3
    have hz5 : W5.heap[g + 2]? = some (.cells Z 40 (0, 0)) := by rw [hb5.block (g + 2) (by omega)]; exact hz3
    have HPP : Hid (g + 2 < p) := Lib.hid (by omega)
    have hR5 := hR3.later hb5
    have hV5 := hV3.later hb5
    have hsub := hR5.part 0 u (by omega) c (by omega) (by unfold maxLen; omega)
    rw [Nat.zero_mul, Nat.add_zero, List.drop_zero] at hsub
    have HSP := Lib.hid SP
    have HW4 := Lib.hid hW4
    have HW5 := Lib.hid hW5
    have HP := Lib.hid hp
    have HA4 := Lib.hid hA4
    have HA5 := Lib.hid hA5
    have HB5 := Lib.hid (Kit.step HB3.out hb5)
    have HG5 := Lib.hid hg5
    have HY5 := Lib.hid hy5
    have HZ5 := Lib.hid hz5
    have HLA := Lib.hid hLA
    have HRNG := Lib.hid hrng
    clear SP hk hpos hR hV hR3 hV3 hlt1 hrng hp hW4 hW5 hA4 hA5 hb5 hg5 hy5 hz5 hR5 hc64 hd63 hW1 hW2 hW3 hg hs1 hs2 hs3 hb1 hb2 hb3 hg3 hy3 hz3 hB3
    by_cases hik : m ≤ k
    · have hd7 : decide ((m : Int) ≤ (k : Int)) = true := decide_eq_true (by omega)
      have hd8 : decide (m ≤ k) = true := decide_eq_true hik
      have ul2 := ul hik
      have ml2 := ml hik
      have hu : Da.cnt m k b = u := by omega
      have hlt : (ps.take u).length = u := by rw [List.length_take]; omega
      have IH := ih k s2 m b old (ps.take u) _ c W5 hm1 hik (by omega) hdl (by rw [hlt, hu]) hsub hV5
      have hRl := Da.mde_len k m old b (ps.take u) hm1 hik hdl hsub.all (by rw [hlt, hu])
      obtain ⟨R, hR⟩ : ∃ R, Da.mde m k old b (ps.take u) = R := ⟨_, rfl⟩
      rw [hlt, hR] at IH
      rw [hR] at hRl ml2
      obtain ⟨A1, hA1⟩ : ∃ A, (bytesV R.1).toArray = A := ⟨_, rfl⟩
      obtain ⟨A2, hA2⟩ : ∃ A, (bytesV R.2).toArray = A := ⟨_, rfl⟩
      have ND := fun W (hb : Below W5.heap.size W5 W) => rnode_any R.2 (bi ps u) hRl.2 hll W (hV5.later hb)
      have e1 : F1 = A1 := by rw [← hF1, ← hA1, ml2]
      have e2 : (bytesV (Da.nd R.2 (bi ps u))).toArray = F2 := by rw [← hF2, ml2]
      subst e1
      rw [hA1, hA2, hDA] at IH
      rw [hA2, HLA.out, e2] at ND
      have HA1S : Hid ((Tryd.prog.info? 40).map (·.size) = some F1.size) := Lib.hid (by rw [d32_info, ← hA1]; simp [hRl.1])
      have HA1O : Hid (F1.all (·.oneCell') = true) := Lib.hid (by rw [← hA1]; exact all_oneCell_toArray (bytesV_one _))
      have HA1Z : Hid (Z.size = F1.size) := Lib.hid (by rw [hZ, ← hA1]; simp [hRl.1])
      have HA2S : Hid ((Tryd.prog.info? 40).map (·.size) = some A2.size) := Lib.hid (by rw [d32_info, ← hA2]; simp [hRl.2])
      have HA2O : Hid (A2.all (·.oneCell') = true) := Lib.hid (by rw [← hA2]; exact all_oneCell_toArray (bytesV_one _))
      have HA2Z : Hid (Z.size = A2.size) := Lib.hid (by rw [hZ, ← hA2]; simp [hRl.2])
      have HIH := Lib.hid IH
      have HND := Lib.hid ND
      have HIK := Lib.hid hik
      clear IH ND hR hRl hA1 hA2 e2 hu hlt hik hsub hV5 hdl hll ul ur ml mr ul2 ml2 ih hDA hpl hps hM hZ hLA hF1 hF2 hfl1 hfl2 hul
      go_enter Tryd.func46, Tryd.ntmps46
      go_upto_region 1 with fail
      rw [HW1.out, HW2.out, HW3.out, HG.out, show g + 1 + 1 = g + 2 from rfl]
      go_wp2_with fail
      refine HSP.out.mono ?_
      rintro e0 w2 ⟨rfl, rfl⟩
      rename World => W3
      clear HSP
      go_upto_region 6 with fail
      apply wp_region_lit
      (refine wpList_plain rfl (fun K hK => ?_); go_simp; refine hK _ _ ?_; clear hK K)
      (refine wpList_plain rfl (fun K hK => ?_); go_simp; refine hK _ _ ?_; clear hK K)
      (refine wpList_plain rfl (fun K hK => ?_); go_simp; refine hK _ _ ?_; clear hK K)
      (refine wpList_plain rfl (fun K hK => ?_); go_simp; refine hK _ _ ?_; clear hK K)
      (refine wpList_plain rfl (fun K hK => ?_); go_simp; refine hK _ _ ?_; clear hK K)
      refine wpList_load_mid rfl 40 (.tmp 37) rfl b1 (off1 + u * 32) rfl (bytesV (bi ps u)) _ HRNG.out d32_under rfl HLM.out ?_
      rw [HLA.out]
      (refine wpList_plain rfl (fun K hK => ?_); go_simp; refine hK _ _ ?_; clear hK K)
      rw [HW4.out, HP.out]
      refine wpList_store_row rfl 40 (.tmp 13) (.tmp 38) rfl p LA rfl rfl 40 Z HA4.out HLS.out HLZ.out HLO.out ?_
      rw [HW5.out]
      go_upto_region 9 with fail
      apply wp_region_lit
      (refine wpList_plain rfl (fun K hK => ?_); go_simp; refine hK _ _ ?_; clear hK K)
      (refine wpList_plain rfl (fun K hK => ?_); go_simp; refine hK _ _ ?_; clear hK K)
      refine wpList_load_row rfl 40 (.tmp 7) rfl g rfl 40 DA (0, 0) _ HG5.out d32_under rfl HDS.out ?_
      (refine wpList_plain rfl (fun K hK => ?_); go_simp; refine hK _ _ ?_; clear hK K)
      (refine wpList_plain rfl (fun K hK => ?_); go_simp; refine hK _ _ ?_; clear hK K)
      (refine wpList_plain rfl (fun K hK => ?_); go_simp)
      refine HIH.out.mono ?_
      rintro e1 W6 ⟨rfl, hb6⟩
      refine hK _ _ ?_
      clear hK K HIH
      obtain ⟨q, hq6⟩ : ∃ q, W6.heap.size = q := ⟨_, rfl⟩
      obtain ⟨W7, hW7⟩ : ∃ W7, W6.alloc (.cells Z 40) = W7 := ⟨_, rfl⟩
      have hs7 : W7.heap.size = q + 1 := by rw [← hW7, World.size_alloc, hq6]
      obtain ⟨W8, hW8⟩ : ∃ W8, W7.alloc (.cells Z 40) = W8 := ⟨_, rfl⟩
      have hb7 : Below W6.heap.size W6 W7 := by rw [← hW7]; exact new12 _ _
      have hb8 : Below W7.heap.size W7 W8 := by rw [← hW8]; exact new12 _ _
      have hq8 : W8.heap[q]? = some (.cells Z 40 (0, 0)) := by rw [hb8.block q (by omega), ← hW7, ← hq6]; exact World.alloc_heap_new W6 _
      have hr8 : W8.heap[q + 1]? = some (.cells Z 40 (0, 0)) := by rw [← hW8, ← hs7]; exact World.alloc_heap_new W7 _
      obtain ⟨W9, hW9⟩ : ∃ W9, W8.setRow q F1 = W9 := ⟨_, rfl⟩
      have hr9 : W9.heap[q + 1]? = some (.cells Z 40 (0, 0)) := by rw [← hW9, setRow_other W8 q (q + 1) F1 (by omega)]; exact hr8
      have hq9 : W9.heap[q]? = some (.cells F1 40 (0, 0)) := by rw [← hW9]; exact setRow_heap _ _ _ _ _ _ hq8
      obtain ⟨W10, hW10⟩ : ∃ W10, W9.setRow (q + 1) A2 = W10 := ⟨_, rfl⟩
      have hq10 : W10.heap[q]? = some (.cells F1 40 (0, 0)) := by rw [← hW10, setRow_other W9 (q + 1) q A2 (by omega)]; exact hq9
      have hr10 : W10.heap[q + 1]? = some (.cells A2 40 (0, 0)) := by rw [← hW10]; exact setRow_heap _ _ _ _ _ _ hr9
      have hb10 : Below W6.heap.size W6 W10 := by rw [← hW10, ← hW9]; exact ((Kit.step hb7 hb8).trans (below_row (by omega))).trans (below_row (by omega))
      have hb510 := Kit.step hb6 hb10
      have hpq : p < q := by have := (Array.getElem?_eq_some_iff.1 HA5.out).1; have := hb6.size; omega
      have hgp : g + 2 < p := HPP.out
      have hp10 : W10.heap[p]? = some (.cells LA 40 (0, 0)) := by rw [hb510.block p (Array.getElem?_eq_some_iff.1 HA5.out).1]; exact HA5.out
      have hy10 : W10.heap[g + 1]? = some (.cells Z 40 (0, 0)) := by rw [hb510.block (g + 1) (Array.getElem?_eq_some_iff.1 HY5.out).1]; exact HY5.out
      have hz10 : W10.heap[g + 2]? = some (.cells Z 40 (0, 0)) := by rw [hb510.block (g + 2) (Array.getElem?_eq_some_iff.1 HZ5.out).1]; exact HZ5.out
      obtain ⟨C, hC⟩ : ∃ C : World → Prop, (fun v : World => v.heap[p]? = some (.cells LA 40 (0, 0)) ∧ v.heap[q]? = some (.cells F1 40 (0, 0)) ∧ v.heap[q + 1]? = some (.cells A2 40 (0, 0))) = C := ⟨_, rfl⟩
      have HC2 : Hid (∀ v, C v → v.heap[p]? = some (.cells LA 40 (0, 0)) ∧ v.heap[q]? = some (.cells F1 40 (0, 0)) ∧ v.heap[q + 1]? = some (.cells A2 40 (0, 0))) := Lib.hid fun v hv => by rw [← hC] at hv; exact hv
      have HCB : Hid (∀ v, Below W10.heap.size W10 v → C v) := Lib.hid fun v hv => by
        rw [← hC]
        exact ⟨by rw [hv.block p (Array.getElem?_eq_some_iff.1 hp10).1]; exact hp10, by rw [hv.block q (Array.getElem?_eq_some_iff.1 hq10).1]; exact hq10, by rw [hv.block (q + 1) (Array.getElem?_eq_some_iff.1 hr10).1]; exact hr10⟩
      have HCS : Hid (∀ (v : World) (k : Nat) (F : Array Value), k ≤ g + 2 → C v → C (v.setRow k F)) := Lib.hid fun v k F hk hv => by
        rw [← hC] at hv ⊢
        exact ⟨by rw [setRow_other v k p F (by omega)]; exact hv.1, by rw [setRow_other v k q F (by omega)]; exact hv.2.1, by rw [setRow_other v k (q + 1) F (by omega)]; exact hv.2.2⟩
      have HB10 := Lib.hid (Kit.step HB5.out hb510)
      have HB510 := Lib.hid hb510
      have hC0 : C W10.drew := HCB.out _ (Kit.dn' W10 1)
      have HW7 := Lib.hid hW7
      have HW8 := Lib.hid hW8
      have HW9 := Lib.hid hW9
      have HW10 := Lib.hid hW10
      have HQ6 := Lib.hid hq6
      have HS7 := Lib.hid hs7
      have HQ8 := Lib.hid hq8
      have HR9 := Lib.hid hr9
      have HY10 := Lib.hid hy10
      have HZ10 := Lib.hid hz10
      clear hq6 hW7 hs7 hW8 hb7 hb8 hq8 hr8 hW9 hr9 hq9 hW10 hq10 hr10 hb10 hb510 hpq hgp hp10 hy10 hz10 hC hb6
      (refine wpList_plain rfl (fun K hK => ?_); go_simp; refine hK _ _ ?_; clear hK K)
      (refine wpList_plain rfl (fun K hK => ?_); go_simp; refine hK _ _ ?_; clear hK K)
      (refine wpList_plain rfl (fun K hK => ?_); go_simp; refine hK _ _ ?_; clear hK K)
      (refine wpList_plain rfl (fun K hK => ?_); go_simp; refine hK _ _ ?_; clear hK K)
      (refine wpList_plain rfl (fun K hK => ?_); go_simp; refine hK _ _ ?_; clear hK K)
      rw [HW7.out, HW8.out, HQ6.out]
      refine wpList_store_row rfl 40 (.tmp 15) (.tmp 54) rfl q F1 rfl rfl 40 Z HQ8.out HA1S.out HA1Z.out HA1O.out ?_
      rw [HW9.out]
      refine wpList_store_row rfl 40 (.tmp 16) (.tmp 55) rfl (q + 1) A2 rfl rfl 40 Z HR9.out HA2S.out HA2Z.out HA2O.out ?_
      rw [HW10.out]
      go_upto_region 10 with fail
      refine Rgt.region C (fun _ => false) (by kernel_rfl) ?_
      refine Rgt.take (i := 0) (x := .agg F1) rfl rfl (by kernel_rfl) (by kernel_rfl) (by kernel_rfl) (by kernel_rfl) (fun _ _ _ h => h) (Or.inl ⟨by kernel_rfl, fun w hw => exec_row (t := 40) (fr := (0, 0)) rfl rfl ((HC2.out w hw).2.1) d32_under rfl HA1S.out⟩) hC0 ?_
      go_simp
      refine Rgt.take (i := 1) (x := .agg A2) rfl rfl (by kernel_rfl) (by kernel_rfl) (by kernel_rfl) (by kernel_rfl) (fun _ _ _ h => h) (Or.inl ⟨by kernel_rfl, fun w hw => exec_row (t := 40) (fr := (0, 0)) rfl rfl ((HC2.out w hw).2.2) d32_under rfl HA2S.out⟩) hC0 ?_
      go_simp
      refine Rgt.take (i := 2) (x := .agg LA) rfl rfl (by kernel_rfl) (by kernel_rfl) (by kernel_rfl) (by kernel_rfl) (fun _ _ _ h => h) (Or.inl ⟨by kernel_rfl, fun w hw => exec_row (t := 40) (fr := (0, 0)) rfl rfl ((HC2.out w hw).1) d32_under rfl HLS.out⟩) hC0 ?_
      go_simp
      refine Rgt.ready (i := 3) (by kernel_rfl) rfl (by kernel_rfl) (fun K hK => ?_)
      go_simp
      refine (HND.out _ (Kit.step HB510.out (Kit.dn' W10 1))).mono ?_
      rintro e2 Y ⟨rfl, hbY⟩
      have hbY := Kit.step (Kit.dn' W10 1) hbY
      have hC1 := HCB.out _ hbY
      have hyY : Y.heap[g + 1]? = some (.cells Z 40 (0, 0)) := by rw [hbY.block (g + 1) (Array.getElem?_eq_some_iff.1 HY10.out).1]; exact HY10.out
      have hzY : Y.heap[g + 2]? = some (.cells Z 40 (0, 0)) := by rw [hbY.block (g + 2) (Array.getElem?_eq_some_iff.1 HZ10.out).1]; exact HZ10.out
      obtain ⟨t1, t2, t3, t4⟩ := two_rows (w := w) (X := Y) F1 F2 hyY hzY (Kit.step HB10.out hbY) HG.out
      have HT := Lib.hid (And.intro t1 (And.intro t2 (And.intro t3 t4)))
      have HYY := Lib.hid hyY
      have hC2 := HCS.out _ (g + 1) F1 (by omega) hC1
      have hC3 := HCS.out _ (g + 2) F2 (by omega) hC2
      refine hK _ _ hC1 ?_
      clear hK K hC0 hbY hyY hzY t1 t2 t3 t4 HND
      refine Rgt.ready (i := 4) (by kernel_rfl) rfl (by kernel_rfl) (fun K hK => ?_)
      refine wp_store_row 40 (.tmp 10) (.tmp 56) rfl (g + 1) F1 rfl rfl 40 Z HYY.out HA1S.out HA1Z.out HA1O.out (hK _ _ hC2 ?_)
      clear hK K
      refine Rgt.ready (i := 5) (by kernel_rfl) rfl (by kernel_rfl) (fun K hK => ?_)
      refine wp_store_row 40 (.tmp 11) (.tmp 59) rfl (g + 2) F2 rfl rfl 40 Z HT.out.1 HF2S.out HF2Z.out HF2O.out (hK _ _ hC3 ?_)
      clear hK K
      refine Rgt.done (by kernel_rfl) ?_ _
      go_wp2_with fail
      refine bodyPost_ret (results_rows2 rfl _ (g1 := g + 1) (g2 := g + 2) rfl rfl HT.out.2.1 HT.out.2.2.1 d32_under rfl HA1S.out d32_under rfl HF2S.out) rfl ?_
      exact ⟨rfl, HT.out.2.2.2⟩
    · have hd7 : decide ((m : Int) ≤ (k : Int)) = false := decide_eq_false (by omega)
      have hd8 : decide (m ≤ k) = false := decide_eq_false hik
      have ul2 := ur (by omega)
      have ml2 := mr (by omega)
      obtain ⟨N, hN⟩ : ∃ N, n - k = N := ⟨_, rfl⟩
      obtain ⟨J, hJ⟩ : ∃ J, m - k = J := ⟨_, rfl⟩
      have hn1 : (n : Int) - (k : Int) = (N : Int) := by omega
      have hj1 : (m : Int) - (k : Int) = (J : Int) := by omega
      have hn2 : IntKind.i64.wrap (N : Int) = (N : Int) := by rw [IntKind.wrap_i64]; omega
      have hj2 : IntKind.i64.wrap (J : Int) = (J : Int) := by rw [IntKind.wrap_i64]; omega
      rw [hN, hJ] at ul2 ml2
      have hu : Da.cnt J N false = u := by omega
      have hlt : (ps.take u).length = u := by rw [List.length_take]; omega
      have IH := ih N (by omega) J false old (ps.take u) _ c W5 (by omega) (by omega) (by omega) hdl (by rw [hlt, hu]) hsub hV5
      have hRl := Da.mde_len N J old false (ps.take u) (by omega) (by omega) hdl hsub.all (by rw [hlt, hu])
      obtain ⟨R, hR⟩ : ∃ R, Da.mde J N old false (ps.take u) = R := ⟨_, rfl⟩
      rw [hlt, hR] at IH
      rw [hR] at hRl ml2
      obtain ⟨A1, hA1⟩ : ∃ A, (bytesV R.1).toArray = A := ⟨_, rfl⟩
      obtain ⟨A2, hA2⟩ : ∃ A, (bytesV R.2).toArray = A := ⟨_, rfl⟩
      have ND1 := fun W (hb : Below W5.heap.size W5 W) => rnode_any (bi ps u) R.1 hll hRl.1 W (hV5.later hb)
      have ND := fun W (hb : Below W5.heap.size W5 W) => rnode_any (bi ps u) R.2 hll hRl.2 W (hV5.later hb)
      have e1 : (bytesV (Da.nd (bi ps u) R.1)).toArray = F1 := by rw [← hF1, ml2]
      have e2 : (bytesV (Da.nd (bi ps u) R.2)).toArray = F2 := by rw [← hF2, ml2]
      rw [hA1, hA2, hDA] at IH
      rw [hA2, HLA.out, e2] at ND
      rw [hA1, HLA.out, e1] at ND1
      have HND1 := Lib.hid ND1
      clear ND1
      have HA1S : Hid ((Tryd.prog.info? 40).map (·.size) = some A1.size) := Lib.hid (by rw [d32_info, ← hA1]; simp [hRl.1])
      have HA1O : Hid (A1.all (·.oneCell') = true) := Lib.hid (by rw [← hA1]; exact all_oneCell_toArray (bytesV_one _))
      have HA1Z : Hid (Z.size = A1.size) := Lib.hid (by rw [hZ, ← hA1]; simp [hRl.1])
      have HA2S : Hid ((Tryd.prog.info? 40).map (·.size) = some A2.size) := Lib.hid (by rw [d32_info, ← hA2]; simp [hRl.2])
      have HA2O : Hid (A2.all (·.oneCell') = true) := Lib.hid (by rw [← hA2]; exact all_oneCell_toArray (bytesV_one _))
      have HA2Z : Hid (Z.size = A2.size) := Lib.hid (by rw [hZ, ← hA2]; simp [hRl.2])
      have HIH := Lib.hid IH
      have HND := Lib.hid ND
      have HIK := Lib.hid hik
      clear IH ND hR hRl hA1 hA2 e1 e2 hu hlt hik hsub hV5 hdl hll ul ur ml mr ul2 ml2 ih hDA hpl hps hM hZ hLA hF1 hF2 hfl1 hfl2 hul hN hJ
      go_enter Tryd.func46, Tryd.ntmps46
      go_upto_region 1 with fail
      rw [HW1.out, HW2.out, HW3.out, HG.out, show g + 1 + 1 = g + 2 from rfl]
      go_wp2_with fail
      refine HSP.out.mono ?_
      rintro e0 w2 ⟨rfl, rfl⟩
      rename World => W3
      clear HSP
      go_upto_region 6 with fail
      apply wp_region_lit
      (refine wpList_plain rfl (fun K hK => ?_); go_simp; refine hK _ _ ?_; clear hK K)
      (refine wpList_plain rfl (fun K hK => ?_); go_simp; refine hK _ _ ?_; clear hK K)
      (refine wpList_plain rfl (fun K hK => ?_); go_simp; refine hK _ _ ?_; clear hK K)
      (refine wpList_plain rfl (fun K hK => ?_); go_simp; refine hK _ _ ?_; clear hK K)
      (refine wpList_plain rfl (fun K hK => ?_); go_simp; refine hK _ _ ?_; clear hK K)
      refine wpList_load_mid rfl 40 (.tmp 37) rfl b1 (off1 + u * 32) rfl (bytesV (bi ps u)) _ HRNG.out d32_under rfl HLM.out ?_
      rw [HLA.out]
      (refine wpList_plain rfl (fun K hK => ?_); go_simp; refine hK _ _ ?_; clear hK K)
      rw [HW4.out, HP.out]
      refine wpList_store_row rfl 40 (.tmp 13) (.tmp 38) rfl p LA rfl rfl 40 Z HA4.out HLS.out HLZ.out HLO.out ?_
      rw [HW5.out]
      go_upto_region 11 with fail
      apply wp_region_lit
      (refine wpList_plain rfl (fun K hK => ?_); go_simp; refine hK _ _ ?_; clear hK K)
      (refine wpList_plain rfl (fun K hK => ?_); go_simp; refine hK _ _ ?_; clear hK K)
      (refine wpList_plain rfl (fun K hK => ?_); go_simp; refine hK _ _ ?_; clear hK K)
      (refine wpList_plain rfl (fun K hK => ?_); go_simp; refine hK _ _ ?_; clear hK K)
      (refine wpList_plain rfl (fun K hK => ?_); go_simp; refine hK _ _ ?_; clear hK K)
      (refine wpList_plain rfl (fun K hK => ?_); go_simp; refine hK _ _ ?_; clear hK K)
      refine wpList_load_row rfl 40 (.tmp 7) rfl g rfl 40 DA (0, 0) _ HG5.out d32_under rfl HDS.out ?_
      (refine wpList_plain rfl (fun K hK => ?_); go_simp; refine hK _ _ ?_; clear hK K)
      (refine wpList_plain rfl (fun K hK => ?_); go_simp)
      refine HIH.out.mono ?_
      rintro e1 W6 ⟨rfl, hb6⟩
      refine hK _ _ ?_
      clear hK K HIH
      obtain ⟨q, hq6⟩ : ∃ q, W6.heap.size = q := ⟨_, rfl⟩
      obtain ⟨W7, hW7⟩ : ∃ W7, W6.alloc (.cells Z 40) = W7 := ⟨_, rfl⟩
      have hs7 : W7.heap.size = q + 1 := by rw [← hW7, World.size_alloc, hq6]
      obtain ⟨W8, hW8⟩ : ∃ W8, W7.alloc (.cells Z 40) = W8 := ⟨_, rfl⟩
      have hb7 : Below W6.heap.size W6 W7 := by rw [← hW7]; exact new12 _ _
      have hb8 : Below W7.heap.size W7 W8 := by rw [← hW8]; exact new12 _ _
      have hq8 : W8.heap[q]? = some (.cells Z 40 (0, 0)) := by rw [hb8.block q (by omega), ← hW7, ← hq6]; exact World.alloc_heap_new W6 _
      have hr8 : W8.heap[q + 1]? = some (.cells Z 40 (0, 0)) := by rw [← hW8, ← hs7]; exact World.alloc_heap_new W7 _
      obtain ⟨W9, hW9⟩ : ∃ W9, W8.setRow q A1 = W9 := ⟨_, rfl⟩
      have hr9 : W9.heap[q + 1]? = some (.cells Z 40 (0, 0)) := by rw [← hW9, setRow_other W8 q (q + 1) A1 (by omega)]; exact hr8
      have hq9 : W9.heap[q]? = some (.cells A1 40 (0, 0)) := by rw [← hW9]; exact setRow_heap _ _ _ _ _ _ hq8
      obtain ⟨W10, hW10⟩ : ∃ W10, W9.setRow (q + 1) A2 = W10 := ⟨_, rfl⟩
      have hq10 : W10.heap[q]? = some (.cells A1 40 (0, 0)) := by rw [← hW10, setRow_other W9 (q + 1) q A2 (by omega)]; exact hq9
      have hr10 : W10.heap[q + 1]? = some (.cells A2 40 (0, 0)) := by rw [← hW10]; exact setRow_heap _ _ _ _ _ _ hr9
      have hb10 : Below W6.heap.size W6 W10 := by rw [← hW10, ← hW9]; exact ((Kit.step hb7 hb8).trans (below_row (by omega))).trans (below_row (by omega))
      have hb510 := Kit.step hb6 hb10
      have hpq : p < q := by have := (Array.getElem?_eq_some_iff.1 HA5.out).1; have := hb6.size; omega
      have hgp : g + 2 < p := HPP.out
      have hp10 : W10.heap[p]? = some (.cells LA 40 (0, 0)) := by rw [hb510.block p (Array.getElem?_eq_some_iff.1 HA5.out).1]; exact HA5.out
      have hy10 : W10.heap[g + 1]? = some (.cells Z 40 (0, 0)) := by rw [hb510.block (g + 1) (Array.getElem?_eq_some_iff.1 HY5.out).1]; exact HY5.out
      have hz10 : W10.heap[g + 2]? = some (.cells Z 40 (0, 0)) := by rw [hb510.block (g + 2) (Array.getElem?_eq_some_iff.1 HZ5.out).1]; exact HZ5.out
      obtain ⟨C, hC⟩ : ∃ C : World → Prop, (fun v : World => v.heap[p]? = some (.cells LA 40 (0, 0)) ∧ v.heap[q]? = some (.cells A1 40 (0, 0)) ∧ v.heap[q + 1]? = some (.cells A2 40 (0, 0))) = C := ⟨_, rfl⟩
      have HC2 : Hid (∀ v, C v → v.heap[p]? = some (.cells LA 40 (0, 0)) ∧ v.heap[q]? = some (.cells A1 40 (0, 0)) ∧ v.heap[q + 1]? = some (.cells A2 40 (0, 0))) := Lib.hid fun v hv => by rw [← hC] at hv; exact hv
      have HCB : Hid (∀ v, Below W10.heap.size W10 v → C v) := Lib.hid fun v hv => by
        rw [← hC]
        exact ⟨by rw [hv.block p (Array.getElem?_eq_some_iff.1 hp10).1]; exact hp10, by rw [hv.block q (Array.getElem?_eq_some_iff.1 hq10).1]; exact hq10, by rw [hv.block (q + 1) (Array.getElem?_eq_some_iff.1 hr10).1]; exact hr10⟩
      have HCS : Hid (∀ (v : World) (k : Nat) (F : Array Value), k ≤ g + 2 → C v → C (v.setRow k F)) := Lib.hid fun v k F hk hv => by
        rw [← hC] at hv ⊢
        exact ⟨by rw [setRow_other v k p F (by omega)]; exact hv.1, by rw [setRow_other v k q F (by omega)]; exact hv.2.1, by rw [setRow_other v k (q + 1) F (by omega)]; exact hv.2.2⟩
      have HB10 := Lib.hid (Kit.step HB5.out hb510)
      have HB510 := Lib.hid hb510
      have hC0 : C W10.drew := HCB.out _ (Kit.dn' W10 1)
      have HW7 := Lib.hid hW7
      have HW8 := Lib.hid hW8
      have HW9 := Lib.hid hW9
      have HW10 := Lib.hid hW10
      have HQ6 := Lib.hid hq6
      have HS7 := Lib.hid hs7
      have HQ8 := Lib.hid hq8
      have HR9 := Lib.hid hr9
      have HY10 := Lib.hid hy10
      have HZ10 := Lib.hid hz10
      clear hq6 hW7 hs7 hW8 hb7 hb8 hq8 hr8 hW9 hr9 hq9 hW10 hq10 hr10 hb10 hb510 hpq hgp hp10 hy10 hz10 hC hb6
      (refine wpList_plain rfl (fun K hK => ?_); go_simp; refine hK _ _ ?_; clear hK K)
      (refine wpList_plain rfl (fun K hK => ?_); go_simp; refine hK _ _ ?_; clear hK K)
      (refine wpList_plain rfl (fun K hK => ?_); go_simp; refine hK _ _ ?_; clear hK K)
      (refine wpList_plain rfl (fun K hK => ?_); go_simp; refine hK _ _ ?_; clear hK K)
      (refine wpList_plain rfl (fun K hK => ?_); go_simp; refine hK _ _ ?_; clear hK K)
      rw [HW7.out, HW8.out, HQ6.out]
      refine wpList_store_row rfl 40 (.tmp 17) (.tmp 70) rfl q A1 rfl rfl 40 Z HQ8.out HA1S.out HA1Z.out HA1O.out ?_
      rw [HW9.out]
      refine wpList_store_row rfl 40 (.tmp 18) (.tmp 71) rfl (q + 1) A2 rfl rfl 40 Z HR9.out HA2S.out HA2Z.out HA2O.out ?_
      rw [HW10.out]
      go_upto_region 12 with fail
      refine Rgt.region C (fun _ => false) (by kernel_rfl) ?_
      refine Rgt.take (i := 0) (x := .agg LA) rfl rfl (by kernel_rfl) (by kernel_rfl) (by kernel_rfl) (by kernel_rfl) (fun _ _ _ h => h) (Or.inl ⟨by kernel_rfl, fun w hw => exec_row (t := 40) (fr := (0, 0)) rfl rfl ((HC2.out w hw).1) d32_under rfl HLS.out⟩) hC0 ?_
      go_simp
      refine Rgt.take (i := 1) (x := .agg A1) rfl rfl (by kernel_rfl) (by kernel_rfl) (by kernel_rfl) (by kernel_rfl) (fun _ _ _ h => h) (Or.inl ⟨by kernel_rfl, fun w hw => exec_row (t := 40) (fr := (0, 0)) rfl rfl ((HC2.out w hw).2.1) d32_under rfl HA1S.out⟩) hC0 ?_
      go_simp
      refine Rgt.take (i := 3) (x := .agg LA) rfl rfl (by kernel_rfl) (by kernel_rfl) (by kernel_rfl) (by kernel_rfl) (fun _ _ _ h => h) (Or.inl ⟨by kernel_rfl, fun w hw => exec_row (t := 40) (fr := (0, 0)) rfl rfl ((HC2.out w hw).1) d32_under rfl HLS.out⟩) hC0 ?_
      go_simp
      refine Rgt.take (i := 4) (x := .agg A2) rfl rfl (by kernel_rfl) (by kernel_rfl) (by kernel_rfl) (by kernel_rfl) (fun _ _ _ h => h) (Or.inl ⟨by kernel_rfl, fun w hw => exec_row (t := 40) (fr := (0, 0)) rfl rfl ((HC2.out w hw).2.2) d32_under rfl HA2S.out⟩) hC0 ?_
      go_simp
      refine Rgt.ready (i := 2) (by kernel_rfl) rfl (by kernel_rfl) (fun K hK => ?_)
      go_simp
      refine (HND1.out _ (Kit.step HB510.out (Kit.dn' W10 1))).mono ?_
      rintro e2 Y1 ⟨rfl, hbY1⟩
      have hbY1 := Kit.step (Kit.dn' W10 1) hbY1
      have hC1 := HCB.out _ hbY1
      have HBY1 := Lib.hid hbY1
      refine hK _ _ hC1 ?_
      clear hK K hC0 hbY1 HND1
      rename C _ => hC0
      refine Rgt.ready (i := 5) (by kernel_rfl) rfl (by kernel_rfl) (fun K hK => ?_)
      go_simp
      refine (HND.out _ (Kit.step HB510.out HBY1.out)).mono ?_
      rintro e3 Y ⟨rfl, hbY⟩
      have hbY := Kit.step HBY1.out hbY
      have hC1 := HCB.out _ hbY
      have hyY : Y.heap[g + 1]? = some (.cells Z 40 (0, 0)) := by rw [hbY.block (g + 1) (Array.getElem?_eq_some_iff.1 HY10.out).1]; exact HY10.out
      have hzY : Y.heap[g + 2]? = some (.cells Z 40 (0, 0)) := by rw [hbY.block (g + 2) (Array.getElem?_eq_some_iff.1 HZ10.out).1]; exact HZ10.out
      obtain ⟨t1, t2, t3, t4⟩ := two_rows (w := w) (X := Y) F1 F2 hyY hzY (Kit.step HB10.out hbY) HG.out
      have HT := Lib.hid (And.intro t1 (And.intro t2 (And.intro t3 t4)))
      have HYY := Lib.hid hyY
      have hC2 := HCS.out _ (g + 1) F1 (by omega) hC1
      have hC3 := HCS.out _ (g + 2) F2 (by omega) hC2
      refine hK _ _ hC1 ?_
      clear hK K hC0 hbY hyY hzY t1 t2 t3 t4 HND
      refine Rgt.ready (i := 6) (by kernel_rfl) rfl (by kernel_rfl) (fun K hK => ?_)
      refine wp_store_row 40 (.tmp 10) (.tmp 74) rfl (g + 1) F1 rfl rfl 40 Z HYY.out HF1S.out HF1Z.out HF1O.out (hK _ _ hC2 ?_)
      clear hK K
      refine Rgt.ready (i := 7) (by kernel_rfl) rfl (by kernel_rfl) (fun K hK => ?_)
      refine wp_store_row 40 (.tmp 11) (.tmp 77) rfl (g + 2) F2 rfl rfl 40 Z HT.out.1 HF2S.out HF2Z.out HF2O.out (hK _ _ hC3 ?_)
      clear hK K
      refine Rgt.done (by kernel_rfl) ?_ _
      go_wp2_with fail
      refine bodyPost_ret (results_rows2 rfl _ (g1 := g + 1) (g2 := g + 2) rfl rfl HT.out.2.1 HT.out.2.2.1 d32_under rfl HF1S.out d32_under rfl HF2S.out) rfl ?_
      exact ⟨rfl, HT.out.2.2.2⟩
theorem rmade_any14 (n m : Nat) (b : Bool) (old : List UInt8) (ps : List (List UInt8)) (o : Option Addr) (c : Nat) (w : World) (h1 : 1 ≤ m) (h2 : m ≤ n) (h5 : n ≤ 512) (hd : old.length = 32) (hu : ps.length = Da.cnt m n b) (hR : DgIs w o ps c) (hV : Rds w) :
    Calls Tryd.prog 46 #[.int .i64 (m : Int), .int .i64 (n : Int), .agg (bytesV old).toArray, .bool b, .slice o ps.length c] w fun e w' => e = .returned (.tuple #[.agg (bytesV (Da.mde m n old b ps).1).toArray, .agg (bytesV (Da.mde m n old b ps).2).toArray]) ∧ Below w.heap.size w w' := rmade_of _ rfl d32_zero n m b old ps o c w h1 h2 h5 hd hu hR hV
end Go.Proofs.YtfccpfmgkpcnoaaDoor
namespace Go.Proofs.YtfccpfmgkpcnoaaDoor
open Go.RowKit
set_option linter.unusedVariables false
set_option linter.unusedSimpArgs false
set_option maxRecDepth 100000 in
set_option maxHeartbeats 4000000 in
theorem rcheck_of14 (Z : Array Value) (hZ : Z = (bytesV (List.replicate 32 0)).toArray) (hzs : ∀ w, Sem.run Tryd.prog (zeroValue 40) w = .ok (.agg Z) w)
    (m n : Int) (old now : List UInt8) (ho : old.length = 32) (hw : now.length = 32) (ps : List (List UInt8)) (o : Option Addr) (c : Nat) (hp5 : ps.length ≤ 1000) (w : World) (hR : DgIs w o ps c) (hV : Rds w) :
    Calls Tryd.prog 28 #[.int .i64 m, .agg (bytesV old).toArray, .int .i64 n, .agg (bytesV now).toArray, .slice o ps.length c] w fun e w' => e = .returned (.int .i64 ((Da.gch m old n now ps : Nat) : Int)) ∧ Below w.heap.size w w' := by
  obtain ⟨r, hrr⟩ : ∃ r, Da.gch m old n now ps = r := ⟨_, rfl⟩
  obtain ⟨OA, hOA⟩ : ∃ R, (bytesV old).toArray = R := ⟨_, rfl⟩
  obtain ⟨NA, hNA⟩ : ∃ R, (bytesV now).toArray = R := ⟨_, rfl⟩
  obtain ⟨M, hM⟩ : ∃ M, ps.length = M := ⟨_, rfl⟩
  obtain ⟨g, hg⟩ : ∃ g, w.heap.size = g := ⟨_, rfl⟩
  obtain ⟨W1, hW1⟩ : ∃ W1, w.alloc (.cells OA 40) = W1 := ⟨_, rfl⟩
  have hs1 : W1.heap.size = g + 1 := by rw [← hW1, World.size_alloc, hg]
  obtain ⟨W2, hW2⟩ : ∃ W2, W1.alloc (.cells NA 40) = W2 := ⟨_, rfl⟩
  have hb1 : Below w.heap.size w W1 := by rw [← hW1]; exact new12 _ _
  have hb2 : Below W1.heap.size W1 W2 := by rw [← hW2]; exact new12 _ _
  have hB2 := Kit.step hb1 hb2
  have hg2 : W2.heap[g]? = some (.cells OA 40 (0, 0)) := by rw [hb2.block g (by omega), ← hW1, ← hg]; exact World.alloc_heap_new w _
  have hn2 : W2.heap[g + 1]? = some (.cells NA 40 (0, 0)) := by rw [← hW2, ← hs1]; exact World.alloc_heap_new W1 _
  have HOS : Hid ((Tryd.prog.info? 40).map (·.size) = some OA.size) := Lib.hid (by rw [d32_info, ← hOA]; simp [ho])
  have HNS : Hid ((Tryd.prog.info? 40).map (·.size) = some NA.size) := Lib.hid (by rw [d32_info, ← hNA]; simp [hw])
  have HRR := Lib.hid hrr
  have HW1 := Lib.hid hW1
  have HW2 := Lib.hid hW2
  have HG := Lib.hid hg
  have HB2 := Lib.hid hB2
  have HG2 := Lib.hid hg2
  have HN2 := Lib.hid hn2
  have HR2 := Lib.hid (hR.later hB2)
  have HV2 := Lib.hid (hV.later hB2)
  have HOA := Lib.hid hOA
  have HNA := Lib.hid hNA
  have HOL := Lib.hid (And.intro ho hw)
  have hM2 : M ≤ 1000 := by omega
  have HM := Lib.hid hM
  rw [hrr, hOA, hNA, hM]
  have hgd := d32_guard
  clear hrr hOA hNA hM hg hW1 hs1 hW2 hb1 hb2 hB2 hg2 hn2 hR hV ho hw hp5
  by_cases hbad : ¬ (1 ≤ m ∧ m ≤ n ∧ n ≤ 512)
  · have hr1 : r = 1 := by rw [← HRR.out]; unfold Da.gch; rw [if_neg hbad]
    subst hr1
    by_cases h1 : m < 1
    · have hd1 : decide (m < 1) = true := decide_eq_true h1
      have HB := Lib.hid (And.intro hbad h1)
      clear hbad h1
      go_enter Tryd.func28, Tryd.ntmps28
      go_upto_region 1 with fail
      rw [HW1.out, HW2.out, HG.out]
      go_wp2_with fail
      go_ret
      exact ⟨rfl, HB2.out⟩
    have hd1 : decide (m < 1) = false := decide_eq_false h1
    by_cases h2 : n < m
    · have hd2 : decide (m > n) = true := decide_eq_true h2
      have hd3 : decide (n < m) = true := decide_eq_true h2
      have HB := Lib.hid (And.intro hbad (And.intro h1 h2))
      clear hbad h1 h2
      go_enter Tryd.func28, Tryd.ntmps28
      go_upto_region 1 with fail
      rw [HW1.out, HW2.out, HG.out]
      go_wp2_with fail
      go_ret
      exact ⟨rfl, HB2.out⟩
    have hd2 : decide (m > n) = false := decide_eq_false h2
    have hd3 : decide (n < m) = false := decide_eq_false h2
    have hd4 : decide (n > 512) = true := decide_eq_true (by omega)
    have hd5 : decide (512 < n) = true := decide_eq_true (by omega)
    have HB := Lib.hid (And.intro hbad (And.intro h1 h2))
    clear hbad h1 h2
    go_enter Tryd.func28, Tryd.ntmps28
    go_upto_region 1 with fail
    rw [HW1.out, HW2.out, HG.out]
    go_wp2_with fail
    go_ret
    exact ⟨rfl, HB2.out⟩
  have hin : 1 ≤ m ∧ m ≤ n ∧ n ≤ 512 := by omega
  clear hbad
  obtain ⟨m, rfl⟩ : ∃ k : Nat, m = (k : Int) := ⟨m.toNat, by omega⟩
  obtain ⟨n, rfl⟩ : ∃ k : Nat, n = (k : Int) := ⟨n.toNat, by omega⟩
  have hd1 : decide ((m : Int) < 1) = false := decide_eq_false (by omega)
  have hd2 : decide ((m : Int) > (n : Int)) = false := decide_eq_false (by omega)
  have hd3 : decide ((n : Int) < (m : Int)) = false := decide_eq_false (by omega)
  have hd3' : decide (n < m) = false := decide_eq_false (by omega)
  have hd4 : decide ((n : Int) > 512) = false := decide_eq_false (by omega)
  have hd5 : decide (512 < (n : Int)) = false := decide_eq_false (by omega)
  have hd6 : decide (m < 1) = false := decide_eq_false (by omega)
  have hd7 : decide (512 < n) = false := decide_eq_false (by omega)
  have CO := rcount_any14 n m true W2 (by omega) (by omega) (by omega)
  have hgc : Da.gch (m : Int) old (n : Int) now ps = if ps.length = Da.cnt m n true then (if Da.mde m n old true ps = (old, now) then 0 else 15) else 8 := by
    unfold Da.gch
    rw [if_pos hin, Int.toNat_natCast, Int.toNat_natCast]
  have MA := fun (hu : ps.length = Da.cnt m n true) => rmade_any14 n m true old ps o c W2 (by omega) (by omega) (by omega) HOL.out.1 hu HR2.out HV2.out
  have ML := fun (hu : ps.length = Da.cnt m n true) => Da.mde_len n m old true ps (by omega) (by omega) HOL.out.1 HR2.out.all hu
  rw [HRR.out, HM.out] at hgc
  rw [HM.out, HOA.out] at MA
  rw [HM.out] at ML
  obtain ⟨u, hu⟩ : ∃ u, Da.cnt m n true = u := ⟨_, rfl⟩
  rw [hu] at CO hgc MA ML
  have HCO := Lib.hid CO
  by_cases hne : M = u
  rotate_left
  · have hr8 : r = 8 := by rw [hgc, if_neg hne]
    subst hr8
    have hq : ((M : Int) != (u : Int)) = true := by simp; omega
    have hq2 : decide ((M : Int) ≠ (u : Int)) = true := by simp; omega
    have HNE := Lib.hid (And.intro hne hin)
    clear hne hin CO MA ML hgc hu
    go_enter Tryd.func28, Tryd.ntmps28
    go_upto_region 1 with fail
    rw [HW1.out, HW2.out, HG.out]
    go_wp2_with fail
    refine HCO.out.mono ?_
    rintro e W3 ⟨rfl, rfl⟩
    go_wp2_with fail
    go_ret
    exact ⟨rfl, HB2.out⟩
  subst hne
  have hq : ((M : Int) != (M : Int)) = false := by simp
  rw [if_pos rfl] at hgc
  have MA := MA rfl
  obtain ⟨hl1, hl2⟩ := ML rfl
  obtain ⟨R, hR⟩ : ∃ R, Da.mde m n old true ps = R := ⟨_, rfl⟩
  rw [hR] at hgc MA hl1 hl2
  obtain ⟨A1, hA1⟩ : ∃ A, (bytesV R.1).toArray = A := ⟨_, rfl⟩
  obtain ⟨A2, hA2⟩ : ∃ A, (bytesV R.2).toArray = A := ⟨_, rfl⟩
  rw [hA1, hA2] at MA
  have hn1 := fun W => d32_neq R.1 old hl1 HOL.out.1 W
  have hn2 := fun W => d32_neq R.2 now hl2 HOL.out.2 W
  rw [hA1, HOA.out] at hn1
  rw [hA2, HNA.out] at hn2
  have HA1S : Hid ((Tryd.prog.info? 40).map (·.size) = some A1.size) := Lib.hid (by rw [d32_info, ← hA1]; simp [hl1])
  have HA1O : Hid (A1.all (·.oneCell') = true) := Lib.hid (by rw [← hA1]; exact all_oneCell_toArray (bytesV_one _))
  have HA1Z : Hid (Z.size = A1.size) := Lib.hid (by rw [hZ, ← hA1]; simp [hl1])
  have HA2S : Hid ((Tryd.prog.info? 40).map (·.size) = some A2.size) := Lib.hid (by rw [d32_info, ← hA2]; simp [hl2])
  have HA2O : Hid (A2.all (·.oneCell') = true) := Lib.hid (by rw [← hA2]; exact all_oneCell_toArray (bytesV_one _))
  have HA2Z : Hid (Z.size = A2.size) := Lib.hid (by rw [hZ, ← hA2]; simp [hl2])
  have HMA := Lib.hid MA
  have HGC := Lib.hid hgc
  have HIN := Lib.hid hin
  clear MA ML hgc hu hin CO hl1 hl2 hA1 hA2 hR hZ
  go_enter Tryd.func28, Tryd.ntmps28
  go_upto_region 1 with fail
  rw [HW1.out, HW2.out, HG.out]
  go_wp2_with fail
  refine HCO.out.mono ?_
  rintro e W3 ⟨rfl, rfl⟩
  rename World => W2
  go_upto_region 5 with fail
  apply wp_region_lit
  (refine wpList_plain rfl (fun K hK => ?_); go_simp; refine hK _ _ ?_; clear hK K)
  (refine wpList_plain rfl (fun K hK => ?_); go_simp; refine hK _ _ ?_; clear hK K)
  refine wpList_load_row rfl 40 (.tmp 6) rfl g rfl 40 OA (0, 0) _ HG2.out d32_under rfl HOS.out ?_
  (refine wpList_plain rfl (fun K hK => ?_); go_simp; refine hK _ _ ?_; clear hK K)
  (refine wpList_plain rfl (fun K hK => ?_); go_simp)
  refine HMA.out.mono ?_
  rintro e1 W6 ⟨rfl, hb6⟩
  refine hK _ _ ?_
  clear hK K HMA HCO
  obtain ⟨q, hq6⟩ : ∃ q, W6.heap.size = q := ⟨_, rfl⟩
  obtain ⟨W7, hW7⟩ : ∃ W7, W6.alloc (.cells Z 40) = W7 := ⟨_, rfl⟩
  have hs7 : W7.heap.size = q + 1 := by rw [← hW7, World.size_alloc, hq6]
  obtain ⟨W8, hW8⟩ : ∃ W8, W7.alloc (.cells Z 40) = W8 := ⟨_, rfl⟩
  have hb7 : Below W6.heap.size W6 W7 := by rw [← hW7]; exact new12 _ _
  have hb8 : Below W7.heap.size W7 W8 := by rw [← hW8]; exact new12 _ _
  have hq8 : W8.heap[q]? = some (.cells Z 40 (0, 0)) := by rw [hb8.block q (by omega), ← hW7, ← hq6]; exact World.alloc_heap_new W6 _
  have hr8 : W8.heap[q + 1]? = some (.cells Z 40 (0, 0)) := by rw [← hW8, ← hs7]; exact World.alloc_heap_new W7 _
  obtain ⟨W9, hW9⟩ : ∃ W9, W8.setRow q A1 = W9 := ⟨_, rfl⟩
  have hr9 : W9.heap[q + 1]? = some (.cells Z 40 (0, 0)) := by rw [← hW9, setRow_other W8 q (q + 1) A1 (by omega)]; exact hr8
  have hq9 : W9.heap[q]? = some (.cells A1 40 (0, 0)) := by rw [← hW9]; exact setRow_heap _ _ _ _ _ _ hq8
  obtain ⟨W10, hW10⟩ : ∃ W10, W9.setRow (q + 1) A2 = W10 := ⟨_, rfl⟩
  have hq10 : W10.heap[q]? = some (.cells A1 40 (0, 0)) := by rw [← hW10, setRow_other W9 (q + 1) q A2 (by omega)]; exact hq9
  have hr10 : W10.heap[q + 1]? = some (.cells A2 40 (0, 0)) := by rw [← hW10]; exact setRow_heap _ _ _ _ _ _ hr9
  have hb10 : Below W6.heap.size W6 W10 := by rw [← hW10, ← hW9]; exact ((Kit.step hb7 hb8).trans (below_row (by omega))).trans (below_row (by omega))
  have hb210 := Kit.step hb6 hb10
  have hg10 : W10.heap[g]? = some (.cells OA 40 (0, 0)) := by rw [hb210.block g (Array.getElem?_eq_some_iff.1 HG2.out).1]; exact HG2.out
  have hn10 : W10.heap[g + 1]? = some (.cells NA 40 (0, 0)) := by rw [hb210.block (g + 1) (Array.getElem?_eq_some_iff.1 HN2.out).1]; exact HN2.out
  have HB10 := Lib.hid (Kit.step HB2.out hb210)
  have HG10 := Lib.hid hg10
  have HN10 := Lib.hid hn10
  have HW7 := Lib.hid hW7
  have HW8 := Lib.hid hW8
  have HW9 := Lib.hid hW9
  have HW10 := Lib.hid hW10
  have HQ6 := Lib.hid hq6
  have HQ8 := Lib.hid hq8
  have HR9 := Lib.hid hr9
  have HQ10 := Lib.hid hq10
  have HR10 := Lib.hid hr10
  clear hq6 hW7 hs7 hW8 hb7 hb8 hq8 hr8 hW9 hr9 hq9 hW10 hq10 hr10 hb10 hb210 hg10 hn10 hb6
  (refine wpList_plain rfl (fun K hK => ?_); go_simp; refine hK _ _ ?_; clear hK K)
  (refine wpList_plain rfl (fun K hK => ?_); go_simp; refine hK _ _ ?_; clear hK K)
  (refine wpList_plain rfl (fun K hK => ?_); go_simp; refine hK _ _ ?_; clear hK K)
  (refine wpList_plain rfl (fun K hK => ?_); go_simp; refine hK _ _ ?_; clear hK K)
  (refine wpList_plain rfl (fun K hK => ?_); go_simp; refine hK _ _ ?_; clear hK K)
  rw [HW7.out, HW8.out, HQ6.out]
  refine wpList_store_row rfl 40 (.tmp 11) (.tmp 36) rfl q A1 rfl rfl 40 Z HQ8.out HA1S.out HA1Z.out HA1O.out ?_
  rw [HW9.out]
  refine wpList_store_row rfl 40 (.tmp 12) (.tmp 37) rfl (q + 1) A2 rfl rfl 40 Z HR9.out HA2S.out HA2Z.out HA2O.out ?_
  rw [HW10.out]
  go_upto_region 6 with fail
  apply wp_region_lit
  refine wpList_load_row rfl 40 (.tmp 11) rfl q rfl 40 A1 (0, 0) _ HQ10.out d32_under rfl HA1S.out ?_
  refine wpList_load_row rfl 40 (.tmp 6) rfl g rfl 40 OA (0, 0) _ HG10.out d32_under rfl HOS.out ?_
  by_cases hd : R.1 = old
  rotate_left
  · have hne : ∀ W, (binOp .neq 40 (.agg A1) (.agg OA)).run Tryd.prog W = .ok (.bool true) W := fun W => by rw [hn1 W, beq_false_of_ne hd]; rfl
    have hr15 : r = 15 := by rw [HGC.out, if_neg (fun h => hd (by rw [h]))]
    subst hr15
    clear hn1 hn2 hd
    go_wp2_with fail
    go_ret
    exact ⟨rfl, HB10.out⟩
  have hne : ∀ W, (binOp .neq 40 (.agg A1) (.agg OA)).run Tryd.prog W = .ok (.bool false) W := fun W => by rw [hn1 W, hd, beq_self_eq_true]; rfl
  (refine wpList_plain rfl (fun K hK => ?_); go_simp; refine hK _ _ ?_; clear hK K)
  (refine wpList_plain rfl (fun K hK => ?_); go_simp; refine hK _ _ ?_; clear hK K)
  refine BigFrame.wpList_want (by rfl) (fun K hK => wp_load_row 40 (.tmp 12) rfl (q + 1) rfl 40 A2 (0, 0) _ HR10.out d32_under rfl HA2S.out (hK _ _ ?_))
  refine BigFrame.wpList_want (by rfl) (fun K hK => wp_load_row 40 (.tmp 8) rfl (g + 1) rfl 40 NA (0, 0) _ HN10.out d32_under rfl HNS.out (hK _ _ ?_))
  by_cases hd2 : R.2 = now
  · have hne2 : ∀ W, (binOp .neq 40 (.agg A2) (.agg NA)).run Tryd.prog W = .ok (.bool false) W := fun W => by rw [hn2 W, hd2, beq_self_eq_true]; rfl
    have hr0 : r = 0 := by rw [HGC.out, if_pos (Prod.ext hd hd2)]
    subst hr0
    clear hn1 hn2 hd hd2 hne
    go_wp2_with fail
    go_ret
    exact ⟨rfl, HB10.out⟩
  · have hne2 : ∀ W, (binOp .neq 40 (.agg A2) (.agg NA)).run Tryd.prog W = .ok (.bool true) W := fun W => by rw [hn2 W, beq_false_of_ne hd2]; rfl
    have hr15 : r = 15 := by rw [HGC.out, if_neg (fun h => hd2 (by rw [h]))]
    subst hr15
    clear hn1 hn2 hd hd2 hne
    go_wp2_with fail
    go_ret
    exact ⟨rfl, HB10.out⟩
theorem rcheck_any14 (m n : Int) (old now : List UInt8) (ho : old.length = 32) (hw : now.length = 32) (ps : List (List UInt8)) (o : Option Addr) (c : Nat) (hp5 : ps.length ≤ 1000) (w : World) (hR : DgIs w o ps c) (hV : Rds w) :
    Calls Tryd.prog 28 #[.int .i64 m, .agg (bytesV old).toArray, .int .i64 n, .agg (bytesV now).toArray, .slice o ps.length c] w fun e w' => e = .returned (.int .i64 ((Da.gch m old n now ps : Nat) : Int)) ∧ Below w.heap.size w w' := rcheck_of14 _ rfl d32_zero m n old now ho hw ps o c hp5 w hR hV
end Go.Proofs.YtfccpfmgkpcnoaaDoor
