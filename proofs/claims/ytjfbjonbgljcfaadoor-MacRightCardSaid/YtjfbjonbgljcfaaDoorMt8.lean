/- The document's Tag; Tag, Right and Same over rows. -/
import Derived.Test.YtjfbjonbgljcfaaDoorAl8
import Derived.Test.YtjfbjonbgljcfaaDoorMr
namespace Go.Proofs.YtjfbjonbgljcfaaDoor
open Go.RowKit
set_option linter.unusedVariables false
set_option linter.unusedSimpArgs false
set_option maxRecDepth 100000 in
set_option maxHeartbeats 1000000 in
theorem rtag_of (Z : Array Value) (hZ : Z = (bytesV (List.replicate 32 0)).toArray) (hzs : ∀ w, Sem.run Tryd.prog (zeroValue 28) w = .ok (.agg Z) w)
    (k m : List UInt8) (ok om : Option Addr) (ck cm : Nat) (w : World) (hK : RowIs w ok (bytesV k) ck) (hM : RowIs w om (bytesV m) cm) (hV : Rds w) (hkl : k.length ≤ 90000) (hml : m.length ≤ 90000) :
    Calls Tryd.prog 14 #[.slice ok k.length ck, .slice om m.length cm] w fun e w' => ∃ x, e = .returned x ∧ RowV ((Da.hmac k m).take 8) x w' ∧ Below w.heap.size w w' := by
  have RM := Lib.hid (rmac_any k m ok om ck cm w hK hM hV hkl hml)
  obtain ⟨h, hh⟩ : ∃ h, Da.hmac k m = h := ⟨_, rfl⟩
  have hhl : h.length = 32 := by rw [← hh]; exact Da.hmac_length _ _
  obtain ⟨E, hE⟩ : ∃ E, (bytesV h).toArray = E := ⟨_, rfl⟩
  rw [hh] at RM ⊢
  rw [hE] at RM
  have HDS : Hid ((Tryd.prog.info? 28).map (·.size) = some E.size) := Lib.hid (by rw [d32_info, ← hE]; simp [hhl])
  have HDO : Hid (E.all (·.oneCell') = true) := Lib.hid (by rw [← hE]; exact all_oneCell_toArray (bytesV_one _))
  have HDZ : Hid (Z.size = E.size) := Lib.hid (by rw [hZ, ← hE]; simp [hhl])
  have HE := Lib.hid hE
  have HHL := Lib.hid hhl
  clear hK hM hV hh hhl hE hZ
  go_enter Tryd.func14, Tryd.ntmps14
  go_upto_region 1 with fail
  apply wp_region_lit
  (refine wpList_plain rfl (fun K hK => ?_); go_simp; refine hK _ _ ?_; clear hK K)
  (refine wpList_plain rfl (fun K hK => ?_); go_simp; refine hK _ _ ?_; clear hK K)
  (refine wpList_plain rfl (fun K hK => ?_); go_simp)
  refine RM.out.mono ?_
  rintro e X4 ⟨rfl, hb4⟩
  refine hK _ _ ?_
  clear hK K RM
  obtain ⟨X5, hX5⟩ : ∃ X5, X4.alloc (.cells Z 28) = X5 := ⟨_, rfl⟩
  obtain ⟨X6, hX6⟩ : ∃ X6, X5.setRow X4.heap.size E = X6 := ⟨_, rfl⟩
  have hA5 : Arr X5 X4.heap.size 28 Z.toList := by rw [← hX5]; exact Arr.made _ _ _
  have hA6 : Arr X6 X4.heap.size 28 (bytesV h) := by rw [← hX6, ← HE.out]; exact setRow_heap _ _ _ _ _ _ hA5
  have hb6 : Below X4.heap.size X4 X6 := by rw [← hX6, ← hX5]; exact ((Below.refl _ _).alloc (Nat.le_refl _) _).trans (below_row (Nat.le_refl _))
  have hB6 := Kit.step hb4 hb6
  obtain ⟨X7, hX7⟩ : ∃ X7, X6.alloc (.cells #[] 5) = X7 := ⟨_, rfl⟩
  have hb7 : Below X6.heap.size X6 X7 := by rw [← hX7]; exact (Below.refl _ _).alloc (Nat.le_refl _) _
  have HO7 : Hid (X7.ownsRow w.heap.size 5 1 (.slice (some ⟨X6.heap.size, 0, none⟩) 0 0) 0 (bytesV [])) := Lib.hid (by rw [← hX7]; exact World.ownsRow_lit X6 #[] 0 hB6.size (Nat.zero_le _) rfl)
  have hr := ((hA6.later hb7 hA6.lt).row (by rw [HHL.out]; unfold maxLen; decide)).pre 8 (by rw [HHL.out]; decide)
  rw [HHL.out] at hr
  have HR7 := Lib.hid hr
  have HTL : Hid (8 = (h.take 8).length) := Lib.hid (by rw [List.length_take, HHL.out]; rfl)
  have HB7 := Lib.hid (Kit.step hB6 hb7)
  have HA5 : Hid (X5.heap[X4.heap.size]? = some (.cells Z 28 (0, 0))) := Lib.hid hA5
  have HX5 := Lib.hid hX5
  have HX6 := Lib.hid hX6
  have HX7 := Lib.hid hX7
  clear hX5 hX6 hX7 hA5 hA6 hb6 hB6 hb4 hb7 hr
  (refine wpList_plain rfl (fun K hK => ?_); go_simp; refine hK _ _ ?_; clear hK K)
  rw [HX5.out]
  refine wpList_store_row rfl 28 (.tmp 5) (.tmp 8) rfl X4.heap.size E rfl rfl 28 Z HA5.out HDS.out HDZ.out HDO.out ?_
  rw [HX6.out]
  go_upto_region 2 with fail
  apply wp_region_lit
  (refine wpList_plain rfl (fun K hK => ?_); go_simp; rw [HX7.out]; refine hK _ _ ?_; clear hK K)
  (refine wpList_plain rfl (fun K hK => ?_); go_simp; refine hK _ _ ?_; clear hK K)
  refine append_row rfl (.tmp 9) (.tmp 10) rfl w.heap.size _ 0 [] rfl HO7.out (some ⟨X4.heap.size, 0, none⟩) 8 32 (h.take 8) rfl HTL.out HR7.out (by omega) HB7.out.size ?_
  intro v8 X8 hv hg
  have HB8 := Lib.hid (own_below (n := 0) HB7.out HO7.out hg)
  have HV8 : Hid (RowV (h.take 8) v8 X8) := Lib.hid (owns_rv hv (by rw [← HTL.out]))
  clear hv hg
  go_wp2_with fail
  go_ret
  exact ⟨_, rfl, HV8.out, HB8.out⟩
theorem rtag_rv {k m : List UInt8} {x y : Value} {v : World} (hk : RowV k x v) (hm : RowV m y v) (hV : Rds v) (hkl : k.length ≤ 90000) (hml : m.length ≤ 90000) :
    Calls Tryd.prog 14 #[x, y] v fun e v' => ∃ r, e = .returned r ∧ RowV ((Da.hmac k m).take 8) r v' ∧ Below v.heap.size v v' := by
  obtain ⟨o1, c1, rfl, h1⟩ := hk
  obtain ⟨o2, c2, rfl, h2⟩ := hm
  exact rtag_of _ rfl d32_zero k m o1 o2 c1 c2 v h1 h2 hV hkl hml
theorem kright_rv {k t : List UInt8} {bs : List (List UInt8)} {b : Nat} {a1 a2 a3 : Value} {v : World} (hA : Arr v b 41 (bytesV (Da.fil k))) (h1 : a1 = .pointer (some ⟨b, 0, none⟩)) (h2 : RowV t a2 v) (h3 : RbV bs a3 v) (hV : Cds v)
    (htl : t.length ≤ 60000) (hl : bs.flatten.length ≤ 800000) (hn : bs.length ≤ 1000000) :
    Calls Tryd.prog 12 #[a1, a2, a3] v fun e v' => ∃ r, e = .returned r ∧ r = .bool (t == (Da.hmac k bs.flatten).take 8) ∧ Below v.heap.size v v' := by
  subst h1
  obtain ⟨o2, c2, rfl, h2⟩ := h2
  obtain ⟨o3, c3, rfl, h3⟩ := h3
  refine (kright_any k b t o2 c2 bs o3 c3 v hA h2 htl h3 hV hl hn).mono ?_
  rintro e w' ⟨rfl, hb⟩
  exact ⟨_, rfl, rfl, hb⟩
theorem same_rv {a b : List UInt8} {x y : Value} {v : World} (ha : RowV a x v) (hb : RowV b y v) (hal : a.length ≤ 60000) (hbl : b.length ≤ 60000) :
    Calls Tryd.prog 15 #[x, y] v fun e v' => ∃ r, e = .returned r ∧ r = .bool (a == b) ∧ Below v.heap.size v v' := by
  obtain ⟨o1, c1, rfl, h1⟩ := ha
  obtain ⟨o2, c2, rfl, h2⟩ := hb
  refine (same_any a b o1 c1 o2 c2 v h1 h2 hal hbl).mono ?_
  rintro e w' ⟨rfl, hb⟩
  exact ⟨_, rfl, rfl, hb⟩
theorem one_rv {x : List UInt8} {a : Value} {v : World} (h : RowV x a v) : RbV [x] (.slice (some ⟨v.heap.size, 0, none⟩) 1 1) (v.alloc (.cells #[a] 22)) := by
  obtain ⟨o, c, rfl, h⟩ := h
  exact ⟨_, _, rfl, one_part h⟩
end Go.Proofs.YtjfbjonbgljcfaaDoor
