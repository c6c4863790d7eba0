/- The document's Key. -/
import Derived.Test.YtemngcifeglpmaaDoorLo
import Derived.Test.YtemngcifeglpmaaDoorLd
import Derived.Test.YtemngcifeglpmaaDoorCr
import Derived.Test.YtemngcifeglpmaaDoorMr
namespace Go.Proofs.YtemngcifeglpmaaDoor
open Go.RowKit
set_option linter.unusedVariables false
set_option linter.unusedSimpArgs false
set_option maxRecDepth 100000 in
set_option maxHeartbeats 1000000 in
theorem rkey9_of (Z : Array Value) (hZ : Z = (bytesV (List.replicate 32 0)).toArray) (hzs : ∀ w, Sem.run Tryd.prog (zeroValue 50) w = .ok (.agg Z) w)
    (k : List UInt8) (o : Option Addr) (c : Nat) (s : ByteArray) (n : Int) (w : World) (hK : RowIs w o (bytesV k) c) (hV : Rds w) (hkl : k.length ≤ 90000) (hs : s.size ≤ 1000) :
    Calls Tryd.prog 8 #[.slice o k.length c, .string s, .int .i64 n] w fun e w' => ∃ x, e = .returned (.tuple #[x, .int .i64 ((Da.kbad (Da.isMas k.length) (Da.isLab s.data.toList) (Da.inR n) : Nat) : Int)]) ∧
      RowV (Da.kres (Da.kbad (Da.isMas k.length) (Da.isLab s.data.toList) (Da.inR n)) (Da.keyL k s.data.toList n)) x w' ∧ Below w.heap.size w w' := by
  have LL := Lib.hid (rlab_any s (by omega) w)
  obtain ⟨l, hll⟩ : ∃ l, Da.isLab s.data.toList = l := ⟨_, rfl⟩
  rw [hll] at LL ⊢
  have HK := Lib.hid hK
  have HV := Lib.hid hV
  clear hK hV hll
  by_cases h1 : k.length < 16
  · have hd1 : decide ((k.length : Int) < 16) = true := decide_eq_true (by omega)
    have hm : Da.isMas k.length = false := by simp [Da.isMas]; omega
    rw [hm]
    clear hm hZ
    go_enter Tryd.func8, Tryd.ntmps8
    go_wp2_with fail
    refine bodyPost_ret (results_tmp2 rfl _ _ _) rfl ?_
    exact ⟨.slice none 0 0, rfl, RowV.nil _, Below.refl _ _⟩
  have hd1 : decide ((k.length : Int) < 16) = false := decide_eq_false (by omega)
  by_cases h2 : 64 < k.length
  · have hd2 : decide ((k.length : Int) > 64) = true := decide_eq_true (by omega)
    have hm : Da.isMas k.length = false := by simp [Da.isMas]; omega
    rw [hm]
    clear hm hZ
    go_enter Tryd.func8, Tryd.ntmps8
    go_wp2_with fail
    refine bodyPost_ret (results_tmp2 rfl _ _ _) rfl ?_
    exact ⟨.slice none 0 0, rfl, RowV.nil _, Below.refl _ _⟩
  have hd2 : decide ((k.length : Int) > 64) = false := decide_eq_false (by omega)
  have hm : Da.isMas k.length = true := by simp [Da.isMas]; omega
  rw [hm]
  clear hm
  cases l with
  | false =>
    go_enter Tryd.func8, Tryd.ntmps8
    go_wp2_with fail
    refine LL.out.mono ?_
    rintro e w1 ⟨rfl, rfl⟩
    go_wp2_with fail
    refine bodyPost_ret (results_tmp2 rfl _ _ _) rfl ?_
    exact ⟨.slice none 0 0, rfl, RowV.nil _, Below.refl _ _⟩
  | true =>
  by_cases h3 : n < 0
  · have hd3 : decide (n < 0) = true := decide_eq_true h3
    have hr : Da.inR n = false := by simp [Da.inR]; omega
    rw [hr]
    go_enter Tryd.func8, Tryd.ntmps8
    go_wp2_with fail
    refine LL.out.mono ?_
    rintro e w1 ⟨rfl, rfl⟩
    go_wp2_with fail
    refine bodyPost_ret (results_tmp2 rfl _ _ _) rfl ?_
    exact ⟨.slice none 0 0, rfl, RowV.nil _, Below.refl _ _⟩
  have hd3 : decide (n < 0) = false := decide_eq_false h3
  by_cases h4 : 1099511627776 < n
  · have hd4 : decide (n > 1099511627776) = true := decide_eq_true h4
    have hr : Da.inR n = false := by simp [Da.inR]; omega
    rw [hr]
    go_enter Tryd.func8, Tryd.ntmps8
    go_wp2_with fail
    refine LL.out.mono ?_
    rintro e w1 ⟨rfl, rfl⟩
    go_wp2_with fail
    refine bodyPost_ret (results_tmp2 rfl _ _ _) rfl ?_
    exact ⟨.slice none 0 0, rfl, RowV.nil _, Below.refl _ _⟩
  have hd4 : decide (n > 1099511627776) = false := decide_eq_false h4
  have hr : Da.inR n = true := by simp [Da.inR]; omega
  rw [hr]
  obtain ⟨h, hh⟩ : ∃ h, Da.keyL k s.data.toList n = h := ⟨_, rfl⟩
  have hhl : h.length = 32 := by rw [← hh]; exact Da.keyL_length _ _ _
  obtain ⟨E, hE⟩ : ∃ E, (bytesV h).toArray = E := ⟨_, rfl⟩
  have HDS : Hid ((Tryd.prog.info? 50).map (·.size) = some E.size) := Lib.hid (by rw [d32_info, ← hE]; simp [hhl])
  have HDO : Hid (E.all (·.oneCell') = true) := Lib.hid (by rw [← hE]; exact all_oneCell_toArray (bytesV_one _))
  have HDZ : Hid (Z.size = E.size) := Lib.hid (by rw [hZ, ← hE]; simp [hhl])
  obtain ⟨v0, hcv, hr0, hb0⟩ := crow_conv w s (by omega)
  obtain ⟨W1, hW1⟩ : ∃ W1, Lib.bytesWorld w 5 s = W1 := ⟨_, rfl⟩
  rw [hW1] at hcv hr0 hb0
  obtain ⟨W2, hW2⟩ : ∃ W2, W1.alloc (.cells #[.int .u8 0] 5) = W2 := ⟨_, rfl⟩
  have hb2 : Below W1.heap.size W1 W2 := by rw [← hW2]; exact (Below.refl _ _).alloc (Nat.le_refl _) _
  have hz2 : RowIs W2 (some ⟨W1.heap.size, 0, none⟩) (bytesV [0]) 1 := by
    rw [← hW2]
    exact Arr.row (z := [0]) (Arr.made _ _ _) (by unfold maxLen; decide)
  have HR2 := Lib.hid (hr0.later hb2)
  have HZ2 := Lib.hid hz2
  have HB2 := Lib.hid (Kit.step hb0 hb2)
  have HE := Lib.hid hE
  have HH := Lib.hid hh
  have HHL := Lib.hid hhl
  have HCV := Lib.hid hcv
  have HW2 := Lib.hid hW2
  have HSL : Hid (s.data.toList.length ≤ 1000) := Lib.hid hs
  rw [hh]
  clear hr hZ hE hh hhl hcv hr0 hb0 hW1 hW2 hb2 hz2
  go_enter Tryd.func8, Tryd.ntmps8
  go_wp2_with fail
  refine LL.out.mono ?_
  rintro e w1 ⟨rfl, rfl⟩
  clear LL
  go_upto_region 7 with fail
  apply wp_region_lit
  (refine wpList_plain rfl (fun K hK => ?_); go_simp; refine hK _ _ ?_; clear hK K)
  (refine wpList_plain rfl (fun K hK => ?_); go_simp; refine hK _ _ ?_; clear hK K)
  (refine wpList_plain rfl (fun K hK => ?_); have hcv := HCV.out; go_simp; refine hK _ _ ?_; clear hK K hcv)
  (refine wpList_plain rfl (fun K hK => ?_); go_simp; refine hK _ _ ?_; clear hK K)
  rw [HW2.out]
  refine crow_append rfl (.tmp 28) (.tmp 29) rfl w1.heap.size _ s.data.toList rfl HR2.out ⟨W1.heap.size, 0, none⟩ 1 1 [0] rfl rfl HZ2.out (by have := HSL.out; simp only [List.length_cons, List.length_nil]; omega) HB2.out.size ?_
  intro v3 W3 hv3 hg3
  have HB3 := Lib.hid (CRow.below HB2.out HR2.out hg3)
  have HV3 := Lib.hid hv3
  clear hv3 hg3
  (refine wpList_plain rfl (fun K hK => ?_); go_simp; refine hK _ _ ?_; clear hK K)
  (refine wpList_plain rfl (fun K hK => ?_); go_simp)
  refine (rnum9_any n W3).mono ?_
  rintro e W4 ⟨g4, rfl, hr4, hb4⟩
  refine hK _ _ ?_
  clear hK K
  have HB4 := Lib.hid (Kit.step HB3.out hb4)
  have HV4 := Lib.hid (HV3.out.later hb4)
  have HR4 := Lib.hid hr4
  clear hr4 hb4
  refine crow_append rfl (.tmp 30) (.tmp 32) rfl w1.heap.size _ (s.data.toList ++ [0]) rfl HV4.out ⟨g4, 0, none⟩ 8 8 (Da.num8 n) rfl (Da.num8_length n).symm HR4.out (by have := HSL.out; rw [Da.num8_length, List.length_append]; simp only [List.length_cons, List.length_nil]; omega) HB4.out.size ?_
  intro v5 W5 hv5 hg5
  have HB5 := Lib.hid (CRow.below HB4.out HV4.out hg5)
  obtain ⟨g5, c5, rfl, _, _, hr5⟩ := hv5.row
  obtain ⟨M, hM⟩ : ∃ M, s.data.toList ++ [0] ++ Da.num8 n = M := ⟨_, rfl⟩
  have hml : M.length ≤ 1009 := by rw [← hM, List.length_append, List.length_append, Da.num8_length]; simp only [List.length_cons, List.length_nil]; have := HSL.out; omega
  rw [hM] at hr5 ⊢
  have RM := Lib.hid (rmac_any k M o (some ⟨g5, 0, none⟩) c c5 W5 (HK.out.later HB5.out) hr5 (HV.out.later HB5.out) hkl (by omega))
  rw [show Da.hmac k M = h from by rw [← hM, List.append_assoc, ← HH.out]; rfl, HE.out] at RM
  clear hv5 hg5 hr5 hM hml
  (refine wpList_plain rfl (fun K hK => ?_); go_simp)
  refine RM.out.mono ?_
  rintro e X4 ⟨rfl, hb4⟩
  refine hK _ _ ?_
  clear hK K RM
  obtain ⟨X5, hX5⟩ : ∃ X5, X4.alloc (.cells Z 50) = X5 := ⟨_, rfl⟩
  obtain ⟨X6, hX6⟩ : ∃ X6, X5.setRow X4.heap.size E = X6 := ⟨_, rfl⟩
  have hA5 : Arr X5 X4.heap.size 50 Z.toList := by rw [← hX5]; exact Arr.made _ _ _
  have hA6 : Arr X6 X4.heap.size 50 (bytesV h) := by rw [← hX6, ← HE.out]; exact setRow_heap _ _ _ _ _ _ hA5
  have hb6 : Below X4.heap.size X4 X6 := by rw [← hX6, ← hX5]; exact ((Below.refl _ _).alloc (Nat.le_refl _) _).trans (below_row (Nat.le_refl _))
  have hB6 := Kit.step (Kit.step HB5.out hb4) hb6
  obtain ⟨X7, hX7⟩ : ∃ X7, X6.alloc (.cells #[] 5) = X7 := ⟨_, rfl⟩
  have hb7 : Below X6.heap.size X6 X7 := by rw [← hX7]; exact (Below.refl _ _).alloc (Nat.le_refl _) _
  have HO7 : Hid (X7.ownsRow w1.heap.size 5 1 (.slice (some ⟨X6.heap.size, 0, none⟩) 0 0) 0 (bytesV [])) := Lib.hid (by rw [← hX7]; exact World.ownsRow_lit X6 #[] 0 hB6.size (Nat.zero_le _) rfl)
  have hr := (hA6.later hb7 hA6.lt).row (by rw [HHL.out]; unfold maxLen; decide)
  rw [HHL.out] at hr
  have HR7 := Lib.hid hr
  have HTL : Hid (32 = h.length) := Lib.hid HHL.out.symm
  have HB7 := Lib.hid (Kit.step hB6 hb7)
  have HA5 : Hid (X5.heap[X4.heap.size]? = some (.cells Z 50 (0, 0))) := Lib.hid hA5
  have HX5 := Lib.hid hX5
  have HX6 := Lib.hid hX6
  have HX7 := Lib.hid hX7
  clear hX5 hX6 hX7 hA5 hA6 hb6 hB6 hb4 hb7 hr
  (refine wpList_plain rfl (fun K hK => ?_); go_simp; refine hK _ _ ?_; clear hK K)
  rw [HX5.out]
  refine wpList_store_row rfl 50 (.tmp 8) (.tmp 34) rfl X4.heap.size E rfl rfl 50 Z HA5.out HDS.out HDZ.out HDO.out ?_
  rw [HX6.out]
  go_upto_region 8 with fail
  apply wp_region_lit
  (refine wpList_plain rfl (fun K hK => ?_); go_simp; rw [HX7.out]; refine hK _ _ ?_; clear hK K)
  (refine wpList_plain rfl (fun K hK => ?_); go_simp; refine hK _ _ ?_; clear hK K)
  refine append_row rfl (.tmp 35) (.tmp 36) rfl w1.heap.size _ 0 [] rfl HO7.out (some ⟨X4.heap.size, 0, none⟩) 32 32 h rfl HTL.out HR7.out (by omega) HB7.out.size ?_
  intro v8 X8 hv hg
  have HB8 := Lib.hid (own_below (n := 0) HB7.out HO7.out hg)
  have HV8 : Hid (RowV h v8 X8) := Lib.hid (owns_rv hv (by rw [← HTL.out]))
  clear hv hg
  go_wp2_with fail
  refine bodyPost_ret (results_tmp2 rfl _ _ _) rfl ?_
  exact ⟨v8, rfl, HV8.out, HB8.out⟩
theorem rkey9_any (k : List UInt8) (o : Option Addr) (c : Nat) (s : ByteArray) (n : Int) (w : World) (hK : RowIs w o (bytesV k) c) (hV : Rds w) (hkl : k.length ≤ 90000) (hs : s.size ≤ 1000) :
    Calls Tryd.prog 8 #[.slice o k.length c, .string s, .int .i64 n] w fun e w' => ∃ x, e = .returned (.tuple #[x, .int .i64 ((Da.kbad (Da.isMas k.length) (Da.isLab s.data.toList) (Da.inR n) : Nat) : Int)]) ∧
      RowV (Da.kres (Da.kbad (Da.isMas k.length) (Da.isLab s.data.toList) (Da.inR n)) (Da.keyL k s.data.toList n)) x w' ∧ Below w.heap.size w w' :=
  rkey9_of _ rfl d32_zero k o c s n w hK hV hkl hs
end Go.Proofs.YtemngcifeglpmaaDoor
