/- LabelSame. -/
import Derived.Test.YtemngcifeglpmaaDoorAl9
import Derived.Test.YtemngcifeglpmaaDoorLg
import Derived.Test.YtemngcifeglpmaaDoorStq
namespace Go.Proofs.YtemngcifeglpmaaDoor
open Go.RowKit
set_option linter.unusedVariables false
set_option linter.unusedSimpArgs false
theorem qk_off {P : Program} {ops : Array Oper} {C : World → Prop} {K : Act → Prop} {o : Oper} {a : Act} (hg : Region.wanted o (yielded ops a.tmps) = false) (h : K (a.put o.dst undef)) :
    if Region.wanted o (yielded ops a.tmps) then o.quiet P a C K else K (a.put o.dst undef) := by
  rw [if_neg (by rw [hg]; simp)]
  exact h
theorem keys_small (b : Nat) (z : List UInt8) (n : Int) : ∀ i, i < 5 → (bi (Da.ares b (Da.keysL z n)) i).length ≤ 60000 := fun i hi => by
  unfold Da.ares
  split
  · match i, hi with
    | 0, _ => exact Nat.le_trans (Nat.le_of_eq (Da.keyL_length _ _ _)) (by decide)
    | 1, _ => exact Nat.le_trans (Nat.le_of_eq (Da.keyL_length _ _ _)) (by decide)
    | 2, _ => exact Nat.le_trans (Nat.le_of_eq (Da.keyL_length _ _ _)) (by decide)
    | 3, _ => exact Nat.le_trans (Nat.le_of_eq (Da.keyL_length _ _ _)) (by decide)
    | 4, _ => exact Nat.le_trans (Nat.le_of_eq (Da.keyL_length _ _ _)) (by decide)
  · match i, hi with
    | 0, _ => exact Nat.zero_le _
    | 1, _ => exact Nat.zero_le _
    | 2, _ => exact Nat.zero_le _
    | 3, _ => exact Nat.zero_le _
    | 4, _ => exact Nat.zero_le _
theorem errV_eql (A : Nat → Addr) (b : Nat) : ∃ eb, (∀ W, (binOp .eql 26 (errV A b) .nilIface).run Tryd.prog W = .ok (.bool eb) W) ∧ ∀ (x : Nat) (W : World), (eqGuard .eql 26 (.tmp x) (.const .nilIface) (errV A b) .nilIface).run Tryd.prog W = .ok () W := by
  unfold errV
  split
  · exact ⟨true, fun W => by kernel_rfl, fun _ W => by kernel_rfl⟩
  · exact ⟨false, fun W => by kernel_rfl, fun _ W => by kernel_rfl⟩
/-- where the last loop stands -/
def Lsm9 (L asl : List (List UInt8)) (V : World) (s i : Value) (wr : World) : Prop := ∃ q : Nat, q ≤ 5 ∧ i = .int .i64 q ∧ s = .bool (L.take q == asl.take q) ∧ Below V.heap.size V wr
set_option maxRecDepth 100000 in
set_option maxHeartbeats 20000000 in
theorem ls_of (Z : Array Value) (hZ : Z = nil5.toArray) (hzs : ∀ w, Sem.run Tryd.prog (zeroValue 36) w = .ok (.agg Z) w)
    (z : List UInt8) (o : Option Addr) (c : Nat) (n : Int) (xsa : List Value) (asl : List (List UInt8)) (A : Nat → Addr) (W : World) (hK : RowIs W o (bytesV z) c) (hA : Els W asl xsa) (hal : asl.length = 5) (hC : Cds W) (hE : Er.Errs W A) :
    Calls Tryd.prog 4 #[.slice o z.length c, .int .i64 n, .agg xsa.toArray] W fun e w' => e = .returned (.bool true) ∧ Below W.heap.size W w' := by
  have hk1 := hK.le
  have hk2 := hK.cap
  simp only [bytesV_length] at hk1
  unfold maxLen at hk2
  obtain ⟨FA, hFA⟩ : ∃ F : Array Value, xsa.toArray = F := ⟨_, rfl⟩
  obtain ⟨ga, hga⟩ : ∃ g, W.heap.size = g := ⟨_, rfl⟩
  obtain ⟨W0, hW0⟩ : ∃ X, W.alloc (.cells FA 36) = X := ⟨_, rfl⟩
  have hxal : xsa.length = 5 := hA.len.trans hal
  have hA0 : Arr W0 ga 36 xsa := by rw [← hW0, ← hga, ← hFA]; exact Arr.made _ _ _
  have hb0 : Below W.heap.size W W0 := by rw [← hW0]; exact (Below.refl _ _).alloc (Nat.le_refl _) _
  have AL := Lib.hid (alive9_any A W0 (hC.later hb0) (hE.later hb0))
  have HFLA : Hid ((Tryd.prog.info? 36).map (·.size) = some xsa.length) := Lib.hid (by rw [lk_info]; simp [hxal])
  have HFSA : Hid ((Tryd.prog.info? 36).map (·.size) = some FA.size) := Lib.hid (by rw [lk_info, ← hFA]; simp [hxal])
  have HK := Lib.hid hK
  have HC := Lib.hid hC
  have HE := Lib.hid hE
  have HZ := Lib.hid hZ
  have HAA := Lib.hid hA
  have HAL := Lib.hid hal
  have HA0 := Lib.hid hA0
  have HB0 := Lib.hid hb0
  have HFA := Lib.hid hFA
  have HW0 := Lib.hid hW0
  have HGA := Lib.hid hga
  rw [hFA]
  clear hK hC hE hZ hA hal hA0 hb0 hFA hW0 hga hxal
  go_enter Tryd.func4, Tryd.ntmps4
  go_wp2_with (first | rw [HW0.out, HGA.out])
  refine AL.out.mono ?_
  rintro e W1 ⟨rfl, hb1⟩
  have HB1 := Lib.hid (Kit.step HB0.out hb1)
  have hA1 := HA0.out.later hb1 HA0.out.lt
  have HA1 := Lib.hid hA1
  have hE1 := HAA.out.later HB1.out
  obtain ⟨v0, hv0, o0, c0, rfl, _⟩ := hE1.get 0 (by rw [HAL.out]; decide)
  have hc0 : W1.cell? ⟨ga, 0, none⟩ = some (.slice o0 (bi asl 0).length c0) := by rw [hA1.cell]; exact hv0
  obtain ⟨v1, hv1, o1, c1, rfl, _⟩ := hE1.get 1 (by rw [HAL.out]; decide)
  have hc1 : W1.cell? ⟨ga, 1, none⟩ = some (.slice o1 (bi asl 1).length c1) := by rw [hA1.cell]; exact hv1
  obtain ⟨v2, hv2, o2, c2, rfl, _⟩ := hE1.get 2 (by rw [HAL.out]; decide)
  have hc2 : W1.cell? ⟨ga, 2, none⟩ = some (.slice o2 (bi asl 2).length c2) := by rw [hA1.cell]; exact hv2
  obtain ⟨v3, hv3, o3, c3, rfl, _⟩ := hE1.get 3 (by rw [HAL.out]; decide)
  have hc3 : W1.cell? ⟨ga, 3, none⟩ = some (.slice o3 (bi asl 3).length c3) := by rw [hA1.cell]; exact hv3
  obtain ⟨v4, hv4, o4, c4, rfl, _⟩ := hE1.get 4 (by rw [HAL.out]; decide)
  have hc4 : W1.cell? ⟨ga, 4, none⟩ = some (.slice o4 (bi asl 4).length c4) := by rw [hA1.cell]; exact hv4
  clear hb1 AL hA1 hE1 HB0 HA0 HW0 hv0 hv1 hv2 hv3 hv4
  by_cases hz3 : 200 < z.length
  · have hd : decide ((z.length : Int) > 200) = true := decide_eq_true (by omega)
    go_wp2_with fail
    go_ret
    exact ⟨rfl, HB1.out⟩
  have hd : decide ((z.length : Int) > 200) = false := decide_eq_false (by omega)
  by_cases hq0 : 60 < (bi asl 0).length
  · have hdq0 : decide (((bi asl 0).length : Int) > 60) = true := decide_eq_true (by omega)
    go_wp2_with fail
    go_ret
    exact ⟨rfl, HB1.out⟩
  have hdq0 : decide (((bi asl 0).length : Int) > 60) = false := decide_eq_false (by omega)
  by_cases hq1 : 60 < (bi asl 1).length
  · have hdq1 : decide (((bi asl 1).length : Int) > 60) = true := decide_eq_true (by omega)
    go_wp2_with fail
    go_ret
    exact ⟨rfl, HB1.out⟩
  have hdq1 : decide (((bi asl 1).length : Int) > 60) = false := decide_eq_false (by omega)
  by_cases hq2 : 60 < (bi asl 2).length
  · have hdq2 : decide (((bi asl 2).length : Int) > 60) = true := decide_eq_true (by omega)
    go_wp2_with fail
    go_ret
    exact ⟨rfl, HB1.out⟩
  have hdq2 : decide (((bi asl 2).length : Int) > 60) = false := decide_eq_false (by omega)
  by_cases hq3 : 60 < (bi asl 3).length
  · have hdq3 : decide (((bi asl 3).length : Int) > 60) = true := decide_eq_true (by omega)
    go_wp2_with fail
    go_ret
    exact ⟨rfl, HB1.out⟩
  have hdq3 : decide (((bi asl 3).length : Int) > 60) = false := decide_eq_false (by omega)
  by_cases hq4 : 60 < (bi asl 4).length
  · have hdq4 : decide (((bi asl 4).length : Int) > 60) = true := decide_eq_true (by omega)
    go_wp2_with fail
    go_ret
    exact ⟨rfl, HB1.out⟩
  have hdq4 : decide (((bi asl 4).length : Int) > 60) = false := decide_eq_false (by omega)
  have HAS : Hid (∀ i, i < 5 → (bi asl i).length ≤ 60000) := Lib.hid fun i hi => by
    match i, hi with
    | 0, _ => omega
    | 1, _ => omega
    | 2, _ => omega
    | 3, _ => omega
    | 4, _ => omega
  obtain ⟨ba, hba⟩ : ∃ b, Da.abad (Da.isMas z.length) (Da.inR n) = b := ⟨_, rfl⟩
  obtain ⟨L, hL⟩ : ∃ L, Da.ares ba (Da.keysL z n) = L := ⟨_, rfl⟩
  have hLl : L.length = 5 := by rw [← hL]; unfold Da.ares; split <;> rfl
  have HLS : Hid (∀ i, i < 5 → (bi L i).length ≤ 60000) := Lib.hid (by rw [← hL]; exact keys_small ba z n)
  obtain ⟨eb, heb⟩ := errV_eql A ba
  obtain ⟨ea, hea⟩ : ∃ ea, errV A ba = ea := ⟨_, rfl⟩
  rw [hea] at heb
  have HEB := Lib.hid heb
  have LA : Hid (∀ v, Below W.heap.size W v → Calls Tryd.prog 15 #[.slice o z.length c, .int .i64 n] v fun e w' => ∃ xs : List Value, e = .returned (.tuple #[.agg xs.toArray, ea]) ∧ Els w' L xs ∧ Below v.heap.size v w') := Lib.hid fun v hv => by
    have := lall_any z o c n A v (HK.out.later hv) (HC.out.later hv) (HE.out.later hv).nine (by omega)
    rw [hba, hL, hea] at this
    exact this
  have HLL := Lib.hid hLl
  clear hba hL hea hLl heb
  have HBW1 := HB1
  have HAW1 := HA1
  go_upto_region 5 with fail
  apply wp_region_lit
  (refine wpList_plain rfl (fun K hK => ?_); go_simp; refine hK _ _ ?_; clear hK K)
  (refine wpList_plain rfl (fun K hK => ?_); go_simp; refine hK _ _ ?_; clear hK K)
  (refine wpList_plain rfl (fun K hK => ?_); go_simp)
  refine (LA.out W1 HBW1.out).mono ?_
  rintro e Y0a ⟨xs0, rfl, hxs, hba⟩
  refine hK _ _ ?_
  clear hK K
  have hxl : xs0.length = 5 := hxs.len.trans HLL.out
  obtain ⟨F0, hF⟩ : ∃ F : Array Value, xs0.toArray = F := ⟨_, rfl⟩
  obtain ⟨g0, hg⟩ : ∃ g, Y0a.heap.size = g := ⟨_, rfl⟩
  obtain ⟨Y0b, hXb⟩ : ∃ X, Y0a.alloc (.cells Z 36) = X := ⟨_, rfl⟩
  obtain ⟨Y0, hXd⟩ : ∃ X, Y0b.setRow g0 F0 = X := ⟨_, rfl⟩
  have hAb : Arr Y0b g0 36 Z.toList := by rw [← hXb, ← hg]; exact Arr.made _ _ _
  have hAd : Arr Y0 g0 36 xs0 := by rw [← hXd]; unfold Arr; rw [hF]; exact setRow_heap _ _ _ _ _ _ hAb
  have hbd : Below Y0a.heap.size Y0a Y0 := by rw [← hXd, ← hXb]; exact ((Below.refl _ _).alloc (Nat.le_refl _) _).trans (below_row (by omega))
  have HAb : Hid (Y0b.heap[g0]? = some (.cells Z 36 (0, 0))) := Lib.hid hAb
  have HFS0 : Hid ((Tryd.prog.info? 36).map (·.size) = some F0.size) := Lib.hid (by rw [lk_info, ← hF]; simp [hxl])
  have HFL0 : Hid ((Tryd.prog.info? 36).map (·.size) = some xs0.length) := Lib.hid (by rw [lk_info]; simp [hxl])
  have HFZ : Hid (Z.size = F0.size) := Lib.hid (by rw [HZ.out, ← hF]; simp [hxl]; rfl)
  have HFO : Hid (F0.all (·.oneCell') = true) := Lib.hid (by rw [← hF]; exact all_oneCell_toArray hxs.ones)
  have hbx := Kit.step hba hbd
  have HBY0 := Lib.hid (Kit.step HBW1.out hbx)
  have HAY0 := Lib.hid (HAW1.out.later hbx HAW1.out.lt)
  have HE0Y0 := Lib.hid (hxs.later hbd)
  have HG0Y0 := Lib.hid hAd
  have HF0 := Lib.hid hF
  have HXb := Lib.hid hXb
  have HXd := Lib.hid hXd
  have HGG := Lib.hid hg
  rw [hF]
  clear hxs hxl hF hXb hXd hAb hAd hbd hba hbx hg
  (refine wpList_plain rfl (fun K hK => ?_); go_simp; refine hK _ _ ?_; clear hK K)
  (refine wpList_plain rfl (fun K hK => ?_); go_simp; refine hK _ _ ?_; clear hK K)
  (refine wpList_plain rfl (fun K hK => ?_); go_simp; refine hK _ _ ?_; clear hK K)
  (refine wpList_plain rfl (fun K hK => ?_); go_simp; refine hK _ _ ?_; clear hK K)
  rw [HXb.out, HGG.out]
  refine wpList_store_rowTo rfl 36 (.tmp 7) (.tmp 53) rfl rfl g0 F0 rfl rfl 36 Z HAb.out HFS0.out HFZ.out HFO.out ?_
  rw [HXd.out]
  clear HXb HXd HAb HFZ HGG HFO
  clear hc0 hc1 hc2 hc3 hc4 HBW1 HAW1 HB1 HA1
  go_upto_region 6 with fail
  apply wp_region_lit
  (refine wpList_plain rfl (fun K hK => ?_); go_simp; refine hK _ _ ?_; clear hK K)
  (refine wpList_plain rfl (fun K hK => ?_); go_simp; refine hK _ _ ?_; clear hK K)
  (refine wpList_plain rfl (fun K hK => ?_); go_simp)
  refine (LA.out Y0 HBY0.out).mono ?_
  rintro e Y1a ⟨xs1, rfl, hxs, hba⟩
  refine hK _ _ ?_
  clear hK K
  have hxl : xs1.length = 5 := hxs.len.trans HLL.out
  obtain ⟨F1, hF⟩ : ∃ F : Array Value, xs1.toArray = F := ⟨_, rfl⟩
  obtain ⟨g1, hg⟩ : ∃ g, Y1a.heap.size = g := ⟨_, rfl⟩
  obtain ⟨Y1b, hXb⟩ : ∃ X, Y1a.alloc (.cells Z 36) = X := ⟨_, rfl⟩
  obtain ⟨Y1, hXd⟩ : ∃ X, Y1b.setRow g1 F1 = X := ⟨_, rfl⟩
  have hAb : Arr Y1b g1 36 Z.toList := by rw [← hXb, ← hg]; exact Arr.made _ _ _
  have hAd : Arr Y1 g1 36 xs1 := by rw [← hXd]; unfold Arr; rw [hF]; exact setRow_heap _ _ _ _ _ _ hAb
  have hbd : Below Y1a.heap.size Y1a Y1 := by rw [← hXd, ← hXb]; exact ((Below.refl _ _).alloc (Nat.le_refl _) _).trans (below_row (by omega))
  have HAb : Hid (Y1b.heap[g1]? = some (.cells Z 36 (0, 0))) := Lib.hid hAb
  have HFS1 : Hid ((Tryd.prog.info? 36).map (·.size) = some F1.size) := Lib.hid (by rw [lk_info, ← hF]; simp [hxl])
  have HFL1 : Hid ((Tryd.prog.info? 36).map (·.size) = some xs1.length) := Lib.hid (by rw [lk_info]; simp [hxl])
  have HFZ : Hid (Z.size = F1.size) := Lib.hid (by rw [HZ.out, ← hF]; simp [hxl]; rfl)
  have HFO : Hid (F1.all (·.oneCell') = true) := Lib.hid (by rw [← hF]; exact all_oneCell_toArray hxs.ones)
  have hbx := Kit.step hba hbd
  have HBY1 := Lib.hid (Kit.step HBY0.out hbx)
  have HAY1 := Lib.hid (HAY0.out.later hbx HAY0.out.lt)
  have HE0Y1 := Lib.hid (HE0Y0.out.later hbx)
  have HG0Y1 := Lib.hid (HG0Y0.out.later hbx HG0Y0.out.lt)
  have HE1Y1 := Lib.hid (hxs.later hbd)
  have HG1Y1 := Lib.hid hAd
  have HF1 := Lib.hid hF
  have HXb := Lib.hid hXb
  have HXd := Lib.hid hXd
  have HGG := Lib.hid hg
  rw [hF]
  clear hxs hxl hF hXb hXd hAb hAd hbd hba hbx hg
  (refine wpList_plain rfl (fun K hK => ?_); go_simp; refine hK _ _ ?_; clear hK K)
  (refine wpList_plain rfl (fun K hK => ?_); go_simp; refine hK _ _ ?_; clear hK K)
  (refine wpList_plain rfl (fun K hK => ?_); go_simp; refine hK _ _ ?_; clear hK K)
  (refine wpList_plain rfl (fun K hK => ?_); go_simp; refine hK _ _ ?_; clear hK K)
  rw [HXb.out, HGG.out]
  refine wpList_store_rowTo rfl 36 (.tmp 9) (.tmp 59) rfl rfl g1 F1 rfl rfl 36 Z HAb.out HFS1.out HFZ.out HFO.out ?_
  rw [HXd.out]
  clear HXb HXd HAb HFZ HGG HFO
  clear HBY0 HAY0 HE0Y0 HG0Y0
  go_upto_region 7 with fail
  have hEA := HAA.out.later HBY1.out
  have SXY : Hid (∀ v, Below Y1.heap.size Y1 v → Calls Tryd.prog 19 #[.agg F0, .agg F1] v fun e w' => e = .returned (.bool true) ∧ Below Y1.heap.size Y1 w') := Lib.hid fun v hv => by
    have := lsame_any xs0 xs1 L L v (HE0Y1.out.later hv) (HE1Y1.out.later hv) HLL.out HLL.out HLS.out HLS.out
    rw [beq_self_eq_true, HF0.out, HF1.out] at this
    exact this.mono fun e w' h => ⟨h.1, Kit.step hv h.2⟩
  have SAA : Hid (∀ v, Below Y1.heap.size Y1 v → Calls Tryd.prog 19 #[.agg FA, .agg FA] v fun e w' => e = .returned (.bool true) ∧ Below Y1.heap.size Y1 w') := Lib.hid fun v hv => by
    have := lsame_any xsa xsa asl asl v (hEA.later hv) (hEA.later hv) HAL.out HAL.out HAS.out HAS.out
    rw [beq_self_eq_true, HFA.out] at this
    exact this.mono fun e w' h => ⟨h.1, Kit.step hv h.2⟩
  have LD0 : Hid (∀ v, Below Y1.heap.size Y1 v → v.rangeAt g0 0 xs0) := Lib.hid fun v hv => (HG0Y1.out.later hv HG0Y1.out.lt).range 0 _ (fun j v hv => by rw [Nat.zero_add]; exact hv)
  have LD1 : Hid (∀ v, Below Y1.heap.size Y1 v → v.rangeAt g1 0 xs1) := Lib.hid fun v hv => (HG1Y1.out.later hv HG1Y1.out.lt).range 0 _ (fun j v hv => by rw [Nat.zero_add]; exact hv)
  have LDA : Hid (∀ v, Below Y1.heap.size Y1 v → v.rangeAt ga 0 xsa) := Lib.hid fun v hv => (HAY1.out.later hv HAY1.out.lt).range 0 _ (fun j v hv => by rw [Nat.zero_add]; exact hv)
  have heq := HEB.out
  clear hEA
  obtain ⟨C, hCC⟩ : ∃ C : World → Prop, (fun v => Below Y1.heap.size Y1 v) = C := ⟨_, rfl⟩
  have hC0 : C { Y1 with drawn := Y1.drawn + 1 } := by rw [← hCC]; exact Kit.dn' Y1 1
  have HCm : Hid (∀ v, C v → Below Y1.heap.size Y1 v) := Lib.hid fun v hv => by rw [← hCC] at hv; exact hv
  have HCi : Hid (∀ v, Below Y1.heap.size Y1 v → C v) := Lib.hid fun v hv => by rw [← hCC]; exact hv
  clear hCC
  refine wp_region_quiet (C := C) (by kernel_rfl) (by kernel_rfl) hC0 ?_
  simp only
  (refine wpQuiet_step (fun K hK => ?_); refine St.qk_val (x := ?_) (by rfl) (fun w hw => ?_) ?_; rotate_left; (· go_simp <;> with_reducible rfl); go_simp; refine hK _ ?_; clear hK K)
  (refine wpQuiet_step (fun K hK => ?_); refine St.qk_val (x := .bool eb) (by rfl) (fun w hw => by have h := heq.1 w; have h2 := fun x => heq.2 x w; go_simp) ?_; go_simp; refine hK _ ?_; clear hK K)
  (refine wpQuiet_step (fun K hK => ?_); refine St.qk_val (x := ?_) (by rfl) (fun w hw => ?_) ?_; rotate_left; (· go_simp <;> with_reducible rfl); go_simp; refine hK _ ?_; clear hK K)
  (refine wpQuiet_step (fun K hK => ?_); refine St.qk_val (x := .bool eb) (by rfl) (fun w hw => by have h := heq.1 w; have h2 := fun x => heq.2 x w; go_simp) ?_; go_simp; refine hK _ ?_; clear hK K)
  (refine wpQuiet_step (fun K hK => ?_); refine St.qk_val (x := ?_) (by rfl) (fun w hw => ?_) ?_; rotate_left; (· go_simp <;> with_reducible rfl); go_simp; refine hK _ ?_; clear hK K)
  (refine wpQuiet_step (fun K hK => ?_); refine St.qk_val (x := ?_) (by rfl) (fun w hw => ?_) ?_; rotate_left; (· go_simp <;> with_reducible rfl); go_simp; refine hK _ ?_; clear hK K)
  (refine wpQuiet_step (fun K hK => ?_); refine St.qk_val (x := .agg F0) (by rfl) (fun w hw => by rw [← HF0.out]; exact St.exec_load rfl rfl xs0 _ (LD0.out w (HCm.out w hw)) Tryd.underlying36 rfl HFL0.out) ?_; go_simp; refine hK _ ?_; clear hK K)
  (refine wpQuiet_step (fun K hK => ?_); refine St.qk_val (x := .agg F1) (by rfl) (fun w hw => by rw [← HF1.out]; exact St.exec_load rfl rfl xs1 _ (LD1.out w (HCm.out w hw)) Tryd.underlying36 rfl HFL1.out) ?_; go_simp; refine hK _ ?_; clear hK K)
  (refine wpQuiet_step (fun K hK => ?_); refine St.qk_call (by rfl) 19 _ _ rfl #[.agg F0, .agg F1] (by go_simp) (fun w => by simp [go_sem]) (.bool true) (fun v hv => (SXY.out v (HCm.out v hv)).mono (fun e w' h => ⟨h.1, HCi.out _ h.2⟩)) ?_; go_simp; refine hK _ ?_; clear hK K)
  (refine wpQuiet_step (fun K hK => ?_); refine St.qk_val (x := ?_) (by rfl) (fun w hw => ?_) ?_; rotate_left; (· go_simp <;> with_reducible rfl); go_simp; refine hK _ ?_; clear hK K)
  (refine wpQuiet_step (fun K hK => ?_); refine St.qk_val (x := ?_) (by rfl) (fun w hw => ?_) ?_; rotate_left; (· go_simp <;> with_reducible rfl); go_simp; refine hK _ ?_; clear hK K)
  (refine wpQuiet_step (fun K hK => ?_); refine St.qk_val (x := ?_) (by rfl) (fun w hw => ?_) ?_; rotate_left; (· go_simp <;> with_reducible rfl); go_simp; refine hK _ ?_; clear hK K)
  (refine wpQuiet_step (fun K hK => ?_); refine St.qk_val (x := .agg FA) (by rfl) (fun w hw => by rw [← HFA.out]; exact St.exec_load rfl rfl xsa _ (LDA.out w (HCm.out w hw)) Tryd.underlying36 rfl HFLA.out) ?_; go_simp; refine hK _ ?_; clear hK K)
  (refine wpQuiet_step (fun K hK => ?_); refine St.qk_val (x := .agg FA) (by rfl) (fun w hw => by rw [← HFA.out]; exact St.exec_load rfl rfl xsa _ (LDA.out w (HCm.out w hw)) Tryd.underlying36 rfl HFLA.out) ?_; go_simp; refine hK _ ?_; clear hK K)
  (refine wpQuiet_step (fun K hK => ?_); refine St.qk_call (by rfl) 19 _ _ rfl #[.agg FA, .agg FA] (by go_simp) (fun w => by simp [go_sem]) (.bool true) (fun v hv => (SAA.out v (HCm.out v hv)).mono (fun e w' h => ⟨h.1, HCi.out _ h.2⟩)) ?_; go_simp; refine hK _ ?_; clear hK K)
  (refine wpQuiet_step (fun K hK => ?_); refine St.qk_val (x := ?_) (by rfl) (fun w hw => ?_) ?_; rotate_left; (· go_simp <;> with_reducible rfl); go_simp; refine hK _ ?_; clear hK K)
  (refine wpQuiet_step (fun K hK => ?_); refine St.qk_val (x := ?_) (by rfl) (fun w hw => ?_) ?_; rotate_left; (· go_simp <;> with_reducible rfl); go_simp; refine hK _ ?_; clear hK K)
  refine wpQuiet_nil ?_
  intro Y2 hY2
  have hb2 := HCm.out Y2 hY2
  have HBY2 := Lib.hid (Kit.step HBY1.out hb2)
  have HAY2 := Lib.hid (HAY1.out.later hb2 HAY1.out.lt)
  have HE0Y2 := Lib.hid (HE0Y1.out.later hb2)
  have HG0Y2 := Lib.hid (HG0Y1.out.later hb2 HG0Y1.out.lt)
  clear hb2 hY2 hC0 HCm HCi SXY SAA LD0 LD1 LDA heq HBY1 HAY1 HE0Y1 HG0Y1 HE1Y1 HG1Y1 HEB
  go_upto_region 10 with fail
  have hx5 := HE0Y2.out.five HLL.out
  have LR : Hid (∀ v, Calls Tryd.prog 18 #[.agg F0] v fun e w' => e = .returned (.agg F0) ∧ Below v.heap.size v w') := Lib.hid fun v => by rw [← HF0.out]; exact lrow_any xs0 hx5 v
  apply wp_region_lit
  refine wpList_load_row rfl 36 (.tmp 7) rfl g0 rfl 36 F0 (0, 0) _ (by rw [← HF0.out]; exact HG0Y2.out) Tryd.underlying36 rfl HFS0.out ?_
  (refine wpList_plain rfl (fun K hK => ?_); go_simp)
  refine (LR.out Y2).mono ?_
  rintro e Y3 ⟨rfl, hb3⟩
  refine hK _ _ ?_
  clear hK K
  have HBY3 := Lib.hid (Kit.step HBY2.out hb3)
  have HAY3 := Lib.hid (HAY2.out.later hb3 HAY2.out.lt)
  have HE0Y3 := Lib.hid (HE0Y2.out.later hb3)
  have HG0Y3 := Lib.hid (HG0Y2.out.later hb3 HG0Y2.out.lt)
  clear hb3 hx5 LR HBY2 HAY2 HE0Y2 HG0Y2
  go_wp2_with fail
  go_loopw [11, 80] (fun s i wr => Lsm9 L asl Y3 s i wr) (fun _ i _ => 5 - (intOf i).toNat)
  case atStart => exact ⟨0, by omega, rfl, rfl, Below.refl _ _⟩
  case round =>
    rename World => V1
    obtain ⟨q, hq, rfl, rfl, hb⟩ := hrel
    by_cases hlt : q < 5
    · have hd1 : decide ((q : Int) < 5) = true := decide_eq_true (by omega)
      obtain ⟨x, hx1, hx2⟩ := (HE0Y3.out.later hb).get q (by rw [HLL.out]; exact hlt)
      obtain ⟨y, hy1, hy2⟩ := (HAA.out.later (Kit.step HBY3.out hb)).get q (by rw [HAL.out]; exact hlt)
      have hIX : ∀ W, (Instr.index 39 (.agg F0) (.int .i64 (q : Int))).run Tryd.prog W = .ok x W := run_index_one _ _ 5 F0 q _ k5_under (by kernel_rfl) (fun W => by kernel_rfl) hlt (by rw [← HF0.out, List.getElem?_toArray]; exact hx1)
      have hIY : ∀ W, (Instr.index 39 (.agg FA) (.int .i64 (q : Int))).run Tryd.prog W = .ok y W := run_index_one _ _ 5 FA q _ k5_under (by kernel_rfl) (fun W => by kernel_rfl) hlt (by rw [← HFA.out, List.getElem?_toArray]; exact hy1)
      have hst := Da.take_eq_step L asl q (by rw [HLL.out]; exact hlt) (by rw [HAL.out]; exact hlt)
      obtain ⟨L0, hL0⟩ : ∃ L0, bi L q = L0 := ⟨_, rfl⟩
      obtain ⟨L1, hL1⟩ : ∃ L1, bi asl q = L1 := ⟨_, rfl⟩
      rw [hL0] at hx2 hst
      rw [hL1] at hy2 hst
      obtain ⟨e0, he0⟩ : ∃ e0, (L0 == L1) = e0 := ⟨_, rfl⟩
      obtain ⟨tk, htk⟩ : ∃ tk, (L.take q == asl.take q) = tk := ⟨_, rfl⟩
      rw [he0, htk] at hst
      rw [htk]
      obtain ⟨T1, hT1⟩ : ∃ T : ByteArray, ⟨L0.toArray⟩ = T := ⟨_, rfl⟩
      obtain ⟨T2, hT2⟩ : ∃ T : ByteArray, ⟨L1.toArray⟩ = T := ⟨_, rfl⟩
      have heT : (T1.toList == T2.toList) = e0 := by rw [← hT1, ← hT2, str_list, str_list]; exact he0
      have hA1 := HAY3.out.later hb HAY3.out.lt
      have CX : Hid (∀ v, Below V1.heap.size V1 v → (convert 22 9 x).run Tryd.prog v = .ok (.string T1) v) := Lib.hid fun v hv => by rw [← hT1]; exact conv_rv (hx2.later hv)
      have CV : Hid (∀ v, Below V1.heap.size V1 v → (convert 22 9 y).run Tryd.prog v = .ok (.string T2) v) := Lib.hid fun v hv => by rw [← hT2]; exact conv_rv (hy2.later hv)
      have LDA : Hid (∀ v, Below V1.heap.size V1 v → v.rangeAt ga 0 xsa) := Lib.hid fun v hv => (hA1.later hv hA1.lt).range 0 _ (fun j v hv => by rw [Nat.zero_add]; exact hv)
      have RWA : Hid (∀ v, Below V1.heap.size V1 v → Calls Tryd.prog 18 #[.agg FA] v fun e w' => e = .returned (.agg FA) ∧ Below V1.heap.size V1 w') := Lib.hid fun v hv => by
        have := lrow_any xsa (HAA.out.five HAL.out) v
        rw [HFA.out] at this
        exact this.mono fun e w' h => ⟨h.1, Kit.step hv h.2⟩
      obtain ⟨ox, cx, rfl, _⟩ := hx2
      obtain ⟨oy, cy, rfl, _⟩ := hy2
      have HB := Lib.hid hb
      have HST := Lib.hid hst
      clear hx1 hy1 hL0 hL1 hT1 hT2 hA1 hb hst he0 htk
      go_upto_region 13 with fail
      obtain ⟨C, hCC⟩ : ∃ C : World → Prop, (fun v => Below V1.heap.size V1 v) = C := ⟨_, rfl⟩
      have hC0 : C { V1 with drawn := V1.drawn + 1 } := by rw [← hCC]; exact Kit.dn' V1 1
      have HCm : Hid (∀ v, C v → Below V1.heap.size V1 v) := Lib.hid fun v hv => by rw [← hCC] at hv; exact hv
      have HCi : Hid (∀ v, Below V1.heap.size V1 v → C v) := Lib.hid fun v hv => by rw [← hCC]; exact hv
      clear hCC
      refine wp_region_quiet (C := C) (by kernel_rfl) (by kernel_rfl) hC0 ?_
      simp only
      cases tk with
      | true =>
        (refine wpQuiet_step (fun K hK => ?_); refine St.qk_val (x := ?_) (by rfl) (fun w hw => ?_) ?_; rotate_left; (· go_simp <;> with_reducible rfl); go_simp; refine hK _ ?_; clear hK K)
        (refine wpQuiet_step (fun K hK => ?_); refine St.qk_val (x := ?_) (by rfl) (fun w hw => ?_) ?_; rotate_left; (· go_simp <;> with_reducible rfl); go_simp; refine hK _ ?_; clear hK K)
        (refine wpQuiet_step (fun K hK => ?_); refine St.qk_val (x := ?_) (by rfl) (fun w hw => ?_) ?_; rotate_left; (· go_simp <;> with_reducible rfl); go_simp; refine hK _ ?_; clear hK K)
        (refine wpQuiet_step (fun K hK => ?_); refine St.qk_val (x := .string T1) (by rfl) (fun w hw => St.exec_conv rfl (CX.out w (HCm.out w hw))) ?_; go_simp; refine hK _ ?_; clear hK K)
        (refine wpQuiet_step (fun K hK => ?_); refine St.qk_val (x := .agg FA) (by rfl) (fun w hw => by rw [← HFA.out]; exact St.exec_load rfl rfl xsa _ (LDA.out w (HCm.out w hw)) Tryd.underlying36 rfl HFLA.out) ?_; go_simp; refine hK _ ?_; clear hK K)
        (refine wpQuiet_step (fun K hK => ?_); refine St.qk_call (by rfl) 18 _ _ rfl #[.agg FA] (by go_simp) (fun w => by simp [go_sem]) (.agg FA) (fun v hv => (RWA.out v (HCm.out v hv)).mono (fun e w' h => ⟨h.1, HCi.out _ h.2⟩)) ?_; go_simp; refine hK _ ?_; clear hK K)
        (refine wpQuiet_step (fun K hK => ?_); refine St.qk_val (x := ?_) (by rfl) (fun w hw => ?_) ?_; rotate_left; (· go_simp <;> with_reducible rfl); go_simp; refine hK _ ?_; clear hK K)
        (refine wpQuiet_step (fun K hK => ?_); refine St.qk_val (x := .slice oy L1.length cy) (by rfl) (fun w hw => by have h := hIY w; go_simp) ?_; go_simp; refine hK _ ?_; clear hK K)
        (refine wpQuiet_step (fun K hK => ?_); refine St.qk_val (x := .string T2) (by rfl) (fun w hw => St.exec_conv rfl (CV.out w (HCm.out w hw))) ?_; go_simp; refine hK _ ?_; clear hK K)
        (refine wpQuiet_step (fun K hK => ?_); refine St.qk_val (x := .bool e0) (by rfl) (fun w hw => by go_simp) ?_; go_simp; refine hK _ ?_; clear hK K)
        (refine wpQuiet_step (fun K hK => ?_); refine St.qk_val (x := ?_) (by rfl) (fun w hw => ?_) ?_; rotate_left; (· go_simp <;> with_reducible rfl); go_simp; refine hK _ ?_; clear hK K)
        (refine wpQuiet_step (fun K hK => ?_); refine St.qk_val (x := ?_) (by rfl) (fun w hw => ?_) ?_; rotate_left; (· go_simp <;> with_reducible rfl); go_simp; refine hK _ ?_; clear hK K)
        refine wpQuiet_nil ?_
        intro X8 hX8
        have HB8 := Lib.hid (Kit.step HB.out (HCm.out X8 hX8))
        have hst := HST.out
        rw [Bool.and_true] at hst
        have HST := Lib.hid hst
        clear hX8 hC0 HCm HCi CX CV LDA RWA hst heT hIX hIY
        go_wp2_with fail
        exact ⟨⟨q + 1, by omega, by go_num, by rw [HST.out], HB8.out⟩, by simp [intOf]; omega⟩
      | false =>
        (refine wpQuiet_step (fun K hK => ?_); refine St.qk_val (x := ?_) (by rfl) (fun w hw => ?_) ?_; rotate_left; (· go_simp <;> with_reducible rfl); go_simp; refine hK _ ?_; clear hK K)
        (refine wpQuiet_step (fun K hK => ?_); refine St.qk_val (x := ?_) (by rfl) (fun w hw => ?_) ?_; rotate_left; (· go_simp <;> with_reducible rfl); go_simp; refine hK _ ?_; clear hK K)
        (refine wpQuiet_step (fun K hK => ?_); refine qk_off (by rfl) ?_; go_simp; refine hK _ ?_; clear hK K)
        (refine wpQuiet_step (fun K hK => ?_); refine qk_off (by rfl) ?_; go_simp; refine hK _ ?_; clear hK K)
        (refine wpQuiet_step (fun K hK => ?_); refine qk_off (by rfl) ?_; go_simp; refine hK _ ?_; clear hK K)
        (refine wpQuiet_step (fun K hK => ?_); refine qk_off (by rfl) ?_; go_simp; refine hK _ ?_; clear hK K)
        (refine wpQuiet_step (fun K hK => ?_); refine qk_off (by rfl) ?_; go_simp; refine hK _ ?_; clear hK K)
        (refine wpQuiet_step (fun K hK => ?_); refine qk_off (by rfl) ?_; go_simp; refine hK _ ?_; clear hK K)
        (refine wpQuiet_step (fun K hK => ?_); refine qk_off (by rfl) ?_; go_simp; refine hK _ ?_; clear hK K)
        (refine wpQuiet_step (fun K hK => ?_); refine qk_off (by rfl) ?_; go_simp; refine hK _ ?_; clear hK K)
        (refine wpQuiet_step (fun K hK => ?_); refine St.qk_val (x := ?_) (by rfl) (fun w hw => ?_) ?_; rotate_left; (· go_simp <;> with_reducible rfl); go_simp; refine hK _ ?_; clear hK K)
        (refine wpQuiet_step (fun K hK => ?_); refine St.qk_val (x := ?_) (by rfl) (fun w hw => ?_) ?_; rotate_left; (· go_simp <;> with_reducible rfl); go_simp; refine hK _ ?_; clear hK K)
        refine wpQuiet_nil ?_
        intro X8 hX8
        have HB8 := Lib.hid (Kit.step HB.out (HCm.out X8 hX8))
        have hst := HST.out
        rw [Bool.and_false] at hst
        have HST := Lib.hid hst
        clear hX8 hC0 HCm HCi CX CV LDA RWA hst heT hIX hIY
        go_wp2_with fail
        exact ⟨⟨q + 1, by omega, by go_num, by rw [HST.out], HB8.out⟩, by simp [intOf]; omega⟩
    · obtain rfl : q = 5 := by omega
      have hd1 : decide (((5 : Nat) : Int) < 5) = false := by decide
      have h1 : (L.take 5 == asl.take 5) = (L == asl) := by
        rw [List.take_of_length_le (by rw [HLL.out]; omega), List.take_of_length_le (by rw [HAL.out]; omega)]
      rw [h1]
      obtain ⟨r, hr⟩ : ∃ r, (L == asl) = r := ⟨_, rfl⟩
      have SM := lsame_any xs0 xsa L asl V1 (HE0Y3.out.later hb) (HAA.out.later (Kit.step HBY3.out hb)) HLL.out HAL.out HLS.out HAS.out
      rw [hr, HF0.out, HFA.out] at SM
      rw [hr]
      have HSM := Lib.hid SM
      have HB := Lib.hid hb
      have HG0V := Lib.hid (HG0Y3.out.later hb HG0Y3.out.lt)
      have HAV := Lib.hid (HAY3.out.later hb HAY3.out.lt)
      clear hb SM hr h1
      go_upto_region 15 with fail
      apply wp_region_lit
      refine wpList_load_row rfl 36 (.tmp 7) rfl g0 rfl 36 F0 (0, 0) _ (by rw [← HF0.out]; exact HG0V.out) Tryd.underlying36 rfl HFS0.out ?_
      refine wpList_load_row rfl 36 (.tmp 5) rfl ga rfl 36 FA (0, 0) _ (by rw [← HFA.out]; exact HAV.out) Tryd.underlying36 rfl HFSA.out ?_
      (refine wpList_plain rfl (fun K hK => ?_); go_simp)
      refine HSM.out.mono ?_
      rintro e X8 ⟨rfl, hb8⟩
      refine hK _ _ ?_
      clear hK K
      have HB8 := Lib.hid (Kit.step (Kit.step HBY3.out HB.out) hb8)
      clear hb8
      go_wp2_with fail
      go_ret
      exact ⟨by cases r <;> rfl, HB8.out⟩
theorem ls_any (z : List UInt8) (o : Option Addr) (c : Nat) (n : Int) (xsa : List Value) (asl : List (List UInt8)) (A : Nat → Addr) (W : World) (hK : RowIs W o (bytesV z) c) (hA : Els W asl xsa) (hal : asl.length = 5) (hC : Cds W) (hE : Er.Errs W A) :
    Calls Tryd.prog 4 #[.slice o z.length c, .int .i64 n, .agg xsa.toArray] W fun e w' => e = .returned (.bool true) ∧ Below W.heap.size W w' := ls_of _ rfl lk_zero z o c n xsa asl A W hK hA hal hC hE
end Go.Proofs.YtemngcifeglpmaaDoor
