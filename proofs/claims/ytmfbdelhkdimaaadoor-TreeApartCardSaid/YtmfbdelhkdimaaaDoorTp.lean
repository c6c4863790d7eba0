/- SameLists of any two lists; clash; TreeApart. -/
import Derived.Test.YtmfbdelhkdimaaaDoorTh
namespace Go.Proofs.YtmfbdelhkdimaaaDoor
open Go.RowKit
set_option linter.unusedVariables false
set_option linter.unusedSimpArgs false
theorem bi_ext {a b : List (List UInt8)} (hl : a.length = b.length) (h : ∀ i, i < a.length → bi a i = bi b i) : a = b := by
  apply List.ext_getElem hl
  intro i h1 h2
  have := h i h1
  simpa [bi, h1, h2] using this
theorem str_neq (x y : List UInt8) (h : x ≠ y) : ((⟨x.toArray⟩ : ByteArray).toList == (⟨y.toArray⟩ : ByteArray).toList) = false := by
  rw [ByteArray.toList_eq, ByteArray.toList_eq]
  simpa using h
def SlqAt (a b : List (List UInt8)) (n : Nat) (w : World) (iv : Value) (wr : World) : Prop := ∃ k : Nat, k ≤ n ∧ iv = .int .i64 k ∧ (∀ i, i < k → bi a i = bi b i) ∧ Kit.Dn w wr
set_option maxRecDepth 100000 in
set_option maxHeartbeats 1000000 in
theorem same_any12 (a b : List (List UInt8)) (o o2 : Option Addr) (n c c2 : Nat) (w : World) (h1 : RbIs w o a c) (h2 : RbIs w o2 b c2) (hn : a.length = n) (hn2 : b.length = n) :
    Calls Tryd.prog 23 #[.slice o n c, .slice o2 n c2] w fun e w' => e = .returned (.bool (a == b)) ∧ Kit.Dn w w' := by
  have ha := h1.le.1
  have hb := h1.le.2
  have hc := h2.le.1
  have hd := h2.le.2
  rw [hn] at ha
  rw [hn2] at hc
  unfold maxLen at hb hd
  have H1 := Lib.hid h1
  have H2 := Lib.hid h2
  have HN := Lib.hid hn
  have HN2 := Lib.hid hn2
  obtain ⟨B, hB⟩ : ∃ B, (a == b) = B := ⟨_, rfl⟩
  have HT : Hid ((∀ i, i < n → bi a i = bi b i) → B = true) := Lib.hid fun h => by rw [← hB, bi_ext (hn.trans hn2.symm) (by rw [hn]; exact h)]; simp
  have HF : Hid (∀ i, bi a i ≠ bi b i → B = false) := Lib.hid fun i h => by
    rw [← hB]
    have : a ≠ b := fun e => h (by rw [e])
    simpa using this
  rw [hB]
  clear h1 h2 hn hn2 hB
  go_enter Tryd.func23, Tryd.ntmps23
  go_wp2_with fail
  go_loopw [5, 13] (fun _ iv wr => SlqAt a b n w iv wr) (fun _ iv _ => n - (intOf iv).toNat)
  case atStart => exact ⟨0, Nat.zero_le _, rfl, fun i hi => absurd hi (Nat.not_lt_zero _), Kit.Dn.refl _⟩
  case round =>
    obtain ⟨k, hk, rfl, hall, hdn⟩ := hrel
    have HD := Lib.hid hdn
    have HALL := Lib.hid hall
    by_cases hlt : k < n
    · obtain ⟨b1, off1, p1, q1, rfl, _, hc1, hr1⟩ := (H1.out.later hdn.below).cell k (by have := HN.out; omega)
      obtain ⟨b2, off2, p2, q2, rfl, _, hc2, hr2⟩ := (H2.out.later hdn.below).cell k (by have := HN2.out; omega)
      have k1 : ∀ nq, (convert 25 9 (.slice p1 (bi a k).length q1)).run Tryd.prog (wr.drewN nq) = .ok (.string ⟨(bi a k).toArray⟩) (wr.drewN nq) := fun nq =>
        run_string (hr1.later (Kit.dn' wr nq)) Tryd.underlying25 Tryd.underlying5 Tryd.underlying9 _
      have k2 : ∀ nq, (convert 25 9 (.slice p2 (bi b k).length q2)).run Tryd.prog (wr.drewN nq) = .ok (.string ⟨(bi b k).toArray⟩) (wr.drewN nq) := fun nq =>
        run_string (hr2.later (Kit.dn' wr nq)) Tryd.underlying25 Tryd.underlying5 Tryd.underlying9 _
      have hk0 : (0 : Int) ≤ (k : Int) := by omega
      have hk1 : (k : Int) < (n : Int) := by omega
      by_cases he : bi a k = bi b k
      · have HE := Lib.hid he
        rw [← he] at k2 hc2
        generalize (bi a k).length = L at *
        generalize (⟨(bi a k).toArray⟩ : ByteArray) = s at *
        clear hr1 hr2 hdn hall he
        go_wp2_with fail
        go_quiet (fail)
        go_wp2_with fail
        go_roundw
        case rel => exact ⟨k + 1, by omega, by go_num, fun i hi => by
          by_cases e : i = k
          · rw [e]; exact HE.out
          · exact HALL.out i (by omega), HD.out.add _⟩
        case measure => simp [intOf]; omega
      · have hs := str_neq _ _ he
        have e := HF.out k he
        subst e
        generalize (bi a k).length = L1 at *
        generalize (bi b k).length = L2 at *
        generalize (⟨(bi a k).toArray⟩ : ByteArray) = s1 at *
        generalize (⟨(bi b k).toArray⟩ : ByteArray) = s2 at *
        clear hr1 hr2 hdn hall he
        go_wp2_with fail
        go_quiet (fail)
        go_wp2_with fail
        go_ret
        exact ⟨rfl, HD.out.add _⟩
    · obtain rfl : k = n := by omega
      have e := HT.out hall
      subst e
      clear hdn hall
      go_wp2_with fail
      go_ret
      exact ⟨rfl, HD.out⟩
theorem qk_off {P : Program} {ops : Array Oper} {C : World → Prop} {K : Act → Prop} {o : Oper} {a : Act} (hg : Region.wanted o (yielded ops a.tmps) = false) (h : K (a.put o.dst undef)) :
    if Region.wanted o (yielded ops a.tmps) then o.quiet P a C K else K (a.put o.dst undef) := by
  rw [hg]
  exact h
set_option maxRecDepth 100000 in
set_option maxHeartbeats 2000000 in
theorem clash_one (x y : List UInt8) (oa ob : Option Addr) (ca cb : Nat) (W1 : World) (hxl : x.length ≤ 200) (hyl : y.length ≤ 200) (hA : RbIs W1 oa [x] ca) (hB : RbIs W1 ob [y] cb) (hV : Cds W1) :
    Calls Tryd.prog 24 #[.slice oa 1 ca, .slice ob 1 cb] W1 fun e w' => e = .returned (.bool (Da.cls [x] [y])) ∧ Below W1.heap.size W1 w' := by
    have h1 := hA.le.1
    have h2 := hA.le.2
    have h3 := hB.le.1
    have h4 := hB.le.2
    rw [show ([x] : List (List UInt8)).length = 1 from rfl] at h1
    rw [show ([y] : List (List UInt8)).length = 1 from rfl] at h3
    unfold maxLen at h2 h4
    have HV1 := Lib.hid hV
    obtain ⟨b1, off1, p1, q1, rfl, _, hc1, hr1⟩ := hA.cell 0 (by simp)
    obtain ⟨b2, off2, p2, q2, rfl, _, hc2, hr2⟩ := hB.cell 0 (by simp)
    clear hA hB hV
    rw [show bi [x] 0 = x from rfl, Nat.add_zero] at hc1
    rw [show bi [x] 0 = x from rfl] at hr1
    rw [show bi [y] 0 = y from rfl, Nat.add_zero] at hc2
    rw [show bi [y] 0 = y from rfl] at hr2
    have hl1 : b1 < W1.heap.size := World.block_lt_of_cell? W1 _ hc1
    have hl2 : b2 < W1.heap.size := World.block_lt_of_cell? W1 _ hc2
    have HL1 : Hid (∀ v, Below W1.heap.size W1 v → v.cell? ⟨b1, off1, none⟩ = some (.slice p1 x.length q1)) := Lib.hid fun v hb => by rw [hb.cell (p := ⟨b1, off1, none⟩) hl1]; exact hc1
    have HL2 : Hid (∀ v, Below W1.heap.size W1 v → v.cell? ⟨b2, off2, none⟩ = some (.slice p2 y.length q2)) := Lib.hid fun v hb => by rw [hb.cell (p := ⟨b2, off2, none⟩) hl2]; exact hc2
    have HK1 : Hid (∀ v, Below W1.heap.size W1 v → (convert 25 9 (.slice p1 x.length q1)).run Tryd.prog v = .ok (.string ⟨x.toArray⟩) v) := Lib.hid fun v hb =>
      run_string (hr1.later hb) Tryd.underlying25 Tryd.underlying5 Tryd.underlying9 _
    have HK2 : Hid (∀ v, Below W1.heap.size W1 v → (convert 25 9 (.slice p2 y.length q2)).run Tryd.prog v = .ok (.string ⟨y.toArray⟩) v) := Lib.hid fun v hb =>
      run_string (hr2.later hb) Tryd.underlying25 Tryd.underlying5 Tryd.underlying9 _
    obtain ⟨D1, hD1⟩ : ∃ D, (bytesV (Da.lf x)).toArray = D := ⟨_, rfl⟩
    obtain ⟨D2, hD2⟩ : ∃ D, (bytesV (Da.lf y)).toArray = D := ⟨_, rfl⟩
    have HE1 : Hid (∀ v, Below W1.heap.size W1 v → Calls Tryd.prog 13 #[.slice p1 x.length q1] v fun e w' => e = .returned (.agg D1) ∧ Below W1.heap.size W1 w') := Lib.hid fun v hb => by
      have := tleaf_any x p1 q1 v (hr1.later hb) (HV1.out.later hb) (by omega)
      rw [hD1] at this
      exact this.mono fun e w' h => ⟨h.1, Kit.step hb h.2⟩
    have HE2 : Hid (∀ v, Below W1.heap.size W1 v → Calls Tryd.prog 13 #[.slice p2 y.length q2] v fun e w' => e = .returned (.agg D2) ∧ Below W1.heap.size W1 w') := Lib.hid fun v hb => by
      have := tleaf_any y p2 q2 v (hr2.later hb) (HV1.out.later hb) (by omega)
      rw [hD2] at this
      exact this.mono fun e w' h => ⟨h.1, Kit.step hb h.2⟩
    have heq : ∀ W, (binOp .eql 32 (.agg D1) (.agg D2)).run Tryd.prog W = .ok (.bool (Da.lf x == Da.lf y)) W := fun W => by
      have := dgq_eql (Da.lf x) (Da.lf y) (Da.lf_length x) (Da.lf_length y) W
      rw [hD1, hD2] at this
      exact this
    have hgd := dgq_guard
    obtain ⟨C, hC⟩ : ∃ C : World → Prop, (fun v => Below W1.heap.size W1 v) = C := ⟨_, rfl⟩
    have hC0 : C { W1 with drawn := W1.drawn + 1 } := by rw [← hC]; exact Kit.dn' W1 1
    have HCm : Hid (∀ v, C v → Below W1.heap.size W1 v) := Lib.hid fun v hv => by rw [← hC] at hv; exact hv
    have HCi : Hid (∀ v, Below W1.heap.size W1 v → C v) := Lib.hid fun v hv => by rw [← hC]; exact hv
    have hcl := Da.cls_one x y
    by_cases hxy : x = y
    · have e : Da.cls [x] [y] = false := by rw [hcl, hxy]; simp
      rw [e]
      have hss : (⟨y.toArray⟩ : ByteArray) = ⟨x.toArray⟩ := by rw [hxy]
      rw [hss] at HK2
      obtain ⟨L1, hL1⟩ : ∃ L, x.length = L := ⟨_, rfl⟩
      obtain ⟨L2, hL2⟩ : ∃ L, y.length = L := ⟨_, rfl⟩
      obtain ⟨S, hS⟩ : ∃ S : ByteArray, ⟨x.toArray⟩ = S := ⟨_, rfl⟩
      rw [hL1] at HL1 HK1
      rw [hL2] at HL2 HK2
      rw [hS] at HK1 HK2
      rw [hL1] at hc1
      rw [hL2] at hc2
      have k1 : ∀ nq, (convert 25 9 (.slice p1 L1 q1)).run Tryd.prog (W1.drewN nq) = .ok (.string S) (W1.drewN nq) := fun nq => HK1.out _ (Kit.dn' W1 nq)
      have k2 : ∀ nq, (convert 25 9 (.slice p2 L2 q2)).run Tryd.prog (W1.drewN nq) = .ok (.string S) (W1.drewN nq) := fun nq => HK2.out _ (Kit.dn' W1 nq)
      clear hC hC0 HCm HCi hr1 hr2 hD1 hD2 hxl hyl hL1 hL2 hl1 hl2 hcl hxy e hss hS heq HE1 HE2
      go_enter Tryd.func24, Tryd.ntmps24
      go_wp2_with fail
      go_quiet (fail)
      go_wp2_with fail
      go_ret
      exact ⟨by simp, Kit.dn (Below.refl _ _) _⟩
    · have e : Da.cls [x] [y] = (Da.lf x == Da.lf y) := by rw [hcl]; simp [hxy]
      rw [e]
      have hss := str_neq x y hxy
      obtain ⟨E, hE⟩ : ∃ E, (Da.lf x == Da.lf y) = E := ⟨_, rfl⟩
      rw [hE] at heq ⊢
      obtain ⟨L1, hL1⟩ : ∃ L, x.length = L := ⟨_, rfl⟩
      obtain ⟨L2, hL2⟩ : ∃ L, y.length = L := ⟨_, rfl⟩
      obtain ⟨S1, hS1⟩ : ∃ S : ByteArray, ⟨x.toArray⟩ = S := ⟨_, rfl⟩
      obtain ⟨S2, hS2⟩ : ∃ S : ByteArray, ⟨y.toArray⟩ = S := ⟨_, rfl⟩
      rw [hS1, hS2] at hss
      rw [hL1] at HL1 HK1 HE1
      rw [hL2] at HL2 HK2 HE2
      rw [hS1] at HK1
      rw [hS2] at HK2
      clear hC hr1 hr2 hD1 hD2 hc1 hc2 hxl hyl hL1 hL2 hl1 hl2 hcl hxy e hS1 hS2 hE
      go_enter Tryd.func24, Tryd.ntmps24
      go_upto_region 4 with fail
      refine wp_region_quiet (C := C) (by kernel_rfl) (by kernel_rfl) hC0 ?_
      simp only
      (refine wpQuiet_step (fun K hK => ?_); refine St.qk_val (x := ?_) (by rfl) (fun w hw => ?_) ?_; rotate_left; (· go_simp <;> with_reducible rfl); go_simp; refine hK _ ?_; clear hK K)
      (refine wpQuiet_step (fun K hK => ?_); refine St.qk_val (x := ?_) (by rfl) (fun w hw => ?_) ?_; rotate_left; (· go_simp <;> with_reducible rfl); go_simp; refine hK _ ?_; clear hK K)
      (refine wpQuiet_step (fun K hK => ?_); refine St.qk_val (x := .slice p1 L1 q1) (by rfl) (fun w hw => by have hcc := HL1.out w (HCm.out w hw); go_simp) ?_; go_simp; refine hK _ ?_; clear hK K)
      (refine wpQuiet_step (fun K hK => ?_); refine St.qk_val (x := .string S1) (by rfl) (fun w hw => St.exec_conv rfl (HK1.out w (HCm.out w hw))) ?_; go_simp; refine hK _ ?_; clear hK K)
      (refine wpQuiet_step (fun K hK => ?_); refine St.qk_val (x := ?_) (by rfl) (fun w hw => ?_) ?_; rotate_left; (· go_simp <;> with_reducible rfl); go_simp; refine hK _ ?_; clear hK K)
      (refine wpQuiet_step (fun K hK => ?_); refine St.qk_val (x := ?_) (by rfl) (fun w hw => ?_) ?_; rotate_left; (· go_simp <;> with_reducible rfl); go_simp; refine hK _ ?_; clear hK K)
      (refine wpQuiet_step (fun K hK => ?_); refine St.qk_val (x := .slice p2 L2 q2) (by rfl) (fun w hw => by have hcc := HL2.out w (HCm.out w hw); go_simp) ?_; go_simp; refine hK _ ?_; clear hK K)
      (refine wpQuiet_step (fun K hK => ?_); refine St.qk_val (x := .string S2) (by rfl) (fun w hw => St.exec_conv rfl (HK2.out w (HCm.out w hw))) ?_; go_simp; refine hK _ ?_; clear hK K)
      (refine wpQuiet_step (fun K hK => ?_); refine St.qk_val (x := ?_) (by rfl) (fun w hw => ?_) ?_; rotate_left; (· go_simp <;> with_reducible rfl); go_simp; refine hK _ ?_; clear hK K)
      (refine wpQuiet_step (fun K hK => ?_); refine St.qk_val (x := ?_) (by rfl) (fun w hw => ?_) ?_; rotate_left; (· go_simp <;> with_reducible rfl); go_simp; refine hK _ ?_; clear hK K)
      (refine wpQuiet_step (fun K hK => ?_); refine St.qk_val (x := ?_) (by rfl) (fun w hw => ?_) ?_; rotate_left; (· go_simp <;> with_reducible rfl); go_simp; refine hK _ ?_; clear hK K)
      (refine wpQuiet_step (fun K hK => ?_); refine St.qk_val (x := ?_) (by rfl) (fun w hw => ?_) ?_; rotate_left; (· go_simp <;> with_reducible rfl); go_simp; refine hK _ ?_; clear hK K)
      (refine wpQuiet_step (fun K hK => ?_); refine St.qk_val (x := .slice p1 L1 q1) (by rfl) (fun w hw => by have hcc := HL1.out w (HCm.out w hw); go_simp) ?_; go_simp; refine hK _ ?_; clear hK K)
      (refine wpQuiet_step (fun K hK => ?_); refine St.qk_call (by rfl) 13 _ _ rfl #[.slice p1 L1 q1] (by go_simp) (fun w => by simp [go_sem]) (.agg D1) (fun v hv => (HE1.out v (HCm.out v hv)).mono (fun e w' h => ⟨h.1, HCi.out _ h.2⟩)) ?_; go_simp; refine hK _ ?_; clear hK K)
      (refine wpQuiet_step (fun K hK => ?_); refine St.qk_val (x := ?_) (by rfl) (fun w hw => ?_) ?_; rotate_left; (· go_simp <;> with_reducible rfl); go_simp; refine hK _ ?_; clear hK K)
      (refine wpQuiet_step (fun K hK => ?_); refine St.qk_val (x := ?_) (by rfl) (fun w hw => ?_) ?_; rotate_left; (· go_simp <;> with_reducible rfl); go_simp; refine hK _ ?_; clear hK K)
      (refine wpQuiet_step (fun K hK => ?_); refine St.qk_val (x := .slice p2 L2 q2) (by rfl) (fun w hw => by have hcc := HL2.out w (HCm.out w hw); go_simp) ?_; go_simp; refine hK _ ?_; clear hK K)
      (refine wpQuiet_step (fun K hK => ?_); refine St.qk_call (by rfl) 13 _ _ rfl #[.slice p2 L2 q2] (by go_simp) (fun w => by simp [go_sem]) (.agg D2) (fun v hv => (HE2.out v (HCm.out v hv)).mono (fun e w' h => ⟨h.1, HCi.out _ h.2⟩)) ?_; go_simp; refine hK _ ?_; clear hK K)
      (refine wpQuiet_step (fun K hK => ?_); refine St.qk_val (x := ?_) (by rfl) (fun w hw => ?_) ?_; rotate_left; (· go_simp <;> with_reducible rfl); go_simp; refine hK _ ?_; clear hK K)
      (refine wpQuiet_step (fun K hK => ?_); refine St.qk_val (x := ?_) (by rfl) (fun w hw => ?_) ?_; rotate_left; (· go_simp <;> with_reducible rfl); go_simp; refine hK _ ?_; clear hK K)
      (refine wpQuiet_step (fun K hK => ?_); refine St.qk_val (x := ?_) (by rfl) (fun w hw => ?_) ?_; rotate_left; (· go_simp <;> with_reducible rfl); go_simp; refine hK _ ?_; clear hK K)
      refine wpQuiet_nil ?_
      intro X8 hX8
      have HB8 := Lib.hid (HCm.out X8 hX8)
      clear hX8
      go_wp2_with fail
      go_ret
      exact ⟨by simp, HB8.out⟩
set_option maxRecDepth 100000 in
set_option maxHeartbeats 2000000 in
theorem clash_any : ∀ (n : Nat) (a b : List (List UInt8)) (oa ob : Option Addr) (ca cb : Nat) (w : World), a.length = n → b.length = n → (∀ x ∈ a, x.length ≤ 200) → (∀ x ∈ b, x.length ≤ 200) → n ≤ 1000 → RbIs w oa a ca → RbIs w ob b cb → Cds w →
    Calls Tryd.prog 24 #[.slice oa n ca, .slice ob n cb] w fun e w' => e = .returned (.bool (Da.cls a b)) ∧ Below w.heap.size w w' := by
  intro n
  induction n using Nat.strongRecOn with
  | ind n ih =>
  intro a b oa ob ca cb W1 hna hnb hal hbl hn hA hB hV
  have h1 := hA.le.1
  have h2 := hA.le.2
  have h3 := hB.le.1
  have h4 := hB.le.2
  rw [hna] at h1
  rw [hnb] at h3
  unfold maxLen at h2 h4
  have HA := Lib.hid hA
  have HB := Lib.hid hB
  have HV1 := Lib.hid hV
  have HNA := Lib.hid hna
  have HNB := Lib.hid hnb
  have HAL := Lib.hid hal
  have HBL := Lib.hid hbl
  have HIH := Lib.hid ih
  clear hA hB hV hna hnb hal hbl ih
  by_cases h0 : n = 0
  · subst h0
    have e := Da.cls_nil a b HNA.out
    rw [e]
    go_enter Tryd.func24, Tryd.ntmps24
    go_wp2_with fail
    go_ret
    exact ⟨rfl, Below.refl _ _⟩
  have hd0 : decide ((n : Int) = 0) = false := by simp; omega
  by_cases h1' : n = 1
  · subst h1'
    obtain ⟨x, rfl⟩ := List.length_eq_one_iff.1 HNA.out
    obtain ⟨y, rfl⟩ := List.length_eq_one_iff.1 HNB.out
    exact clash_one x y oa ob ca cb W1 (HAL.out x (by simp)) (HBL.out y (by simp)) HA.out HB.out HV1.out
  have hd1 : decide ((n : Int) = 1) = false := by simp; omega
  have RS := rsplit_any n (by omega) (by omega) W1
  obtain ⟨s1, s2, s3⟩ := Da.spl_lt (n := n) (by omega)
  have HCS : Hid ((1 :: (Da.mth (a.take (Da.spl a.length)) ++ Da.mth (a.drop (Da.spl a.length))) : List UInt8) = 1 :: (Da.mth (b.take (Da.spl a.length)) ++ Da.mth (b.drop (Da.spl a.length))) → Da.cls a b = (Da.cls (a.take (Da.spl a.length)) (b.take (Da.spl a.length)) || Da.cls (a.drop (Da.spl a.length)) (b.drop (Da.spl a.length)))) := Lib.hid fun e => Da.cls_same (by rw [HNA.out]; omega) e
  have HCE : Hid ((1 :: (Da.mth (a.take (Da.spl a.length)) ++ Da.mth (a.drop (Da.spl a.length))) : List UInt8) ≠ 1 :: (Da.mth (b.take (Da.spl a.length)) ++ Da.mth (b.drop (Da.spl a.length))) → Da.cls a b = (Da.sha (1 :: (Da.mth (a.take (Da.spl a.length)) ++ Da.mth (a.drop (Da.spl a.length)))) == Da.sha (1 :: (Da.mth (b.take (Da.spl a.length)) ++ Da.mth (b.drop (Da.spl a.length)))))) := Lib.hid fun e => Da.cls_else (by rw [HNA.out]; omega) e
  rw [HNA.out] at HCS HCE
  obtain ⟨k, hk⟩ : ∃ k, Da.spl n = k := ⟨_, rfl⟩
  rw [hk] at RS s1 s2 s3 HCS HCE
  have HRS := Lib.hid RS
  obtain ⟨b1, off1, _, _, rfl, _, _, _⟩ := HA.out.cell 0 (by rw [HNA.out]; omega)
  obtain ⟨b2, off2, _, _, rfl, _, _, _⟩ := HB.out.cell 0 (by rw [HNB.out]; omega)
  have hck : ¬ ca = k := by omega
  have hkc : k ≤ ca := by omega
  have hck2 : ¬ cb = k := by omega
  have hkc2 : k ≤ cb := by omega
  have hkn : k ≤ n := by omega
  clear RS hk
  go_enter Tryd.func24, Tryd.ntmps24
  go_wp2_with fail
  refine HRS.out.mono ?_
  rintro e w1 ⟨rfl, rfl⟩
  rename World => W1
  clear HRS
  have hdr := Kit.dn' W1 1
  have hpa := HA.out.part 0 k (by rw [HNA.out]; omega) ca (by omega) (by unfold maxLen; omega)
  rw [Nat.add_zero, List.drop_zero] at hpa
  have hqa := HA.out.part k (n - k) (by rw [HNA.out]; omega) (ca - k) (by omega) (by unfold maxLen; omega)
  rw [List.take_of_length_le (by rw [List.length_drop, HNA.out]; exact Nat.le_refl _)] at hqa
  have hpb := HB.out.part 0 k (by rw [HNB.out]; omega) cb (by omega) (by unfold maxLen; omega)
  rw [Nat.add_zero, List.drop_zero] at hpb
  have hqb := HB.out.part k (n - k) (by rw [HNB.out]; omega) (cb - k) (by omega) (by unfold maxLen; omega)
  rw [List.take_of_length_le (by rw [List.length_drop, HNB.out]; exact Nat.le_refl _)] at hqb
  obtain ⟨A1, hA1⟩ : ∃ D, (bytesV (Da.mth (a.take k))).toArray = D := ⟨_, rfl⟩
  obtain ⟨A2, hA2⟩ : ∃ D, (bytesV (Da.mth (a.drop k))).toArray = D := ⟨_, rfl⟩
  obtain ⟨B1, hB1⟩ : ∃ D, (bytesV (Da.mth (b.take k))).toArray = D := ⟨_, rfl⟩
  obtain ⟨B2, hB2⟩ : ∃ D, (bytesV (Da.mth (b.drop k))).toArray = D := ⟨_, rfl⟩
  have FA1 : Hid (∀ v, Below W1.drew.heap.size W1.drew v → Calls Tryd.prog 15 #[.slice (some ⟨b1, off1, none⟩) k ca] v fun e w' => e = .returned (.agg A1) ∧ Below W1.drew.heap.size W1.drew w' ∧ Below v.heap.size v w') := Lib.hid fun v hb => by
    have := troot_any (a.take k) _ k (ca) (by rw [List.length_take, HNA.out]; omega) v ((hpa.later hdr).later hb) ((HV1.out.later hdr).later hb) (by rw [List.length_take, HNA.out]; omega) (Da.len_of (fun x h => HAL.out x (List.mem_of_mem_take h)) _ (by omega))
    rw [hA1] at this
    exact this.mono fun e w' h => ⟨h.1, Kit.step hb h.2, h.2⟩
  have FA2 : Hid (∀ v, Below W1.drew.heap.size W1.drew v → Calls Tryd.prog 15 #[.slice (some ⟨b1, off1 + k, none⟩) (n - k) (ca - k)] v fun e w' => e = .returned (.agg A2) ∧ Below W1.drew.heap.size W1.drew w' ∧ Below v.heap.size v w') := Lib.hid fun v hb => by
    have := troot_any (a.drop k) _ (n - k) ((ca - k)) (by rw [List.length_drop, HNA.out]) v ((hqa.later hdr).later hb) ((HV1.out.later hdr).later hb) (by rw [List.length_drop, HNA.out]; omega) (Da.len_of (fun x h => HAL.out x (List.mem_of_mem_drop h)) _ (by omega))
    rw [hA2] at this
    exact this.mono fun e w' h => ⟨h.1, Kit.step hb h.2, h.2⟩
  have FB1 : Hid (∀ v, Below W1.drew.heap.size W1.drew v → Calls Tryd.prog 15 #[.slice (some ⟨b2, off2, none⟩) k cb] v fun e w' => e = .returned (.agg B1) ∧ Below W1.drew.heap.size W1.drew w' ∧ Below v.heap.size v w') := Lib.hid fun v hb => by
    have := troot_any (b.take k) _ k (cb) (by rw [List.length_take, HNB.out]; omega) v ((hpb.later hdr).later hb) ((HV1.out.later hdr).later hb) (by rw [List.length_take, HNB.out]; omega) (Da.len_of (fun x h => HBL.out x (List.mem_of_mem_take h)) _ (by omega))
    rw [hB1] at this
    exact this.mono fun e w' h => ⟨h.1, Kit.step hb h.2, h.2⟩
  have FB2 : Hid (∀ v, Below W1.drew.heap.size W1.drew v → Calls Tryd.prog 15 #[.slice (some ⟨b2, off2 + k, none⟩) (n - k) (cb - k)] v fun e w' => e = .returned (.agg B2) ∧ Below W1.drew.heap.size W1.drew w' ∧ Below v.heap.size v w') := Lib.hid fun v hb => by
    have := troot_any (b.drop k) _ (n - k) ((cb - k)) (by rw [List.length_drop, HNB.out]) v ((hqb.later hdr).later hb) ((HV1.out.later hdr).later hb) (by rw [List.length_drop, HNB.out]; omega) (Da.len_of (fun x h => HBL.out x (List.mem_of_mem_drop h)) _ (by omega))
    rw [hB2] at this
    exact this.mono fun e w' h => ⟨h.1, Kit.step hb h.2, h.2⟩
  have FIA : Hid (∀ v, Below W1.drew.heap.size W1.drew v → Calls Tryd.prog 20 #[.agg A1, .agg A2] v fun e w' => ∃ g cap, e = .returned (.slice (some ⟨g, 0, none⟩) 65 cap) ∧ Buf w' g cap (1 :: (Da.mth (a.take k) ++ Da.mth (a.drop k))) ∧ Below W1.drew.heap.size W1.drew w' ∧ Below v.heap.size v w') := Lib.hid fun v hb => by
    have := tinner_any (Da.mth (a.take k)) (Da.mth (a.drop k)) (Da.mth_length _) (Da.mth_length _) v
    rw [hA1, hA2] at this
    exact this.mono fun e w' ⟨g, cap, h1, _, h3, h4⟩ => ⟨g, cap, h1, h3, Kit.step hb h4, h4⟩
  have FIB : Hid (∀ v, Below W1.drew.heap.size W1.drew v → Calls Tryd.prog 20 #[.agg B1, .agg B2] v fun e w' => ∃ g cap, e = .returned (.slice (some ⟨g, 0, none⟩) 65 cap) ∧ Buf w' g cap (1 :: (Da.mth (b.take k) ++ Da.mth (b.drop k))) ∧ Below W1.drew.heap.size W1.drew w' ∧ Below v.heap.size v w') := Lib.hid fun v hb => by
    have := tinner_any (Da.mth (b.take k)) (Da.mth (b.drop k)) (Da.mth_length _) (Da.mth_length _) v
    rw [hB1, hB2] at this
    exact this.mono fun e w' ⟨g, cap, h1, _, h3, h4⟩ => ⟨g, cap, h1, h3, Kit.step hb h4, h4⟩
  have HPA := Lib.hid hpa
  have HQA := Lib.hid hqa
  have HPB := Lib.hid hpb
  have HQB := Lib.hid hqb
  clear hdr hpa hqa hpb hqb hA1 hA2 hB1 hB2
  go_upto_region 6 with fail
  refine wp_region_any (by kernel_rfl) ?_
  change wpAny _ _ _ _ _ _ _ (World.drew _)
  refine wpAny_take (i := 0) (v := ?va0) rfl (by kernel_rfl) (by kernel_rfl) (by kernel_rfl) (fun _ _ _ h => h) (Or.inl ⟨by rfl, ?ha0⟩) ?ra0
  case ha0 => (intro w; (go_simp <;> with_reducible rfl))
  refine wpAny_take (i := 1) (v := ?va1) rfl (by kernel_rfl) (by kernel_rfl) (by kernel_rfl) (fun _ _ _ h => h) (Or.inl ⟨by rfl, ?ha1⟩) ?ra1
  case ha1 => (intro w; (go_simp <;> with_reducible rfl))
  refine wpAny_take (i := 2) (v := ?va2) rfl (by kernel_rfl) (by kernel_rfl) (by kernel_rfl) (fun _ _ _ h => h) (Or.inl ⟨by rfl, ?ha2⟩) ?ra2
  case ha2 => (intro w; (go_simp <;> with_reducible rfl))
  refine wpAny_take (i := 4) (v := ?va3) rfl (by kernel_rfl) (by kernel_rfl) (by kernel_rfl) (fun _ _ _ h => h) (Or.inl ⟨by rfl, ?ha3⟩) ?ra3
  case ha3 => (intro w; (go_simp <;> with_reducible rfl))
  refine wpAny_take (i := 5) (v := ?va4) rfl (by kernel_rfl) (by kernel_rfl) (by kernel_rfl) (fun _ _ _ h => h) (Or.inl ⟨by rfl, ?ha4⟩) ?ra4
  case ha4 => (intro w; (go_simp <;> with_reducible rfl))
  refine wpAny_take (i := 6) (v := ?va5) rfl (by kernel_rfl) (by kernel_rfl) (by kernel_rfl) (fun _ _ _ h => h) (Or.inl ⟨by rfl, ?ha5⟩) ?ra5
  case ha5 => (intro w; (go_simp <;> with_reducible rfl))
  refine wpAny_take (i := 9) (v := ?va6) rfl (by kernel_rfl) (by kernel_rfl) (by kernel_rfl) (fun _ _ _ h => h) (Or.inl ⟨by rfl, ?ha6⟩) ?ra6
  case ha6 => (intro w; (go_simp <;> with_reducible rfl))
  refine wpAny_take (i := 10) (v := ?va7) rfl (by kernel_rfl) (by kernel_rfl) (by kernel_rfl) (fun _ _ _ h => h) (Or.inl ⟨by rfl, ?ha7⟩) ?ra7
  case ha7 => (intro w; (go_simp <;> with_reducible rfl))
  refine wpAny_take (i := 11) (v := ?va8) rfl (by kernel_rfl) (by kernel_rfl) (by kernel_rfl) (fun _ _ _ h => h) (Or.inl ⟨by rfl, ?ha8⟩) ?ra8
  case ha8 => (intro w; (go_simp <;> with_reducible rfl))
  refine wpAny_take (i := 13) (v := ?va9) rfl (by kernel_rfl) (by kernel_rfl) (by kernel_rfl) (fun _ _ _ h => h) (Or.inl ⟨by rfl, ?ha9⟩) ?ra9
  case ha9 => (intro w; (go_simp <;> with_reducible rfl))
  refine wpAny_take (i := 14) (v := ?va10) rfl (by kernel_rfl) (by kernel_rfl) (by kernel_rfl) (fun _ _ _ h => h) (Or.inl ⟨by rfl, ?ha10⟩) ?ra10
  case ha10 => (intro w; (go_simp <;> with_reducible rfl))
  refine wpAny_take (i := 15) (v := ?va11) rfl (by kernel_rfl) (by kernel_rfl) (by kernel_rfl) (fun _ _ _ h => h) (Or.inl ⟨by rfl, ?ha11⟩) ?ra11
  case ha11 => (intro w; (go_simp <;> with_reducible rfl))
  refine wpAny_ready (rs := [3]) (by kernel_rfl) (by simp) ?_
  refine AllReady.cons rfl (fun K hK => ?_) AllReady.nil
  go_simp
  refine (FA1.out W1.drew (Below.refl _ _)).mono ?_
  rintro e X1 ⟨rfl, BX1, SX1⟩
  refine hK _ _ ?_
  clear hK K FA1
  refine wpAny_ready (rs := [7]) (by kernel_rfl) (by simp) ?_
  refine AllReady.cons rfl (fun K hK => ?_) AllReady.nil
  go_simp
  refine (FA2.out X1 BX1).mono ?_
  rintro e X2 ⟨rfl, BX2, SX2⟩
  refine hK _ _ ?_
  clear hK K FA2
  refine wpAny_ready (rs := [8]) (by kernel_rfl) (by simp) ?_
  refine AllReady.cons rfl (fun K hK => ?_) AllReady.nil
  go_simp
  refine (FIA.out X2 BX2).mono ?_
  rintro e X3 ⟨gx, capgx, rfl, Bufgx, BX3, SX3⟩
  refine hK _ _ ?_
  clear hK K FIA
  refine wpAny_ready (rs := [12]) (by kernel_rfl) (by simp) ?_
  refine AllReady.cons rfl (fun K hK => ?_) AllReady.nil
  go_simp
  refine (FB1.out X3 BX3).mono ?_
  rintro e X4 ⟨rfl, BX4, SX4⟩
  refine hK _ _ ?_
  clear hK K FB1
  refine wpAny_ready (rs := [16]) (by kernel_rfl) (by simp) ?_
  refine AllReady.cons rfl (fun K hK => ?_) AllReady.nil
  go_simp
  refine (FB2.out X4 BX4).mono ?_
  rintro e X5 ⟨rfl, BX5, SX5⟩
  refine hK _ _ ?_
  clear hK K FB2
  refine wpAny_ready (rs := [17]) (by kernel_rfl) (by simp) ?_
  refine AllReady.cons rfl (fun K hK => ?_) AllReady.nil
  go_simp
  refine (FIB.out X5 BX5).mono ?_
  rintro e X6 ⟨gy, capgy, rfl, Bufgy, BX6, SX6⟩
  refine hK _ _ ?_
  clear hK K FIB
  refine wpAny_ready (rs := [18]) (by kernel_rfl) (by simp) ?_
  refine AllReady.cons rfl (fun K hK => ?_) AllReady.nil
  go_simp
  refine hK _ _ ?_
  clear hK K
  refine wpAny_ready (rs := [19]) (by kernel_rfl) (by simp) ?_
  refine AllReady.cons rfl (fun K hK => ?_) AllReady.nil
  go_simp
  refine hK _ _ ?_
  clear hK K
  refine wpAny_done (by kernel_rfl) ?_ _
  have hbx := Bufgx.later (Kit.step (Kit.step SX4 SX5) SX6)
  have hlx : (1 :: (Da.mth (a.take k) ++ Da.mth (a.drop k)) : List UInt8).length = 65 := by simp [Da.mth_length]
  have hly : (1 :: (Da.mth (b.take k) ++ Da.mth (b.drop k)) : List UInt8).length = 65 := by simp [Da.mth_length]
  obtain ⟨xa, hxa⟩ : ∃ x : List UInt8, 1 :: (Da.mth (a.take k) ++ Da.mth (a.drop k)) = x := ⟨_, rfl⟩
  obtain ⟨ya, hya⟩ : ∃ x : List UInt8, 1 :: (Da.mth (b.take k) ++ Da.mth (b.drop k)) = x := ⟨_, rfl⟩
  rw [hxa] at hbx hlx HCS HCE
  rw [hya] at Bufgy hly HCS HCE
  have kx := run_string hbx.row Tryd.underlying25 Tryd.underlying5 Tryd.underlying9 capgx
  have ky := run_string Bufgy.row Tryd.underlying25 Tryd.underlying5 Tryd.underlying9 capgy
  rw [hlx] at kx
  rw [hly] at ky
  have hB6 : Below W1.heap.size W1 X6 := Kit.step (Kit.dn' W1 1) BX6
  have HB6 := Lib.hid hB6
  have HBX := Lib.hid hbx
  have HBY := Lib.hid Bufgy
  have HLX := Lib.hid hlx
  have HLY := Lib.hid hly
  clear hxa hya BX6 SX6 SX5 SX4 SX3 SX2 SX1 BX5 BX4 BX3 BX2 BX1 Bufgx Bufgy hbx hlx hly hB6
  by_cases hxy : xa = ya
  · have hcs := HCS.out hxy
    have hss : (⟨ya.toArray⟩ : ByteArray) = ⟨xa.toArray⟩ := by rw [hxy]
    rw [hss] at ky
    obtain ⟨S, hS⟩ : ∃ S : ByteArray, ⟨xa.toArray⟩ = S := ⟨_, rfl⟩
    rw [hS] at kx ky
    have hdr := Kit.step HB6.out (Kit.dn' X6 1)
    have C1 := HIH.out k s2 (a.take k) (b.take k) _ _ ca cb X6.drew (by rw [List.length_take, HNA.out]; omega) (by rw [List.length_take, HNB.out]; omega) (fun x h => HAL.out x (List.mem_of_mem_take h)) (fun x h => HBL.out x (List.mem_of_mem_take h)) (by omega) (HPA.out.later hdr) (HPB.out.later hdr) (HV1.out.later hdr)
    have C2 := Lib.hid (fun (v : World) (hb : Below X6.drew.heap.size X6.drew v) => HIH.out (n - k) (by omega) (a.drop k) (b.drop k) _ _ (ca - k) (cb - k) v (by rw [List.length_drop, HNA.out]) (by rw [List.length_drop, HNB.out]) (fun x h => HAL.out x (List.mem_of_mem_drop h)) (fun x h => HBL.out x (List.mem_of_mem_drop h)) (by omega) ((HQA.out.later hdr).later hb) ((HQB.out.later hdr).later hb) ((HV1.out.later hdr).later hb))
    obtain ⟨R1, hR1⟩ : ∃ r, Da.cls (a.take k) (b.take k) = r := ⟨_, rfl⟩
    obtain ⟨R2, hR2⟩ : ∃ r, Da.cls (a.drop k) (b.drop k) = r := ⟨_, rfl⟩
    rw [hR1] at C1 hcs
    rw [hR2] at C2 hcs
    have HRES := Lib.hid hcs
    have HC1 := Lib.hid C1
    have HDR := Lib.hid hdr
    clear hcs hss hS hxy C1 hR1 hR2 hdr HIH HCS HCE HPA HPB HQA HQB
    go_upto_region 9 with fail
    refine wp_region_any (by kernel_rfl) ?_
    change wpAny _ _ _ _ _ _ _ (World.drew _)
    refine wpAny_take (i := 0) (v := ?va40) rfl (by kernel_rfl) (by kernel_rfl) (by kernel_rfl) (fun _ _ _ h => h) (Or.inl ⟨by rfl, ?ha40⟩) ?ra40
    case ha40 => (intro w; (go_simp <;> with_reducible rfl))
    refine wpAny_take (i := 1) (v := ?va41) rfl (by kernel_rfl) (by kernel_rfl) (by kernel_rfl) (fun _ _ _ h => h) (Or.inl ⟨by rfl, ?ha41⟩) ?ra41
    case ha41 => (intro w; (go_simp <;> with_reducible rfl))
    refine wpAny_take (i := 2) (v := ?va42) rfl (by kernel_rfl) (by kernel_rfl) (by kernel_rfl) (fun _ _ _ h => h) (Or.inl ⟨by rfl, ?ha42⟩) ?ra42
    case ha42 => (intro w; (go_simp <;> with_reducible rfl))
    refine wpAny_take (i := 3) (v := ?va43) rfl (by kernel_rfl) (by kernel_rfl) (by kernel_rfl) (fun _ _ _ h => h) (Or.inl ⟨by rfl, ?ha43⟩) ?ra43
    case ha43 => (intro w; (go_simp <;> with_reducible rfl))
    refine wpAny_take (i := 4) (v := ?va44) rfl (by kernel_rfl) (by kernel_rfl) (by kernel_rfl) (fun _ _ _ h => h) (Or.inl ⟨by rfl, ?ha44⟩) ?ra44
    case ha44 => (intro w; (go_simp <;> with_reducible rfl))
    refine wpAny_take (i := 5) (v := ?va45) rfl (by kernel_rfl) (by kernel_rfl) (by kernel_rfl) (fun _ _ _ h => h) (Or.inl ⟨by rfl, ?ha45⟩) ?ra45
    case ha45 => (intro w; (go_simp <;> with_reducible rfl))
    refine wpAny_ready (rs := [6]) (by kernel_rfl) (by simp) ?_
    refine AllReady.cons rfl (fun K hK => ?_) AllReady.nil
    go_simp
    refine HC1.out.mono ?_
    rintro e Y1 ⟨rfl, hy1⟩
    refine hK _ _ ?_
    clear hK K HC1
    have HY1 := Lib.hid (Kit.step HDR.out hy1)
    have HC2 := Lib.hid (C2.out Y1 hy1)
    clear hy1 C2
    cases R1 with
    | true =>
      refine wpAny_take (i := 7) (v := .bool true) rfl (by kernel_rfl) (by kernel_rfl) (by kernel_rfl) (fun _ _ _ h => h) (Or.inl ⟨by rfl, ?ha50⟩) ?ra50
      case ha50 => (intro w; (go_simp <;> with_reducible rfl))
      refine wpAny_take (i := 8) (v := undef) rfl (by kernel_rfl) (by kernel_rfl) (by kernel_rfl) (fun _ _ _ h => h) (Or.inr ⟨by kernel_rfl, rfl⟩) ?_
      refine wpAny_take (i := 9) (v := undef) rfl (by kernel_rfl) (by kernel_rfl) (by kernel_rfl) (fun _ _ _ h => h) (Or.inr ⟨by kernel_rfl, rfl⟩) ?_
      refine wpAny_take (i := 10) (v := undef) rfl (by kernel_rfl) (by kernel_rfl) (by kernel_rfl) (fun _ _ _ h => h) (Or.inr ⟨by kernel_rfl, rfl⟩) ?_
      refine wpAny_take (i := 11) (v := undef) rfl (by kernel_rfl) (by kernel_rfl) (by kernel_rfl) (fun _ _ _ h => h) (Or.inr ⟨by kernel_rfl, rfl⟩) ?_
      refine wpAny_take (i := 12) (v := undef) rfl (by kernel_rfl) (by kernel_rfl) (by kernel_rfl) (fun _ _ _ h => h) (Or.inr ⟨by kernel_rfl, rfl⟩) ?_
      refine wpAny_take (i := 13) (v := undef) rfl (by kernel_rfl) (by kernel_rfl) (by kernel_rfl) (fun _ _ _ h => h) (Or.inr ⟨by kernel_rfl, rfl⟩) ?_
      refine wpAny_take (i := 14) (v := undef) rfl (by kernel_rfl) (by kernel_rfl) (by kernel_rfl) (fun _ _ _ h => h) (Or.inr ⟨by kernel_rfl, rfl⟩) ?_
      refine wpAny_take (i := 15) (v := .bool true) rfl (by kernel_rfl) (by kernel_rfl) (by kernel_rfl) (fun _ _ _ h => h) (Or.inl ⟨by rfl, ?ha51⟩) ?ra51
      case ha51 => (intro w; (go_simp <;> with_reducible rfl))
      refine wpAny_ready (rs := [16]) (by kernel_rfl) (by simp) ?_
      refine AllReady.cons rfl (fun K hK => ?_) AllReady.nil
      go_simp
      refine hK _ _ ?_
      clear hK K
      refine wpAny_done (by kernel_rfl) ?_ _
      go_wp2_with fail
      go_ret
      exact ⟨by rw [HRES.out]; simp, HY1.out⟩
    | false =>
      refine wpAny_take (i := 7) (v := .bool false) rfl (by kernel_rfl) (by kernel_rfl) (by kernel_rfl) (fun _ _ _ h => h) (Or.inl ⟨by rfl, ?ha52⟩) ?ra52
      case ha52 => (intro w; (go_simp <;> with_reducible rfl))
      refine wpAny_take (i := 8) (v := ?va60) rfl (by kernel_rfl) (by kernel_rfl) (by kernel_rfl) (fun _ _ _ h => h) (Or.inl ⟨by rfl, ?ha60⟩) ?ra60
      case ha60 => (intro w; (go_simp <;> with_reducible rfl))
      refine wpAny_take (i := 9) (v := ?va61) rfl (by kernel_rfl) (by kernel_rfl) (by kernel_rfl) (fun _ _ _ h => h) (Or.inl ⟨by rfl, ?ha61⟩) ?ra61
      case ha61 => (intro w; (go_simp <;> with_reducible rfl))
      refine wpAny_take (i := 10) (v := ?va62) rfl (by kernel_rfl) (by kernel_rfl) (by kernel_rfl) (fun _ _ _ h => h) (Or.inl ⟨by rfl, ?ha62⟩) ?ra62
      case ha62 => (intro w; (go_simp <;> with_reducible rfl))
      refine wpAny_take (i := 11) (v := ?va63) rfl (by kernel_rfl) (by kernel_rfl) (by kernel_rfl) (fun _ _ _ h => h) (Or.inl ⟨by rfl, ?ha63⟩) ?ra63
      case ha63 => (intro w; (go_simp <;> with_reducible rfl))
      refine wpAny_take (i := 12) (v := ?va64) rfl (by kernel_rfl) (by kernel_rfl) (by kernel_rfl) (fun _ _ _ h => h) (Or.inl ⟨by rfl, ?ha64⟩) ?ra64
      case ha64 => (intro w; (go_simp <;> with_reducible rfl))
      refine wpAny_take (i := 13) (v := ?va65) rfl (by kernel_rfl) (by kernel_rfl) (by kernel_rfl) (fun _ _ _ h => h) (Or.inl ⟨by rfl, ?ha65⟩) ?ra65
      case ha65 => (intro w; (go_simp <;> with_reducible rfl))
      refine wpAny_ready (rs := [14]) (by kernel_rfl) (by simp) ?_
      refine AllReady.cons rfl (fun K hK => ?_) AllReady.nil
      go_simp
      refine HC2.out.mono ?_
      rintro e Y2 ⟨rfl, hy2⟩
      refine hK _ _ ?_
      clear hK K HC2
      have HY2 := Lib.hid (Kit.step HY1.out hy2)
      clear hy2
      refine wpAny_take (i := 15) (v := .bool R2) rfl (by kernel_rfl) (by kernel_rfl) (by kernel_rfl) (fun _ _ _ h => h) (Or.inl ⟨by rfl, ?ha70⟩) ?ra70
      case ha70 => (intro w; (go_simp <;> with_reducible rfl))
      refine wpAny_ready (rs := [16]) (by kernel_rfl) (by simp) ?_
      refine AllReady.cons rfl (fun K hK => ?_) AllReady.nil
      go_simp
      refine hK _ _ ?_
      clear hK K
      refine wpAny_done (by kernel_rfl) ?_ _
      go_wp2_with fail
      go_ret
      exact ⟨by rw [HRES.out]; simp, HY2.out⟩
  · have hce := HCE.out hxy
    have hss := str_neq xa ya hxy
    obtain ⟨D1, hD1⟩ : ∃ D, (bytesV (Da.sha xa)).toArray = D := ⟨_, rfl⟩
    obtain ⟨D2, hD2⟩ : ∃ D, (bytesV (Da.sha ya)).toArray = D := ⟨_, rfl⟩
    have heq : ∀ W, (binOp .eql 32 (.agg D1) (.agg D2)).run Tryd.prog W = .ok (.bool (Da.sha xa == Da.sha ya)) W := fun W => by
      have := dgq_eql (Da.sha xa) (Da.sha ya) (Da.sha_length xa) (Da.sha_length ya) W
      rw [hD1, hD2] at this
      exact this
    have hgd := dgq_guard
    obtain ⟨E, hE⟩ : ∃ E, (Da.sha xa == Da.sha ya) = E := ⟨_, rfl⟩
    rw [hE] at heq hce
    have HRES := Lib.hid hce
    have hp := one_part HBX.out.row
    rw [HLX.out] at hp
    obtain ⟨X7, hX7⟩ : ∃ W, X6.alloc (.cells #[.slice (some ⟨gx, 0, none⟩) 65 capgx] 25) = W := ⟨_, rfl⟩
    have hb7 : Below X6.heap.size X6 X7 := by rw [← hX7]; exact new12 _ _
    rw [hX7] at hp
    have SO := sof_any [xa] _ 1 X7 hp (HV1.out.later (Kit.step HB6.out hb7)) (by simp [HLX.out]) (by simp)
    rw [show ([xa] : List (List UInt8)).flatten = xa by simp, hD1] at SO
    have HSO := Lib.hid SO
    have HX7 := Lib.hid hX7
    have HB7 := Lib.hid hb7
    have HD2 := Lib.hid hD2
    obtain ⟨S1, hS1⟩ : ∃ S : ByteArray, ⟨xa.toArray⟩ = S := ⟨_, rfl⟩
    obtain ⟨S2, hS2⟩ : ∃ S : ByteArray, ⟨ya.toArray⟩ = S := ⟨_, rfl⟩
    rw [hS1] at kx hss
    rw [hS2] at ky hss
    clear hce hxy hD1 hD2 hE hp SO hX7 hb7 hS1 hS2 HIH HCS HCE HPA HPB HQA HQB
    go_upto_region 8 with fail
    apply wp_region_lit
    (refine wpList_plain rfl (fun K hK => ?_); go_simp; refine hK _ _ ?_; clear hK K)
    (refine wpList_plain rfl (fun K hK => ?_); go_simp; refine hK _ _ ?_; clear hK K)
    rw [HX7.out]
    (refine wpList_plain rfl (fun K hK => ?_); go_simp)
    refine HSO.out.mono ?_
    rintro e X8 ⟨rfl, hb8⟩
    refine hK _ _ ?_
    clear hK K HSO
    have hb68 := Kit.step HB7.out hb8
    have hp := one_part (HBY.out.later hb68).row
    rw [HLY.out] at hp
    obtain ⟨X9, hX9⟩ : ∃ W, X8.alloc (.cells #[.slice (some ⟨gy, 0, none⟩) 65 capgy] 25) = W := ⟨_, rfl⟩
    have hb9 : Below X8.heap.size X8 X9 := by rw [← hX9]; exact new12 _ _
    rw [hX9] at hp
    have hb19 := Kit.step (Kit.step HB6.out hb68) hb9
    have SO := sof_any [ya] _ 1 X9 hp (HV1.out.later hb19) (by simp [HLY.out]) (by simp)
    rw [show ([ya] : List (List UInt8)).flatten = ya by simp, HD2.out] at SO
    have HSO := Lib.hid SO
    have HX9 := Lib.hid hX9
    have HB9 := Lib.hid hb19
    clear hp SO hX9 hb9 hb19 hb68 hb8
    (refine wpList_plain rfl (fun K hK => ?_); go_simp; refine hK _ _ ?_; clear hK K)
    (refine wpList_plain rfl (fun K hK => ?_); go_simp; refine hK _ _ ?_; clear hK K)
    rw [HX9.out]
    (refine wpList_plain rfl (fun K hK => ?_); go_simp)
    refine HSO.out.mono ?_
    rintro e Y0 ⟨rfl, hb0⟩
    refine hK _ _ ?_
    clear hK K HSO
    have HB0 := Lib.hid (Kit.step HB9.out hb0)
    clear hb0
    go_wp2_with fail
    go_ret
    exact ⟨by rw [HRES.out]; simp, HB0.out⟩
end Go.Proofs.YtmfbdelhkdimaaaDoor
