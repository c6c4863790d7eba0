/- TreeApart. -/
import Derived.Test.YtmfbdelhkdimaaaDoorTp
namespace Go.Proofs.YtmfbdelhkdimaaaDoor
open Go.RowKit
set_option linter.unusedVariables false
set_option linter.unusedSimpArgs false
set_option maxRecDepth 100000 in
set_option maxHeartbeats 2000000 in
theorem ta12_any (a b : List (List UInt8)) (oa ob : Option Addr) (ca cb : Nat) (w : World) (hA : RbIs w oa a ca) (hB : RbIs w ob b cb) (hV : Cds w) :
    Calls Tryd.prog 5 #[.slice oa a.length ca, .slice ob b.length cb] w fun e w' => e = .returned (.bool true) ∧ Below w.heap.size w w' := by
  have AL := Lib.hid (alive12_any w)
  have h1 := hA.le.1
  have h2 := hA.le.2
  have h3 := hB.le.1
  have h4 := hB.le.2
  unfold maxLen at h2 h4
  have HA := Lib.hid hA
  have HB := Lib.hid hB
  have HV := Lib.hid hV
  obtain ⟨n, hna⟩ : ∃ n, a.length = n := ⟨_, rfl⟩
  obtain ⟨m, hnb⟩ : ∃ m, b.length = m := ⟨_, rfl⟩
  have HNA := Lib.hid hna
  have HNB := Lib.hid hnb
  rw [hna] at h1 ⊢
  rw [hnb] at h3 ⊢
  clear hA hB hV hna hnb
  go_enter Tryd.func5, Tryd.ntmps5
  go_wp2_with fail
  refine AL.out.mono ?_
  rintro e W1 ⟨rfl, hb1⟩
  have HB1 := Lib.hid hb1
  have HA1 := Lib.hid (HA.out.later hb1)
  have HBB1 := Lib.hid (HB.out.later hb1)
  have HV1 := Lib.hid (HV.out.later hb1)
  have LA := Lib.hid (long_any a oa n ca HNA.out 40 (by omega) W1 HA1.out)
  have LB := Lib.hid (long_any b ob m cb HNB.out 40 (by omega) W1 HBB1.out)
  clear hb1 AL
  cases hla : Da.lng a 40 with
  | true =>
    rw [hla] at LA
    clear hla LB
    go_wp2_with fail
    refine LA.out.mono ?_
    rintro e w1 ⟨rfl, rfl⟩
    go_wp2_with fail
    go_ret
    exact ⟨rfl, HB1.out⟩
  | false =>
  rw [hla] at LA
  obtain ⟨hn40, hall⟩ := Da.lng_not hla
  rw [HNA.out] at hn40
  have HAL := Lib.hid hall
  clear hla hall
  cases hlb : Da.lng b 40 with
  | true =>
    rw [hlb] at LB
    clear hlb
    go_wp2_with fail
    refine LA.out.mono ?_
    rintro e w1 ⟨rfl, rfl⟩
    clear LA
    go_wp2_with fail
    refine LB.out.mono ?_
    rintro e w1 ⟨rfl, rfl⟩
    clear LB
    go_wp2_with fail
    go_ret
    exact ⟨rfl, HB1.out⟩
  | false =>
  rw [hlb] at LB
  obtain ⟨hm40, hbll⟩ := Da.lng_not hlb
  rw [HNB.out] at hm40
  have HBL := Lib.hid hbll
  clear hlb hbll
  by_cases hnm : n = m
  case neg =>
    have hd : decide ((n : Int) = (m : Int)) = false := by simp; omega
    go_wp2_with fail
    refine LA.out.mono ?_
    rintro e w1 ⟨rfl, rfl⟩
    clear LA
    go_wp2_with fail
    refine LB.out.mono ?_
    rintro e w1 ⟨rfl, rfl⟩
    clear LB
    go_wp2_with fail
    go_ret
    exact ⟨rfl, HB1.out⟩
  subst hnm
  have SL := same_any12 a b oa ob n ca cb W1 HA1.out HBB1.out HNA.out HNB.out
  obtain ⟨D1, hD1⟩ : ∃ D, (bytesV (Da.mth a)).toArray = D := ⟨_, rfl⟩
  obtain ⟨D2, hD2⟩ : ∃ D, (bytesV (Da.mth b)).toArray = D := ⟨_, rfl⟩
  have RA : Hid (∀ v, Below W1.heap.size W1 v → Calls Tryd.prog 15 #[.slice oa n ca] v fun e w' => e = .returned (.agg D1) ∧ Below W1.heap.size W1 w') := Lib.hid fun v hb => by
    have := troot_any a oa n ca HNA.out v (HA1.out.later hb) (HV1.out.later hb) (by rw [HNA.out]; omega) (Da.len_of HAL.out _ (by omega))
    rw [hD1] at this
    exact this.mono fun e w' h => ⟨h.1, Kit.step hb h.2⟩
  have RB : Hid (∀ v, Below W1.heap.size W1 v → Calls Tryd.prog 15 #[.slice ob n cb] v fun e w' => e = .returned (.agg D2) ∧ Below W1.heap.size W1 w') := Lib.hid fun v hb => by
    have := troot_any b ob n cb HNB.out v (HBB1.out.later hb) (HV1.out.later hb) (by rw [HNB.out]; omega) (Da.len_of HBL.out _ (by omega))
    rw [hD2] at this
    exact this.mono fun e w' h => ⟨h.1, Kit.step hb h.2⟩
  have heq : ∀ W, (binOp .eql 32 (.agg D1) (.agg D2)).run Tryd.prog W = .ok (.bool (Da.mth a == Da.mth b)) W := fun W => by
    have := dgq_eql (Da.mth a) (Da.mth b) (Da.mth_length a) (Da.mth_length b) W
    rw [hD1, hD2] at this
    exact this
  have hgd := dgq_guard
  have CL : Hid (∀ v, Below W1.heap.size W1 v → Calls Tryd.prog 24 #[.slice oa n ca, .slice ob n cb] v fun e w' => e = .returned (.bool (Da.cls a b)) ∧ Below W1.heap.size W1 w') := Lib.hid fun v hb =>
    (clash_any n a b oa ob ca cb v HNA.out HNB.out HAL.out HBL.out (by omega) (HA1.out.later hb) (HBB1.out.later hb) (HV1.out.later hb)).mono fun e w' h => ⟨h.1, Kit.step hb h.2⟩
  have hcl := Da.cls_true n a b HNA.out HNB.out
  obtain ⟨B, hB⟩ : ∃ B, (a == b) = B := ⟨_, rfl⟩
  obtain ⟨E, hE⟩ : ∃ E, (Da.mth a == Da.mth b) = E := ⟨_, rfl⟩
  have hcase : (B = true ∧ E = true) ∨ (B = false ∧ E = false) ∨ (B = false ∧ E = true ∧ Da.cls a b = true) := by
    by_cases hab : a = b
    · left
      rw [← hB, ← hE, hab]
      simp
    · by_cases hm : Da.mth a = Da.mth b
      · right; right
        rw [← hB, ← hE]
        exact ⟨by simpa using hab, by simpa using hm, hcl hab hm⟩
      · right; left
        rw [← hB, ← hE]
        exact ⟨by simpa using hab, by simpa using hm⟩
  rw [hE] at heq
  rw [hB] at SL
  have HSL := Lib.hid SL
  clear SL hcl hB hE hD1 hD2
  go_wp2_with fail
  refine LA.out.mono ?_
  rintro e w1 ⟨rfl, rfl⟩
  clear LA
  go_wp2_with fail
  refine LB.out.mono ?_
  rintro e w1 ⟨rfl, rfl⟩
  rename World => W1
  clear LB
  go_wp2_with fail
  refine HSL.out.mono ?_
  rintro e W2 ⟨rfl, hdn⟩
  have HD2 := Lib.hid hdn.below
  clear hdn HSL
  go_wp2_with fail
  refine (RA.out W2 HD2.out).mono ?_
  rintro e W3 ⟨rfl, hb3⟩
  have HB3 := Lib.hid hb3
  clear hb3 RA
  go_wp2_with fail
  refine (RB.out W3 HB3.out).mono ?_
  rintro e W4 ⟨rfl, hb4⟩
  have HB4 := Lib.hid hb4
  have HB14 := Lib.hid (Kit.step HB1.out hb4)
  clear hb4 RB
  rcases hcase with ⟨rfl, rfl⟩ | ⟨rfl, rfl⟩ | ⟨rfl, rfl, hcls⟩
  · go_wp2_with fail
    go_ret
    exact ⟨rfl, HB14.out⟩
  · go_wp2_with fail
    go_ret
    exact ⟨rfl, HB14.out⟩
  · rw [hcls] at CL
    have HCL := Lib.hid (CL.out W4 HB4.out)
    clear CL hcls
    go_wp2_with fail
    refine HCL.out.mono ?_
    rintro e W5 ⟨rfl, hb5⟩
    have HB5 := Lib.hid (Kit.step HB1.out hb5)
    clear hb5
    go_wp2_with fail
    go_ret
    exact ⟨rfl, HB5.out⟩
end Go.Proofs.YtmfbdelhkdimaaaDoor
