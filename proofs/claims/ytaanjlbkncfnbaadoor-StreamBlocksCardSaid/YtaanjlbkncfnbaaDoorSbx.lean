/- StreamBlocks. -/
import Derived.Test.YtaanjlbkncfnbaaDoorRs
import Derived.Test.YtaanjlbkncfnbaaDoorSc
namespace Go.Proofs.YtaanjlbkncfnbaaDoor
open Go.RowKit
set_option linter.unusedVariables false
set_option linter.unusedSimpArgs false
theorem kres_zero {b : Nat} (h : b = 0) (x : List UInt8) : Da.kres b x = x := by subst h; rfl
set_option maxRecDepth 100000 in
set_option maxHeartbeats 4000000 in
theorem sbx_any (k : List UInt8) (o : Option Addr) (c : Nat) (n : Int) (b : List UInt8) (ob : Option Addr) (cb : Nat) (A : Nat → Addr) (w : World) (hK : RowIs w o (bytesV k) c) (hB : RowIs w ob (bytesV b) cb) (hV : Cds w) (hD : Rds w) (hE : Er.Errs w A) (hn1 : -9223372036854775808 ≤ n) (hn2 : n ≤ 9223372036854775807) :
    Calls Tryd.prog 3 #[.slice o k.length c, .int .i64 n, .slice ob b.length cb] w fun e w' => e = .returned (.bool true) ∧ Below w.heap.size w w' := by
  have hk1 := hK.le
  have hk2 := hK.cap
  have hb1 := hB.le
  have hb2 := hB.cap
  simp only [bytesV_length] at hk1 hb1
  unfold maxLen at hk2 hb2
  have HK := Lib.hid hK
  have HB := Lib.hid hB
  have HV := Lib.hid hV
  have HD := Lib.hid hD
  have HE := Lib.hid hE
  have AL := Lib.hid (alive10_any w hV)
  obtain ⟨N, hN⟩ : ∃ N, b.length = N := ⟨_, rfl⟩
  have HN := Lib.hid hN
  rw [hN] at hb1 ⊢
  obtain ⟨Lk, hLk⟩ : ∃ Lk, k.length = Lk := ⟨_, rfl⟩
  have HLK := Lib.hid hLk
  rw [hLk] at hk1 ⊢
  have hrle := Da.rb_le n
  have hmle := Da.mb_le b n
  obtain ⟨r, hr⟩ : ∃ r, Da.rb n = r := ⟨_, rfl⟩
  obtain ⟨m, hm⟩ : ∃ m, Da.mb b n = m := ⟨_, rfl⟩
  have HRB := Lib.hid hr
  have HMB := Lib.hid hm
  rw [hr] at hrle
  rw [hm] at hmle
  have HNR : Hid (∀ v, Er.Errs v A → Calls Tryd.prog 13 #[errV A r] v fun e w' => e = .returned (.int .i64 (r : Int)) ∧ Below v.heap.size v w') := Lib.hid (fun v hv => Er.num_any A r (by omega) v hv)
  have HNM : Hid (∀ v, Er.Errs v A → Calls Tryd.prog 13 #[errV A m] v fun e w' => e = .returned (.int .i64 (m : Int)) ∧ Below v.heap.size v w') := Lib.hid (fun v hv => Er.num_any A m (by omega) v hv)
  clear hK hB hV hD hE hN hLk hr hm
  go_enter Tryd.func3, Tryd.ntmps3
  go_wp2_with fail
  refine AL.out.mono ?_
  rintro e W1 ⟨rfl, hb1⟩
  have HB1 := Lib.hid hb1
  clear hb1 AL
  by_cases hz1 : 200 < Lk
  · have hd : decide ((Lk : Int) > 200) = true := by simp; omega
    go_wp2_with fail
    go_ret
    exact ⟨rfl, HB1.out⟩
  have hd : decide ((Lk : Int) > 200) = false := by simp; omega
  by_cases hz2 : 40 < N
  · have hd2 : decide ((N : Int) > 40) = true := by simp; omega
    go_wp2_with fail
    go_ret
    exact ⟨rfl, HB1.out⟩
  have hd2 : decide ((N : Int) > 40) = false := by simp; omega
  have BY := bytes_any b ob cb W1 (HB.out.later HB1.out) (by rw [HN.out]; omega)
  rw [HN.out] at BY
  have HBY := Lib.hid BY
  clear BY
  go_wp2_with fail
  refine HBY.out.mono ?_
  rintro e W2 ⟨B, rfl, hb2, hB2, hM2⟩
  rw [HN.out]
  have HB2 := Lib.hid (Kit.step HB1.out hb2)
  have HM2 := Lib.hid hM2
  clear hb2 hB2 hM2 HBY
  have CB := cblk_any k o c n A W2 (HK.out.later HB2.out) (HV.out.later HB2.out) (HE.out.later HB2.out).ten (by rw [HLK.out]; omega)
  rw [HLK.out, HRB.out] at CB
  have HCB := Lib.hid CB
  clear CB
  go_wp2_with fail
  refine HCB.out.mono ?_
  rintro e W3 ⟨x3, rfl, hx3, hb3⟩
  have HX3 := Lib.hid hx3
  have HB23 := Lib.hid hb3
  have HB3 := Lib.hid (Kit.step HB2.out hb3)
  clear hx3 hb3 HCB
  have CN := cnum_any k o c n A W3 (HK.out.later HB3.out) (HV.out.later HB3.out) (HE.out.later HB3.out).ten (by rw [HLK.out]; omega)
  rw [HLK.out, HRB.out] at CN
  obtain ⟨s, hs⟩ : ∃ s, Da.snr k n = s := ⟨_, rfl⟩
  have HS := Lib.hid hs
  rw [hs] at CN
  have HCN := Lib.hid CN
  clear CN hs
  go_wp2_with fail
  refine HCN.out.mono ?_
  rintro e W4 ⟨rfl, hb4⟩
  have HB34 := Lib.hid hb4
  have HB24 := Lib.hid (Kit.step HB23.out hb4)
  have HB4 := Lib.hid (Kit.step HB3.out hb4)
  clear hb4 HCN
  have hrow := (HM2.out.later HB24.out).row (by rw [HN.out]; unfold maxLen; omega)
  have CM := mask_any k o c n b (some ⟨B, 0, none⟩) (N + 6) A W4 (HK.out.later HB4.out) (by rw [HN.out] at hrow; exact hrow) (HV.out.later HB4.out) (HE.out.later HB4.out).ten (by rw [HLK.out]; omega) hn1 hn2
  rw [HLK.out, HN.out, HMB.out] at CM
  have HCM := Lib.hid CM
  clear CM hrow
  go_wp2_with fail
  refine HCM.out.mono ?_
  rintro e W5 ⟨x5, rfl, hx5, hb5⟩
  have HX5 := Lib.hid hx5
  have HB35 := Lib.hid (Kit.step HB34.out hb5)
  have HB25 := Lib.hid (Kit.step HB24.out hb5)
  have HB5 := Lib.hid (Kit.step HB4.out hb5)
  clear hx5 hb5 HCM
  have RB := rblk_any k o c n W5 (HK.out.later HB5.out) (HD.out.later HB5.out) (by rw [HLK.out]; omega)
  rw [HLK.out, HRB.out] at RB
  have HRK := Lib.hid RB
  clear RB
  go_wp2_with fail
  refine HRK.out.mono ?_
  rintro e W6 ⟨x6, rfl, hx6, hb6⟩
  have HX6 := Lib.hid hx6
  have HB56 := Lib.hid hb6
  have HB6 := Lib.hid (Kit.step HB5.out hb6)
  clear hx6 hb6 HRK
  have RM := rmask_any k o c n b ob cb W6 (HK.out.later HB6.out) (HB.out.later HB6.out) (HD.out.later HB6.out) (by rw [HLK.out]; omega)
  rw [HLK.out, HN.out, HMB.out] at RM
  have HRM := Lib.hid RM
  clear RM
  go_wp2_with fail
  refine HRM.out.mono ?_
  rintro e W7 ⟨x7, rfl, hx7, _, hb7⟩
  have HX7 := Lib.hid hx7
  have HB67 := Lib.hid hb7
  have HB57 := Lib.hid (Kit.step HB56.out hb7)
  have HB7 := Lib.hid (Kit.step HB6.out hb7)
  clear hx7 hb7 HRM
  go_wp2_with fail
  refine (HNR.out W7 (HE.out.later HB7.out)).mono ?_
  rintro e W8 ⟨rfl, hb8⟩
  have HB78 := Lib.hid hb8
  have HB8 := Lib.hid (Kit.step HB7.out hb8)
  clear hb8
  go_wp2_with fail
  refine (HNR.out W8 (HE.out.later HB8.out)).mono ?_
  rintro e W9 ⟨rfl, hb9⟩
  have HB79 := Lib.hid (Kit.step HB78.out hb9)
  have HB9 := Lib.hid (Kit.step HB8.out hb9)
  clear hb9
  obtain ⟨S1, hS1⟩ : ∃ S : ByteArray, ⟨(Da.kres r (Da.sb k n)).toArray⟩ = S := ⟨_, rfl⟩
  have k1 := conv_rv (((HX3.out.later HB35.out).later HB57.out).later HB79.out)
  have k2 := conv_rv ((HX6.out.later HB67.out).later HB79.out)
  rw [hS1] at k1 k2
  clear hS1
  go_wp2_with fail
  refine (HNM.out W9 (HE.out.later HB9.out)).mono ?_
  rintro e W10 ⟨rfl, hb10⟩
  have HB710 := Lib.hid (Kit.step HB79.out hb10)
  have HB10 := Lib.hid (Kit.step HB9.out hb10)
  clear hb10 k1 k2
  obtain ⟨S2, hS2⟩ : ∃ S : ByteArray, ⟨(Da.mk1 k n b).toArray⟩ = S := ⟨_, rfl⟩
  have k1 := conv_rv ((HX5.out.later HB57.out).later HB710.out)
  have k2 := conv_rv (HX7.out.later HB710.out)
  rw [hS2] at k1 k2
  have KE := kept_any b B ob cb W10 (((HM2.out.later HB25.out).later HB57.out).later HB710.out) (HB.out.later HB10.out) (by rw [HN.out]; omega)
  rw [HN.out] at KE
  have HKE := Lib.hid KE
  clear hS2 KE
  go_wp2_with fail
  refine HKE.out.mono ?_
  rintro e W11 ⟨rfl, hdn⟩
  have HB711 := Lib.hid (Kit.step HB710.out hdn.below)
  have HB11 := Lib.hid (Kit.step HB10.out hdn.below)
  clear hdn HKE k1 k2
  by_cases h0 : r = 0
  · subst h0
    have hin : Da.inR n = true := by
      have := HRB.out
      unfold Da.rb at this
      by_cases h : Da.inR n = true
      · exact h
      · rw [if_neg h] at this; cases this
    have hss : Da.sn k n = s := by have := HS.out; unfold Da.snr at this; rw [if_pos hin] at this; exact this
    have RN := rnum10_any k o c n W11 (HK.out.later HB11.out) (HD.out.later HB11.out) (by rw [HLK.out]; omega)
    rw [HLK.out, hss] at RN
    have HRN := Lib.hid RN
    clear RN hss hin
    go_wp2_with fail
    refine HRN.out.mono ?_
    rintro e W12 ⟨rfl, hb12⟩
    have HB712 := Lib.hid (Kit.step HB711.out hb12)
    have HB12 := Lib.hid (Kit.step HB11.out hb12)
    clear hb12 HRN
    by_cases h1 : m = 0
    · subst h1
      obtain ⟨h8, hrb⟩ := Da.mb_zero HMB.out
      have hm1 : Da.mk1 k n b = Da.mk8 k n b := by unfold Da.mk1; rw [if_pos HMB.out]
      have hm8 := Da.mk8_length (k := k) (n := n) h8
      obtain ⟨o5, c5, rfl, hr5⟩ := HX5.out
      have hmb2 : Da.mb (Da.mk8 k n b) n = 0 := by unfold Da.mb; rw [if_pos hm8, hrb]
      have hm2 : Da.mk1 k n (Da.mk8 k n b) = b := by unfold Da.mk1; rw [if_pos hmb2, Da.mk8_twice k n b h8]
      rw [hm1] at hr5 ⊢
      have CM := mask_any k o c n (Da.mk8 k n b) o5 c5 A W12 (HK.out.later HB12.out) (((hr5.later HB57.out).later HB712.out)) (HV.out.later HB12.out) (HE.out.later HB12.out).ten (by rw [HLK.out]; omega) hn1 hn2
      rw [HLK.out, hm8, hmb2, hm2, errV_nil] at CM
      have HCM := Lib.hid CM
      rw [hm8]
      clear CM hm1 hm8 hr5 hmb2 hm2 h8 hrb
      go_wp2_with fail
      refine HCM.out.mono ?_
      rintro e W13 ⟨x, rfl, hx, hb13⟩
      have HB13 := Lib.hid (Kit.step HB12.out hb13)
      obtain ⟨S3, hS3⟩ : ∃ S : ByteArray, ⟨b.toArray⟩ = S := ⟨_, rfl⟩
      have k1 := conv_rv hx
      have k2 := conv_rv (p := b) (x := .slice ob b.length cb) ⟨ob, cb, rfl, HB.out.later HB13.out⟩
      rw [hS3] at k1 k2
      rw [HN.out] at k2
      have hn3 : ∀ W, (binOp .eql 26 .nilIface .nilIface).run Tryd.prog W = .ok (.bool true) W := fun W => by kernel_rfl
      clear hS3 hx hb13 HCM
      go_wp2_with fail
      go_ret
      exact ⟨by simp, HB13.out⟩
    · have hd3 : ((m : Int) != 0) = true := by rw [bne_iff_ne]; omega
      go_wp2_with fail
      go_ret
      exact ⟨rfl, HB12.out⟩
  · have hd3 : ((r : Int) != 0) = true := by rw [bne_iff_ne]; omega
    have hs0 : s = 0 := by
      have := HRB.out
      rw [← HS.out]
      unfold Da.snr
      unfold Da.rb at this
      by_cases h : Da.inR n = true
      · rw [if_pos h] at this; omega
      · rw [if_neg h]
    subst hs0
    go_wp2_with fail
    go_ret
    exact ⟨rfl, HB11.out⟩
end Go.Proofs.YtaanjlbkncfnbaaDoor
