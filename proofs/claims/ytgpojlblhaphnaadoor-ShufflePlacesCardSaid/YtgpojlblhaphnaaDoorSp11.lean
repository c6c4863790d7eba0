/- ShufflePlaces. -/
import Derived.Test.YtgpojlblhaphnaaDoorAl11
import Derived.Test.YtgpojlblhaphnaaDoorRsu
namespace Go.Proofs.YtgpojlblhaphnaaDoor
open Go.RowKit
set_option linter.unusedVariables false
set_option linter.unusedSimpArgs false
set_option maxRecDepth 100000 in
set_option maxHeartbeats 4000000 in
theorem splaces_any (k : List UInt8) (o : Option Addr) (c : Nat) (n i : Int) (A : Nat → Addr) (w : World) (hK : RowIs w o (bytesV k) c) (hV : Cds w) (hD : Rds w) (hE : Er.Errs w A) (hn1 : -9223372036854775808 ≤ n) (hn2 : n ≤ 9223372036854775807) (hi1 : -9223372036854775808 ≤ i) (hi2 : i ≤ 9223372036854775807) :
    Calls Tryd.prog 3 #[.slice o k.length c, .int .i64 n, .int .i64 i] w fun e w' => e = .returned (.bool true) ∧ Below w.heap.size w w' := by
  have hk1 := hK.le
  have hk2 := hK.cap
  simp only [bytesV_length] at hk1
  unfold maxLen at hk2
  have HK := Lib.hid hK
  have HV := Lib.hid hV
  have HD := Lib.hid hD
  have HE := Lib.hid hE
  have AL := Lib.hid (alive11_any A w hV hE.eleven)
  have h1 := neq_nil11
  have h2 := eql_nil11
  obtain ⟨Lk, hLk⟩ : ∃ Lk, k.length = Lk := ⟨_, rfl⟩
  have HLK := Lib.hid hLk
  rw [hLk] at hk1 ⊢
  clear hK hV hD hE hLk
  go_enter Tryd.func3, Tryd.ntmps3
  go_wp2_with fail
  refine AL.out.mono ?_
  rintro e W1 ⟨rfl, hb1⟩
  have HB1 := Lib.hid hb1
  clear hb1 AL
  by_cases hz1 : 200 < Lk
  · have hd : decide ((Lk : Int) > 200) = true := by simp; omega
    go_wp2_with fail
    go_ret
    exact ⟨rfl, HB1.out⟩
  have hd : decide ((Lk : Int) > 200) = false := by simp; omega
  by_cases hbad : n < 1 ∨ 1048576 < n
  · have NW := snew_bad k o c n hbad A W1 (HE.out.later HB1.out).eleven
    rw [HLK.out] at NW
    have HNW := Lib.hid NW
    clear NW
    go_wp2_with fail
    refine HNW.out.mono ?_
    rintro e W2 ⟨rfl, hb2⟩
    have HB2 := Lib.hid (Kit.step HB1.out hb2)
    have NM := Lib.hid (Er.num_any A 1 (by decide) W2 (HE.out.later HB2.out))
    clear hb2 HNW
    by_cases h1 : n < 1
    · have hd1 : decide (n < 1) = true := by simp; omega
      go_wp2_with fail
      refine NM.out.mono ?_
      rintro e W3 ⟨rfl, hb3⟩
      go_wp2_with fail
      go_ret
      exact ⟨rfl, Kit.step HB2.out hb3⟩
    have hd1 : decide (n < 1) = false := by simp; omega
    have hd2 : decide (n > 1048576) = true := by simp; omega
    go_wp2_with fail
    refine NM.out.mono ?_
    rintro e W3 ⟨rfl, hb3⟩
    go_wp2_with fail
    go_ret
    exact ⟨rfl, Kit.step HB2.out hb3⟩
  obtain ⟨N, rfl⟩ : ∃ N : Nat, n = (N : Int) := ⟨n.toNat, by omega⟩
  have hN1 : 1 ≤ N := by omega
  have hN2 : N ≤ 1048576 := by omega
  have hd1 : decide ((N : Int) < 1) = false := by simp; omega
  have hd2 : decide ((N : Int) > 1048576) = false := by simp; omega
  have NW := snew_any k o c N hN1 hN2 W1 (HK.out.later HB1.out) (HV.out.later HB1.out) (by rw [HLK.out]; omega)
  rw [HLK.out] at NW
  have HNW := Lib.hid NW
  clear NW hbad
  go_wp2_with fail
  refine HNW.out.mono ?_
  rintro e W2 ⟨g, p, rfl, ho, hb2⟩
  have HO := Lib.hid ho
  have HB2 := Lib.hid (Kit.step HB1.out hb2)
  have SZ := Lib.hid (ssize_any g p k N W2 ho)
  have BT := Lib.hid (sbit_any g p k N W2 ho)
  have RB := Lib.hid (rbits_any N hN2 W2)
  have HV2 := Lib.hid (HV.out.later HB2.out)
  have HE2 := Lib.hid (HE.out.later HB2.out)
  have HD2 := Lib.hid (HD.out.later HB2.out)
  have HK2 := Lib.hid (HK.out.later HB2.out)
  clear ho hb2 HNW
  go_wp2_with fail
  refine SZ.out.mono ?_
  rintro e w1 ⟨rfl, rfl⟩
  go_wp2_with fail
  refine BT.out.mono ?_
  rintro e w1 ⟨rfl, rfl⟩
  go_wp2_with fail
  refine RB.out.mono ?_
  rintro e w1 ⟨rfl, rfl⟩
  rename World => W2
  clear SZ BT RB
  have TO := Lib.hid (oto_any g p k N hN2 i A W2 HO.out HV2.out HE2.out.eleven)
  have FR := Lib.hid (fun v hb => kfrom_any g p k N hN2 i A v (HO.out.later hb) (HV2.out.later hb) (HE2.out.later hb).eleven)
  by_cases hin : 0 ≤ i ∧ i < (N : Int)
  · obtain ⟨x, rfl⟩ : ∃ x : Nat, i = (x : Int) := ⟨i.toNat, by omega⟩
    have hxN : x < N := by omega
    have TO := Lib.hid (oto_in g p k N hN2 x hxN A W2 HO.out HV2.out HE2.out.eleven)
    have FR := Lib.hid (fun v hb => kfrom_in g p k N hN2 x hxN A v (HO.out.later hb) (HV2.out.later hb) (HE2.out.later hb).eleven)
    have RT := Lib.hid (fun y hy v hb => rto_any k o c N hN2 y hy v (HK2.out.later hb) (HD2.out.later hb) (by rw [HLK.out]; omega))
    have RT1 := RT.out x hxN
    have hfl := Da.pfrom_lt (k := k) hN2 hxN
    have HFB := Lib.hid (Da.pto_pfrom (k := k) hN2 hxN)
    have RT2 := RT.out (Da.pfrom k N x) hfl
    have e2 : Da.pl (Da.son k (Da.bw N)) N (4 ^ Da.bw N) (Da.pfrom k N x) = x := HFB.out
    rw [e2, HLK.out] at RT2
    have e1 : Da.pl (Da.son k (Da.bw N)) N (4 ^ Da.bw N) x = Da.pto k N x := rfl
    rw [e1, HLK.out] at RT1
    have hpl := Da.pto_lt (k := k) hN2 hxN
    have HPB := Lib.hid (Da.pfrom_pto (k := k) hN2 hxN)
    obtain ⟨P, hP⟩ : ∃ P, Da.pto k N x = P := ⟨_, rfl⟩
    rw [hP] at TO hpl HPB RT1
    obtain ⟨F, hF⟩ : ∃ F, Da.pfrom k N x = F := ⟨_, rfl⟩
    rw [hF] at FR hfl RT2
    have BK := Lib.hid (fun v hb => kfrom_in g p k N hN2 P hpl A v (HO.out.later hb) (HV2.out.later hb) (HE2.out.later hb).eleven)
    rw [HPB.out] at BK
    have RT1 := Lib.hid RT1
    have RT2 := Lib.hid RT2
    have hd3 : decide ((x : Int) < 0) = false := by simp
    have hd4 : decide ((x : Int) ≥ (N : Int)) = false := by simp; omega
    have hd4' : decide (N ≤ x) = false := by simp; omega
    have hd5 : decide ((F : Int) ≥ 0) = true := by simp
    have hd6 : decide ((F : Int) < (N : Int)) = true := by simp; omega
    have hd6' : decide (F < N) = true := by simp; omega
    clear RT e1 e2 hP hF hi1 hi2 hpl hfl hin
    go_wp2_with fail
    refine TO.out.mono ?_
    rintro e W3 ⟨rfl, hb3⟩
    have HB23 := Lib.hid hb3
    have FR1 := Lib.hid (FR.out W3 hb3)
    clear hb3 TO FR
    go_wp2_with fail
    refine FR1.out.mono ?_
    rintro e W4 ⟨rfl, hb4⟩
    have HB24 := Lib.hid (Kit.step HB23.out hb4)
    have BK1 := Lib.hid (BK.out W4 HB24.out)
    clear hb4 FR1 BK
    go_wp2_with fail
    refine BK1.out.mono ?_
    rintro e W5 ⟨rfl, hb5⟩
    have HB25 := Lib.hid (Kit.step HB24.out hb5)
    have RT3 := Lib.hid (RT1.out W5 HB25.out)
    clear hb5 BK1 RT1
    go_wp2_with fail
    refine RT3.out.mono ?_
    rintro e W6 ⟨rfl, hb6⟩
    have HB26 := Lib.hid (Kit.step HB25.out hb6)
    have RT4 := Lib.hid (RT2.out W6 HB26.out)
    clear hb6 RT3 RT2
    go_wp2_with fail
    refine RT4.out.mono ?_
    rintro e W7 ⟨rfl, hb7⟩
    have HB7 := Lib.hid (Kit.step HB2.out (Kit.step HB26.out hb7))
    clear hb7 RT4
    go_wp2_with fail
    go_ret
    exact ⟨by simp, HB7.out⟩
  · have hin0 : Da.inO N i = false := by
      cases h : Da.inO N i with
      | false => rfl
      | true => exact absurd (Da.inO_iff.1 h) hin
    have et : ∀ f M, Da.tv11 f N M i = 0 := fun f M => by unfold Da.tv11; rw [hin0]; rfl
    have eb : Da.ob11 N i = 1 := by unfold Da.ob11; rw [hin0]; rfl
    simp only [et, eb] at TO FR
    have NM := Lib.hid (fun v hb => Er.num_any A 1 (by decide) v (HE2.out.later hb))
    clear et eb hin0
    go_wp2_with fail
    refine TO.out.mono ?_
    rintro e W3 ⟨rfl, hb3⟩
    have HB23 := Lib.hid hb3
    have FR1 := Lib.hid (FR.out W3 hb3)
    clear hb3 TO FR
    go_wp2_with fail
    refine FR1.out.mono ?_
    rintro e W4 ⟨rfl, hb4⟩
    have HB24 := Lib.hid (Kit.step HB23.out hb4)
    have NM1 := Lib.hid (NM.out W4 HB24.out)
    clear hb4 FR1
    by_cases h0 : i < 0
    · have hd3 : decide (i < 0) = true := by simp; omega
      go_wp2_with fail
      refine NM1.out.mono ?_
      rintro e W5 ⟨rfl, hb5⟩
      have HB25 := Lib.hid (Kit.step HB24.out hb5)
      have NM2 := Lib.hid (NM.out W5 HB25.out)
      clear hb5 NM1
      go_wp2_with fail
      refine NM2.out.mono ?_
      rintro e W6 ⟨rfl, hb6⟩
      have HB6 := Lib.hid (Kit.step HB2.out (Kit.step HB25.out hb6))
      clear hb6 NM2
      go_wp2_with fail
      go_ret
      exact ⟨rfl, HB6.out⟩
    have hd3 : decide (i < 0) = false := by simp; omega
    have hd4 : decide (i ≥ (N : Int)) = true := by simp; omega
    go_wp2_with fail
    refine NM1.out.mono ?_
    rintro e W5 ⟨rfl, hb5⟩
    have HB25 := Lib.hid (Kit.step HB24.out hb5)
    have NM2 := Lib.hid (NM.out W5 HB25.out)
    clear hb5 NM1
    go_wp2_with fail
    refine NM2.out.mono ?_
    rintro e W6 ⟨rfl, hb6⟩
    have HB6 := Lib.hid (Kit.step HB2.out (Kit.step HB25.out hb6))
    clear hb6 NM2
    go_wp2_with fail
    go_ret
    exact ⟨rfl, HB6.out⟩
end Go.Proofs.YtgpojlblhaphnaaDoor
