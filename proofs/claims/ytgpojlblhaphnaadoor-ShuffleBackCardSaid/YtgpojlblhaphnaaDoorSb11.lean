/- ShuffleBack. -/
import Derived.Test.YtgpojlblhaphnaaDoorAl11
namespace Go.Proofs.YtgpojlblhaphnaaDoor
open Go.RowKit
set_option linter.unusedVariables false
set_option linter.unusedSimpArgs false
set_option maxRecDepth 100000 in
set_option maxHeartbeats 4000000 in
theorem sback_any (k : List UInt8) (o : Option Addr) (c : Nat) (n i : Int) (A : Nat → Addr) (w : World) (hK : RowIs w o (bytesV k) c) (hV : Cds w) (hE : Er.E11 w A) (hn1 : -9223372036854775808 ≤ n) (hn2 : n ≤ 9223372036854775807) (hi1 : -9223372036854775808 ≤ i) (hi2 : i ≤ 9223372036854775807) :
    Calls Tryd.prog 6 #[.slice o k.length c, .int .i64 n, .int .i64 i] w fun e w' => e = .returned (.bool true) ∧ Below w.heap.size w w' := by
  have hk1 := hK.le
  have hk2 := hK.cap
  simp only [bytesV_length] at hk1
  unfold maxLen at hk2
  have HK := Lib.hid hK
  have HV := Lib.hid hV
  have HE := Lib.hid hE
  have AL := Lib.hid (alive11_any A w hV hE)
  have h1 := neq_nil11
  have h2 := eql_nil11
  obtain ⟨Lk, hLk⟩ : ∃ Lk, k.length = Lk := ⟨_, rfl⟩
  have HLK := Lib.hid hLk
  rw [hLk] at hk1 ⊢
  clear hK hV hE hLk
  go_enter Tryd.func6, Tryd.ntmps6
  go_wp2_with fail
  refine AL.out.mono ?_
  rintro e W1 ⟨rfl, hb1⟩
  have HB1 := Lib.hid hb1
  clear hb1 AL
  by_cases hz1 : 200 < Lk
  · have hd : decide ((Lk : Int) > 200) = true := by simp; omega
    go_wp2_with fail
    go_ret
    exact ⟨rfl, HB1.out⟩
  have hd : decide ((Lk : Int) > 200) = false := by simp; omega
  by_cases hz2 : n < 1
  · have hd2 : decide (n < 1) = true := by simp; omega
    go_wp2_with fail
    go_ret
    exact ⟨rfl, HB1.out⟩
  have hd2 : decide (n < 1) = false := by simp; omega
  by_cases hz3 : 1048576 < n
  · have hd3 : decide (n > 1048576) = true := by simp; omega
    go_wp2_with fail
    go_ret
    exact ⟨rfl, HB1.out⟩
  obtain ⟨N, rfl⟩ : ∃ N : Nat, n = (N : Int) := ⟨n.toNat, by omega⟩
  have hd3 : decide ((N : Int) > 1048576) = false := by simp; omega
  have hN1 : 1 ≤ N := by omega
  have hN2 : N ≤ 1048576 := by omega
  have NW := snew_any k o c N hN1 hN2 W1 (HK.out.later HB1.out) (HV.out.later HB1.out) (by rw [HLK.out]; omega)
  rw [HLK.out] at NW
  have HNW := Lib.hid NW
  clear NW hz1 hz2 hz3
  go_wp2_with fail
  refine HNW.out.mono ?_
  rintro e W2 ⟨g, p, rfl, ho, hb2⟩
  have HO := Lib.hid ho
  have HB2 := Lib.hid (Kit.step HB1.out hb2)
  clear ho hb2 HNW
  obtain ⟨U, hU⟩ : ∃ U, (i % 18446744073709551616).toNat = U := ⟨_, rfl⟩
  have hwr : IntKind.u64.wrap i = (U : Int) := by rw [IntKind.wrap_u64]; omega
  have hwn : IntKind.u64.wrap (N : Int) = (N : Int) := by rw [IntKind.wrap_u64]; omega
  have hq0 : ((N : Int) == 0) = false := beq_false_of_ne (by omega)
  have hm : (U : Int).tmod (N : Int) = ((U % N : Nat) : Int) := by rw [Int.tmod_eq_emod_of_nonneg (by omega)]; rfl
  obtain ⟨q, hq⟩ : ∃ q, U % N = q := ⟨_, rfl⟩
  have hqN : q < N := by rw [← hq]; exact Nat.mod_lt _ (by omega)
  rw [hq] at hm
  have hw1 : IntKind.u64.wrap (q : Int) = (q : Int) := by rw [IntKind.wrap_u64]; omega
  have hw2 : IntKind.i64.wrap (q : Int) = (q : Int) := by rw [IntKind.wrap_i64]; omega
  have TO := Lib.hid (oto_in g p k N hN2 q hqN A W2 HO.out (HV.out.later HB2.out) (HE.out.later HB2.out))
  have hpl := Da.pto_lt (k := k) hN2 hqN
  have HPB := Lib.hid (Da.pfrom_pto (k := k) hN2 hqN)
  obtain ⟨P, hP⟩ : ∃ P, Da.pto k N q = P := ⟨_, rfl⟩
  rw [hP] at TO hpl HPB
  have hfl := Da.pfrom_lt (k := k) hN2 hqN
  have HFB := Lib.hid (Da.pto_pfrom (k := k) hN2 hqN)
  have FR0 := Lib.hid (fun v hb => kfrom_in g p k N hN2 q hqN A v (HO.out.later hb) ((HV.out.later HB2.out).later hb) ((HE.out.later HB2.out).later hb))
  obtain ⟨F, hF⟩ : ∃ F, Da.pfrom k N q = F := ⟨_, rfl⟩
  rw [hF] at FR0 hfl HFB
  have HQN := Lib.hid hqN
  clear hU hq hP hF hi1 hi2 hqN
  go_wp2_with fail
  refine TO.out.mono ?_
  rintro e W3 ⟨rfl, hb3⟩
  have FR := Lib.hid (FR0.out W3 hb3)
  have HB23 := Lib.hid hb3
  clear hb3 TO FR0
  go_wp2_with fail
  refine FR.out.mono ?_
  rintro e W4 ⟨rfl, hb4⟩
  have HB24 := Lib.hid (Kit.step HB23.out hb4)
  have hd4 : decide ((P : Int) < 0) = false := by simp
  have hd5 : decide ((P : Int) ≥ (N : Int)) = false := by simp; omega
  have hd5' : decide (N ≤ P) = false := by simp; omega
  have hd6 : decide ((F : Int) < 0) = false := by simp
  have hd7 : decide ((F : Int) ≥ (N : Int)) = false := by simp; omega
  have hd7' : decide (N ≤ F) = false := by simp; omega
  have BK := kfrom_in g p k N hN2 P hpl A W4 (HO.out.later HB24.out) ((HV.out.later HB2.out).later HB24.out) ((HE.out.later HB2.out).later HB24.out)
  rw [HPB.out] at BK
  have HBK := Lib.hid BK
  have HFL := Lib.hid hfl
  clear BK hb4 FR hfl
  go_wp2_with fail
  refine HBK.out.mono ?_
  rintro e W5 ⟨rfl, hb5⟩
  have HB25 := Lib.hid (Kit.step HB24.out hb5)
  have BO := oto_in g p k N hN2 F HFL.out A W5 (HO.out.later HB25.out) ((HV.out.later HB2.out).later HB25.out) ((HE.out.later HB2.out).later HB25.out)
  rw [HFB.out] at BO
  have HBO := Lib.hid BO
  clear BO hb5 HBK
  go_wp2_with fail
  refine HBO.out.mono ?_
  rintro e W6 ⟨rfl, hb6⟩
  have HB6 := Lib.hid (Kit.step HB2.out (Kit.step HB25.out hb6))
  clear hb6 HBO
  go_wp2_with fail
  go_ret
  exact ⟨rfl, HB6.out⟩
end Go.Proofs.YtgpojlblhaphnaaDoor
