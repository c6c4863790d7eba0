/- ShuffleSteps: the code's Step, and the law. -/
import Derived.Test.YtgpojlblhaphnaaDoorAl11
import Derived.Test.YtgpojlblhaphnaaDoorRsu
namespace Go.Proofs.YtgpojlblhaphnaaDoor
open Go.RowKit
set_option linter.unusedVariables false
set_option linter.unusedSimpArgs false
/-- whether it is a half's bits and a number of them -/
def Da.inS (m x : Int) : Bool := decide (1 ≤ m) && decide (m ≤ 10) && decide (0 ≤ x) && decide (x < 4 ^ m.toNat)
set_option maxRecDepth 100000 in
theorem cstep_in (k : List UInt8) (o : Option Addr) (c : Nat) (m x : Nat) (h1 : 1 ≤ m) (h10 : m ≤ 10) (hx : x < 4 ^ m) (w : World) (hR : RowIs w o (bytesV k) c) (hV : Cds w) (hl : k.length ≤ 900000) :
    Calls Tryd.prog 16 #[.slice o k.length c, .int .i64 (m : Int), .int .i64 (x : Int)] w fun e w' => e = .returned (.tuple #[.int .i64 ((Da.son k m x : Nat) : Int), .nilIface]) ∧ Below w.heap.size w w' := by
  have SO := Lib.hid (sto_any k o c m w hR hV hl)
  have NO := Lib.hid (snof_any m h10 w)
  have HS := Lib.hid (fun (p : Nat) (v : World) (hA : Arr v p 67 (bytesV (Da.fil k))) (hb : Below w.heap.size w v) => son_any k p m h10 x hx v hA (hV.later hb))
  obtain ⟨T, hT⟩ : ∃ T, Da.son k m x = T := ⟨_, rfl⟩
  rw [hT] at HS ⊢
  obtain ⟨F, hF⟩ : ∃ F, 4 ^ m = F := ⟨_, rfl⟩
  rw [hF] at NO hx
  have hd1 : decide ((m : Int) < 1) = false := by simp; omega
  have hd2 : decide ((m : Int) > 10) = false := by simp; omega
  have hd3 : decide ((x : Int) < 0) = false := by simp
  have hd4 : decide ((x : Int) ≥ (F : Int)) = false := by simp; omega
  have hd4' : decide (F ≤ x) = false := by simp; omega
  clear hR hV hT hF
  go_enter Tryd.func16, Tryd.ntmps16
  go_wp2_with fail
  refine NO.out.mono ?_
  rintro e w1 ⟨rfl, rfl⟩
  clear NO
  go_wp2_with fail
  refine SO.out.mono ?_
  rintro e W2 ⟨p, rfl, hk, hb2⟩
  have ST := Lib.hid (HS.out p W2 hk hb2)
  have HB2 := Lib.hid hb2
  clear hk hb2 SO HS
  go_wp2_with fail
  refine ST.out.mono ?_
  rintro e W3 ⟨rfl, hb3⟩
  have HB3 := Lib.hid (Kit.step HB2.out hb3)
  clear hb3 ST
  go_wp2_with fail
  refine bodyPost_ret (results_tmp2 rfl _ _ _) rfl ?_
  exact ⟨rfl, HB3.out⟩
set_option maxRecDepth 100000 in
set_option maxHeartbeats 1000000 in
theorem cstep_bad (k : List UInt8) (o : Option Addr) (c : Nat) (m x : Int) (h : m < 1 ∨ 10 < m ∨ x < 0 ∨ ((4 ^ m.toNat : Nat) : Int) ≤ x) (A : Nat → Addr) (w : World) (hE : Er.E11 w A) :
    Calls Tryd.prog 16 #[.slice o k.length c, .int .i64 m, .int .i64 x] w fun e w' => e = .returned (.tuple #[.int .i64 0, errV A 1]) ∧ Below w.heap.size w w' := by
  have hE0 := hE.c0
  clear hE
  by_cases h1 : m < 1
  · have hd1 : decide (m < 1) = true := by simp; omega
    clear h
    go_enter Tryd.func16, Tryd.ntmps16
    go_wp2_with fail
    go_region
    go_wp2_with fail
    refine bodyPost_ret (results_tmp2 rfl _ _ _) rfl ?_
    exact ⟨rfl, Kit.dn' _ 1⟩
  have hd1 : decide (m < 1) = false := by simp; omega
  by_cases h2 : 10 < m
  · have hd2 : decide (m > 10) = true := by simp; omega
    clear h
    go_enter Tryd.func16, Tryd.ntmps16
    go_wp2_with fail
    go_region
    go_wp2_with fail
    refine bodyPost_ret (results_tmp2 rfl _ _ _) rfl ?_
    exact ⟨rfl, Kit.dn' _ 1⟩
  have hd2 : decide (m > 10) = false := by simp; omega
  by_cases h3 : x < 0
  · have hd3 : decide (x < 0) = true := by simp; omega
    clear h
    go_enter Tryd.func16, Tryd.ntmps16
    go_wp2_with fail
    go_region
    go_wp2_with fail
    refine bodyPost_ret (results_tmp2 rfl _ _ _) rfl ?_
    exact ⟨rfl, Kit.dn' _ 1⟩
  have hd3 : decide (x < 0) = false := by simp; omega
  have h4 : ((4 ^ m.toNat : Nat) : Int) ≤ x := by
    rcases h with h | h | h | h
    · exact absurd h h1
    · exact absurd h h2
    · exact absurd h h3
    · exact h
  obtain ⟨M, rfl⟩ : ∃ M : Nat, m = (M : Int) := ⟨m.toNat, by omega⟩
  rw [Int.toNat_natCast] at h4
  have NO := Lib.hid (snof_any M (by omega) w)
  obtain ⟨F, hF⟩ : ∃ F : Int, ((4 ^ M : Nat) : Int) = F := ⟨_, rfl⟩
  rw [hF] at NO h4
  have hd4 : decide (x ≥ F) = true := by simp; omega
  clear hF h
  go_enter Tryd.func16, Tryd.ntmps16
  go_wp2_with fail
  refine NO.out.mono ?_
  rintro e w1 ⟨rfl, rfl⟩
  clear NO
  go_wp2_with fail
  go_region
  go_wp2_with fail
  refine bodyPost_ret (results_tmp2 rfl _ _ _) rfl ?_
  exact ⟨rfl, Kit.dn' _ 1⟩
set_option maxRecDepth 100000 in
set_option maxHeartbeats 4000000 in
theorem ssteps_any (k : List UInt8) (o : Option Addr) (c : Nat) (m x : Int) (A : Nat → Addr) (w : World) (hK : RowIs w o (bytesV k) c) (hV : Cds w) (hD : Rds w) (hE : Er.Errs w A) (hm1 : -9223372036854775808 ≤ m) (hm2 : m ≤ 9223372036854775807) (hx1 : -9223372036854775808 ≤ x) (hx2 : x ≤ 9223372036854775807) :
    Calls Tryd.prog 4 #[.slice o k.length c, .int .i64 m, .int .i64 x] w fun e w' => e = .returned (.bool true) ∧ Below w.heap.size w w' := by
  have hk1 := hK.le
  have hk2 := hK.cap
  simp only [bytesV_length] at hk1
  unfold maxLen at hk2
  have HK := Lib.hid hK
  have HV := Lib.hid hV
  have HD := Lib.hid hD
  have HE := Lib.hid hE
  have AL := Lib.hid (alive11_any A w hV hE.eleven)
  have h1 := neq_nil11
  have h2 := eql_nil11
  obtain ⟨Lk, hLk⟩ : ∃ Lk, k.length = Lk := ⟨_, rfl⟩
  have HLK := Lib.hid hLk
  rw [hLk] at hk1 ⊢
  clear hK hV hD hE hLk
  go_enter Tryd.func4, Tryd.ntmps4
  go_wp2_with fail
  refine AL.out.mono ?_
  rintro e W1 ⟨rfl, hb1⟩
  have HB1 := Lib.hid hb1
  clear hb1 AL
  by_cases hz1 : 200 < Lk
  · have hd : decide ((Lk : Int) > 200) = true := by simp; omega
    go_wp2_with fail
    go_ret
    exact ⟨rfl, HB1.out⟩
  have hd : decide ((Lk : Int) > 200) = false := by simp; omega
  by_cases hbad : m < 1 ∨ 10 < m ∨ x < 0 ∨ ((4 ^ m.toNat : Nat) : Int) ≤ x
  · have ST := cstep_bad k o c m x hbad A W1 (HE.out.later HB1.out).eleven
    rw [HLK.out] at ST
    have HST := Lib.hid ST
    clear ST
    go_wp2_with fail
    refine HST.out.mono ?_
    rintro e W2 ⟨rfl, hb2⟩
    have HB2 := Lib.hid (Kit.step HB1.out hb2)
    have NM := Lib.hid (Er.num_any A 1 (by decide) W2 (HE.out.later HB2.out))
    clear hb2 HST
    by_cases h1 : m < 1
    · have hd1 : decide (m < 1) = true := by simp; omega
      go_wp2_with fail
      refine NM.out.mono ?_
      rintro e W3 ⟨rfl, hb3⟩
      go_wp2_with fail
      go_ret
      exact ⟨rfl, Kit.step HB2.out hb3⟩
    have hd1 : decide (m < 1) = false := by simp; omega
    by_cases h2 : 10 < m
    · have hd2 : decide (m > 10) = true := by simp; omega
      go_wp2_with fail
      refine NM.out.mono ?_
      rintro e W3 ⟨rfl, hb3⟩
      go_wp2_with fail
      go_ret
      exact ⟨rfl, Kit.step HB2.out hb3⟩
    have hd2 : decide (m > 10) = false := by simp; omega
    by_cases h3 : x < 0
    · have hd3 : decide (x < 0) = true := by simp; omega
      go_wp2_with fail
      refine NM.out.mono ?_
      rintro e W3 ⟨rfl, hb3⟩
      go_wp2_with fail
      go_ret
      exact ⟨rfl, Kit.step HB2.out hb3⟩
    have hd3 : decide (x < 0) = false := by simp; omega
    have h4 : ((4 ^ m.toNat : Nat) : Int) ≤ x := by
      rcases hbad with h | h | h | h
      · exact absurd h h1
      · exact absurd h h2
      · exact absurd h h3
      · exact h
    obtain ⟨M, rfl⟩ : ∃ M : Nat, m = (M : Int) := ⟨m.toNat, by omega⟩
    rw [Int.toNat_natCast] at h4
    have hw2 : IntKind.u64.wrap (2 * (M : Int)) = 2 * (M : Int) := by rw [IntKind.wrap_u64]; omega
    have HS : wrap64 (2 ^ (2 * M)) = ((4 ^ M : Nat) : Int) := four_wrap M (by omega)
    obtain ⟨F, hF⟩ : ∃ F : Int, ((4 ^ M : Nat) : Int) = F := ⟨_, rfl⟩
    rw [hF] at HS h4
    have hd4 : decide (x ≥ F) = true := by simp; omega
    clear hF hbad
    go_wp2_with fail
    refine NM.out.mono ?_
    rintro e W3 ⟨rfl, hb3⟩
    go_wp2_with fail
    go_ret
    exact ⟨rfl, Kit.step HB2.out hb3⟩
  · obtain ⟨M, rfl⟩ : ∃ M : Nat, m = (M : Int) := ⟨m.toNat, by omega⟩
    obtain ⟨X, rfl⟩ : ∃ X : Nat, x = (X : Int) := ⟨x.toNat, by omega⟩
    rw [Int.toNat_natCast] at hbad
    have hM1 : 1 ≤ M := by omega
    have hM10 : M ≤ 10 := by omega
    have hX : X < 4 ^ M := by
      have : ¬ ((4 ^ M : Nat) : Int) ≤ (X : Int) := fun h => hbad (.inr (.inr (.inr h)))
      obtain ⟨F, hF⟩ : ∃ F, 4 ^ M = F := ⟨_, rfl⟩
      rw [hF] at this ⊢
      omega
    have hw2 : IntKind.u64.wrap (2 * (M : Int)) = 2 * (M : Int) := by rw [IntKind.wrap_u64]; omega
    have ST := cstep_in k o c M X hM1 hM10 hX W1 (HK.out.later HB1.out) (HV.out.later HB1.out) (by rw [HLK.out]; omega)
    have RS := fun v (hb : Below W1.heap.size W1 v) => rstep_any k o c M hM10 X hX v ((HK.out.later HB1.out).later hb) ((HD.out.later HB1.out).later hb) (by rw [HLK.out]; omega)
    rw [HLK.out] at ST RS
    obtain ⟨T, hT⟩ : ∃ T, Da.son k M X = T := ⟨_, rfl⟩
    rw [hT] at ST RS
    have HST := Lib.hid ST
    have HRS := Lib.hid RS
    have hd1 : decide ((M : Int) < 1) = false := by simp; omega
    have hd2 : decide ((M : Int) > 10) = false := by simp; omega
    have hd3 : decide ((X : Int) < 0) = false := by simp
    clear ST RS hT hbad
    go_wp2_with fail
    refine HST.out.mono ?_
    rintro e W2 ⟨rfl, hb2⟩
    have HB12 := Lib.hid hb2
    clear hb2 HST
    have HS : wrap64 (2 ^ (2 * M)) = ((4 ^ M : Nat) : Int) := four_wrap M hM10
    obtain ⟨F, hF⟩ : ∃ F, 4 ^ M = F := ⟨_, rfl⟩
    rw [hF] at HS hX
    have hd4 : decide ((X : Int) ≥ (F : Int)) = false := by simp; omega
    have hd4' : decide (F ≤ X) = false := by simp; omega
    have HRS2 := Lib.hid (HRS.out W2 HB12.out)
    clear hF
    go_wp2_with fail
    refine HRS2.out.mono ?_
    rintro e W3 ⟨rfl, hb3⟩
    have HB3 := Lib.hid (Kit.step HB1.out (Kit.step HB12.out hb3))
    clear hb3
    go_wp2_with fail
    go_ret
    exact ⟨by simp, HB3.out⟩
end Go.Proofs.YtgpojlblhaphnaaDoor
