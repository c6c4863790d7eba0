/- GrowthFrontiers, walked. -/
import Derived.Test.YtfccpfmgkpcnoaaDoorSx14
namespace Go.Proofs.YtfccpfmgkpcnoaaDoor
open Go.RowKit
set_option linter.unusedVariables false
set_option linter.unusedSimpArgs false
def OnI (n : Nat) (w : World) (v7 v8 : Value) (wr : World) : Prop := ∃ s k : Nat, v7 = .int .i64 (s : Int) ∧ v8 = .int .i64 (k : Int) ∧ s + Da.ones k = Da.ones n ∧ k ≤ n ∧ wr = w
theorem Da.ones_le : ∀ n, Da.ones n ≤ n := by
  intro n
  induction n using Nat.strongRecOn with
  | ind n ih =>
    by_cases h : n = 0
    · subst h; rw [Da.ones_zero]; exact Nat.le_refl _
    · rw [Da.ones_pos h]; have := ih (n / 2) (by omega); omega
set_option maxRecDepth 100000 in
set_option maxHeartbeats 4000000 in
theorem wf14_any (A : Nat → Addr) (hC : GrC A) (FR : Rf.Blk → World → Value → Nat → List (List UInt8) → Prop) (hF : FrC A FR) (n : Int) (hn1 : -9223372036854775808 ≤ n) (hn2 : n ≤ 9223372036854775807) (ds : List (List UInt8)) (o : Option Addr) (c : Nat) (w : World) (hP : DgIs w o ds c) (hV : Cds w) (hD : Rds w) (hE : Er.Errs w A) :
    Calls Tryd.prog 4 #[.int .i64 n, .slice o ds.length c] w fun e w' => e = .returned (.bool true) ∧ Below w.heap.size w w' := by
  obtain ⟨P, hPe⟩ : ∃ P, ds.length = P := ⟨_, rfl⟩
  have hlP := hP.le
  have hcP := hP.cap
  rw [hPe] at hlP ⊢
  unfold maxLen at hcP
  have HALV := Lib.hid (hC.alive w hV hD)
  have HPE := Lib.hid hPe
  have HP := Lib.hid hP
  have HV := Lib.hid hV
  have HE := Lib.hid hE
  have HF := Lib.hid hF
  have hnn := neq_nil13
  clear hPe hP hV hD hE hC hF
  go_enter Tryd.func4, Tryd.ntmps4
  go_wp2_with fail
  refine HALV.out.mono ?_
  rintro e W1 ⟨rfl, hb1⟩
  have HB1 := Lib.hid hb1
  clear hb1 HALV
  by_cases h80 : 80 < P
  · have hd3 : decide ((P : Int) > 80) = true := decide_eq_true (by omega)
    have hd4 : decide (80 < (P : Int)) = true := decide_eq_true (by omega)
    have H80 := Lib.hid h80
    clear h80
    go_wp2_with fail
    go_ret
    exact ⟨rfl, HB1.out⟩
  have hd3 : decide ((P : Int) > 80) = false := decide_eq_false (by omega)
  have hd4 : decide (80 < (P : Int)) = false := decide_eq_false (by omega)
  have hP80 : P ≤ 80 := by omega
  have HDG := Lib.hid (digs_any ds o P c HPE.out (by omega) W1 (HP.out.later HB1.out))
  clear h80
  go_wp2_with fail
  refine HDG.out.mono ?_
  rintro e W2 ⟨o2, c2, rfl, hdg2, hb2⟩
  have HDG2 := Lib.hid hdg2
  have HB2 := Lib.hid (Kit.step HB1.out hb2)
  clear hdg2 hb2 HDG hd3 hd4
  by_cases hr : ¬ (0 ≤ n ∧ n ≤ 1099511627776)
  · have OF := HF.out.ofr W2 n ds o2 c2 HDG2.out hr (by rw [HPE.out]; omega) (HE.out.later HB2.out)
    obtain ⟨EV, hEV⟩ : ∃ EV, errP A 1 = EV := ⟨_, rfl⟩
    rw [HPE.out, hEV] at OF
    have HOF := Lib.hid OF
    have HEV := Lib.hid hEV
    clear OF hEV
    go_wp2_with fail
    refine HOF.out.mono ?_
    rintro e W3 ⟨rfl, hb3⟩
    have HB3 := Lib.hid (Kit.step HB2.out hb3)
    have NU := num_errP14 A 1 (by omega) W3 (HE.out.later (Kit.step HB2.out hb3))
    rw [HEV.out] at NU
    have HNU := Lib.hid NU
    clear hb3 NU HOF
    by_cases h0 : n < 0
    · have hd1 : decide (n < 0) = true := decide_eq_true h0
      have H0 := Lib.hid (And.intro h0 hr)
      clear h0 hr
      go_wp2_with fail
      refine HNU.out.mono ?_
      rintro e W4 ⟨rfl, hb4⟩
      have HB4 := Lib.hid (Kit.step HB3.out hb4)
      clear hb4
      go_wp2_with fail
      go_ret
      exact ⟨rfl, HB4.out⟩
    · have hd1 : decide (n < 0) = false := decide_eq_false h0
      have hd2 : decide (n > 1099511627776) = true := decide_eq_true (by omega)
      have hd3 : decide (1099511627776 < n) = true := decide_eq_true (by omega)
      have H0 := Lib.hid (And.intro h0 hr)
      clear h0 hr
      go_wp2_with fail
      refine HNU.out.mono ?_
      rintro e W4 ⟨rfl, hb4⟩
      have HB4 := Lib.hid (Kit.step HB3.out hb4)
      clear hb4
      go_wp2_with fail
      go_ret
      exact ⟨rfl, HB4.out⟩
  obtain ⟨n, rfl⟩ : ∃ k : Nat, n = (k : Int) := ⟨n.toNat, by omega⟩
  have hn40 : n ≤ 1099511627776 := by omega
  have hd1 : decide ((n : Int) < 0) = false := decide_eq_false (by omega)
  have hd2 : decide ((n : Int) > 1099511627776) = false := decide_eq_false (by omega)
  have hd3 : decide (1099511627776 < (n : Int)) = false := decide_eq_false (by omega)
  have hd4 : decide (1099511627776 < n) = false := decide_eq_false (by omega)
  have OF : Calls Tryd.prog 12 #[.int .i64 (n : Int), .slice o2 P c2] W2 fun e w' => ∃ X EV, e = .returned (.tuple #[X, EV]) ∧ Below W2.heap.size W2 w' ∧ ((P ≠ Da.ones n ∧ X = .pointer none ∧ EV = errP A 8) ∨ (P = Da.ones n ∧ EV = .nilIface ∧ ∃ O, FR O w' X n ds ∧ ∀ k, O k → W2.heap.size ≤ k)) := by
    by_cases ho : P = Da.ones n
    · have := HF.out.of W2 n ds o2 c2 HDG2.out (by rw [HPE.out]; exact ho) hn40
      rw [HPE.out] at this
      exact this.mono fun e w' ⟨v, O, h1, h2, h3, h4⟩ => ⟨v, .nilIface, h1, h3, .inr ⟨ho, rfl, O, h2, h4⟩⟩
    · have := HF.out.ofs W2 n ds o2 c2 HDG2.out hn40 (by rw [HPE.out]; exact ho) (by rw [HPE.out]; omega) (HE.out.later HB2.out)
      rw [HPE.out] at this
      exact this.mono fun e w' h => ⟨_, _, h.1, h.2, .inl ⟨ho, rfl, rfl⟩⟩
  have HOF := Lib.hid OF
  have HR := Lib.hid hr
  clear OF hr
  go_wp2_with fail
  refine HOF.out.mono ?_
  rintro e W3 ⟨X, EV, rfl, hb3, hX⟩
  have HX := Lib.hid hX
  have HB3 := Lib.hid (Kit.step HB2.out hb3)
  clear hX hb3 HOF
  go_wp2_with fail
  go_loopw [7, 8] (fun v7 v8 wr => OnI n W3 v7 v8 wr) (fun _ v8 _ => (intOf v8).toNat)
  case atStart => exact ⟨0, n, rfl, rfl, by omega, Nat.le_refl _, rfl⟩
  case round =>
    obtain ⟨s, k, rfl, rfl, hsk, hkn, rfl⟩ := hrel
    by_cases h0 : 0 < k
    · have hde1 : decide ((k : Int) > 0) = true := decide_eq_true (by omega)
      have hde2 : decide (0 < k) = true := decide_eq_true h0
      have hde3 : decide (0 < (k : Int)) = true := decide_eq_true (by omega)
      have hon := Da.ones_pos (n := k) (by omega)
      have hol := Da.ones_le n
      have hsl : s ≤ n := by omega
      have ht : Int.tmod (k : Int) 2 = ((k % 2 : Nat) : Int) := by rw [show (2 : Int) = ((2 : Nat) : Int) from rfl, ← Int.ofNat_tmod]
      have hq : Int.tdiv (k : Int) 2 = ((k / 2 : Nat) : Int) := by rw [show (2 : Int) = ((2 : Nat) : Int) from rfl, ← Int.ofNat_tdiv]
      have hw1 : IntKind.i64.wrap ((k % 2 : Nat) : Int) = ((k % 2 : Nat) : Int) := by rw [IntKind.wrap_i64]; omega
      have hw2 : IntKind.i64.wrap ((k / 2 : Nat) : Int) = ((k / 2 : Nat) : Int) := by rw [IntKind.wrap_i64]; omega
      have hw3 : IntKind.i64.wrap ((s : Int) + ((k % 2 : Nat) : Int)) = ((s + k % 2 : Nat) : Int) := by rw [IntKind.wrap_i64]; omega
      have HS := Lib.hid (show s + k % 2 + Da.ones (k / 2) = Da.ones n by omega)
      clear hon hol
      go_wp2_with fail
      -- STOP1
      go_roundw
      case rel => exact ⟨s + k % 2, k / 2, by first | rfl | (congr 1; omega), by first | rfl | (congr 1; omega), HS.out, by omega, rfl⟩
      case measure => simp [intOf]; omega
    · obtain rfl : k = 0 := by omega
      have hde1 : decide (((0 : Nat) : Int) > 0) = false := by decide
      rw [Da.ones_zero, Nat.add_zero] at hsk
      have HSK := Lib.hid hsk
      clear hsk
      rename World => W3
      rcases HX.out with ⟨ho, rfl, hev⟩ | ⟨ho, rfl, O, hfr, hfresh⟩
      · have NU := num_errP14 A 8 (by omega) W3 (HE.out.later HB3.out)
        rw [← hev] at NU
        have HNU := Lib.hid NU
        have hq : ((s : Int) != (P : Int)) = true := by simp; have := HSK.out; omega
        have hdq : decide ((s : Int) ≠ (P : Int)) = true := by simp; have := HSK.out; omega
        have HEV := Lib.hid hev
        have HO := Lib.hid ho
        clear NU hev ho
        go_wp2_with fail
        refine HNU.out.mono ?_
        rintro e W4 ⟨rfl, hb4⟩
        have HB4 := Lib.hid (Kit.step HB3.out hb4)
        clear hb4
        go_wp2_with fail
        go_ret
        exact ⟨rfl, HB4.out⟩
      obtain ⟨a, rfl⟩ := HF.out.ptr hfr
      have hsP : s = P := by have := HSK.out; omega
      subst hsP
      have hq : ((s : Int) != (s : Int)) = false := by simp
      have hqn : ((n : Int) != (n : Int)) = false := by simp
      have HSZ := Lib.hid (HF.out.size hfr)
      have HFR := Lib.hid hfr
      have HO := Lib.hid ho
      have HFS := Lib.hid hfresh
      clear hfr ho hfresh
      go_wp2_with fail
      refine HSZ.out.mono ?_
      rintro e W4 ⟨rfl, hb4⟩
      have HB34 := Lib.hid hb4
      have HFR4 := Lib.hid (HF.out.later HFR.out hb4)
      have HPK := Lib.hid (HF.out.peaks (HF.out.later HFR.out hb4))
      have HB4 := Lib.hid (Kit.step HB3.out hb4)
      clear hb4 HSZ
      go_wp2_with fail
      refine HPK.out.mono ?_
      rintro e W5 ⟨o5, c5, rfl, hdg5, hb5⟩
      have HB5 := Lib.hid (Kit.step HB4.out hb5)
      have HFR5 := Lib.hid (HF.out.later HFR4.out hb5)
      have HSM := Lib.hid (same_any14 ds o5 o s c5 c HPE.out W5 hdg5 (HP.out.later HB5.out))
      rw [HPE.out]
      clear hdg5 hb5 HPK
      go_wp2_with fail
      refine HSM.out.mono ?_
      rintro e W6 ⟨rfl, hb6⟩
      have HB6 := Lib.hid (Kit.step HB5.out hb6)
      have HFR6 := Lib.hid (HF.out.later HFR5.out hb6)
      clear hb6 HSM
      by_cases hf : n = 1099511627776
      · subst hf
        have AD := HF.out.full HFR6.out [] none 0 (RowIs.empty none 0 (Nat.zero_le _) (fun _ => rfl)) (by simp) (HV.out.later HB6.out) (HE.out.later HB6.out)
        rw [show ([] : List UInt8).length = 0 from rfl] at AD
        obtain ⟨EA, hEA⟩ : ∃ E, errP A 12 = E := ⟨_, rfl⟩
        rw [hEA] at AD
        have HEA := Lib.hid hEA
        have HAD := Lib.hid AD
        clear AD hEA
        go_wp2_with fail
        refine HAD.out.mono ?_
        rintro e W7 ⟨rfl, hb7⟩
        have HB7 := Lib.hid (Kit.step HB6.out hb7)
        have HFR7 := Lib.hid (HF.out.later HFR6.out hb7)
        have NU := num_errP14 A 12 (by omega) W7 (HE.out.later HB7.out)
        rw [HEA.out] at NU
        have HNU := Lib.hid NU
        clear hb7 HAD NU
        go_wp2_with fail
        refine HNU.out.mono ?_
        rintro e W8 ⟨rfl, hb8⟩
        have HB8 := Lib.hid (Kit.step HB7.out hb8)
        have HSZ8 := Lib.hid (HF.out.size (HF.out.later HFR7.out hb8))
        clear hb8 HNU
        go_wp2_with fail
        refine HSZ8.out.mono ?_
        rintro e W9 ⟨rfl, hb9⟩
        have HB9 := Lib.hid (Kit.step HB8.out hb9)
        clear hb9
        go_wp2_with fail
        go_ret
        exact ⟨rfl, HB9.out⟩
      · have AD := HF.out.add HFR6.out (by omega) [] none 0 (RowIs.empty none 0 (Nat.zero_le _) (fun _ => rfl)) (by simp) (HV.out.later HB6.out)
        rw [show ([] : List UInt8).length = 0 from rfl] at AD
        have HAD := Lib.hid AD
        have hqf : ((n : Int) == (1099511627776 : Int)) = false := by simp; omega
        have hdf : decide ((n : Int) = (1099511627776 : Int)) = false := by simp; omega
        have hdf2 : decide (n = 1099511627776) = false := by simp; omega
        have hw1 : IntKind.i64.wrap ((n : Int) + 1) = ((n + 1 : Nat) : Int) := by rw [IntKind.wrap_i64]; omega
        have hqn1 : (((n + 1 : Nat) : Int) == ((n : Int) + 1)) = true := by simp
        have HFF := Lib.hid hf
        clear AD hf
        go_wp2_with fail
        refine HAD.out.mono ?_
        rintro e W7 ⟨O', rfl, hfr7, hm7, hn7⟩
        have HB7 : Hid (Below w.heap.size w W7) := Lib.hid (HB6.out.trans (hm7.below (fun k hk hO => by have := HFS.out k hO; have := HB2.out.size; omega) HB6.out.size))
        have HFR7 := Lib.hid hfr7
        clear hfr7 hm7 hn7 HAD
        go_wp2_with fail
        refine (Er.num_nil W7).mono ?_
        rintro e W8 ⟨rfl, rfl⟩
        have HSZ8 := Lib.hid (HF.out.size HFR7.out)
        go_wp2_with fail
        refine HSZ8.out.mono ?_
        rintro e W9 ⟨rfl, hb9⟩
        have HB9 := Lib.hid (Kit.step HB7.out hb9)
        clear hb9
        go_wp2_with fail
        go_ret
        exact ⟨by simp, HB9.out⟩
end Go.Proofs.YtfccpfmgkpcnoaaDoor
