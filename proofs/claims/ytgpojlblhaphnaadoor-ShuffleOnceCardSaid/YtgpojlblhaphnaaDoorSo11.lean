/- ShuffleOnce. -/
import Derived.Test.YtgpojlblhaphnaaDoorSl11
namespace Go.Proofs.YtgpojlblhaphnaaDoor
open Go.RowKit
set_option linter.unusedVariables false
set_option linter.unusedSimpArgs false
def So11At (k : List UInt8) (n h : Nat) (X0 : World) (i : Value) (wr : World) : Prop :=
  ∃ j : Nat, j ≤ n ∧ i = .int .i64 (j : Int) ∧ Arr wr h 4 (Da.blst k n j) ∧ Below X0.heap.size X0 wr
set_option maxRecDepth 100000 in
set_option maxHeartbeats 4000000 in
theorem sonce_any (k : List UInt8) (o : Option Addr) (c : Nat) (n : Int) (A : Nat → Addr) (w : World) (hK : RowIs w o (bytesV k) c) (hV : Cds w) (hE : Er.E11 w A) (hn1 : -9223372036854775808 ≤ n) (hn2 : n ≤ 9223372036854775807) :
    Calls Tryd.prog 5 #[.slice o k.length c, .int .i64 n] w fun e w' => e = .returned (.bool true) ∧ Below w.heap.size w w' := by
  have hk1 := hK.le
  have hk2 := hK.cap
  simp only [bytesV_length] at hk1
  unfold maxLen at hk2
  have HK := Lib.hid hK
  have HV := Lib.hid hV
  have HE := Lib.hid hE
  have AL := Lib.hid (alive11_any A w hV hE)
  have h1 := neq_nil11
  have h2 := eql_nil11
  obtain ⟨Lk, hLk⟩ : ∃ Lk, k.length = Lk := ⟨_, rfl⟩
  have HLK := Lib.hid hLk
  rw [hLk] at hk1 ⊢
  clear hK hV hE hLk
  go_enter Tryd.func5, Tryd.ntmps5
  go_wp2_with fail
  refine AL.out.mono ?_
  rintro e W1 ⟨rfl, hb1⟩
  have HB1 := Lib.hid hb1
  clear hb1 AL
  by_cases hz1 : 200 < Lk
  · have hd : decide ((Lk : Int) > 200) = true := by simp; omega
    go_wp2_with fail
    go_ret
    exact ⟨rfl, HB1.out⟩
  have hd : decide ((Lk : Int) > 200) = false := by simp; omega
  by_cases hz2 : 100 < n ∧ n ≤ 1024
  · have hd2 : decide (n > 100) = true := by simp; omega
    have hd3 : decide (n ≤ 1024) = true := by simp; omega
    go_wp2_with fail
    go_ret
    exact ⟨rfl, HB1.out⟩
  by_cases hbad : n < 1 ∨ 1048576 < n
  · have NW := snew_bad k o c n hbad A W1 (HE.out.later HB1.out)
    rw [HLK.out] at NW
    obtain ⟨a1, ha1⟩ : ∃ a1, errV A 1 = .iface 98 (.pointer (some a1)) := ⟨_, by unfold errV; rw [if_neg (by decide)]⟩
    rw [ha1] at NW
    have HNW := Lib.hid NW
    clear NW ha1
    by_cases h3 : n < 1
    · have hd2 : decide (n > 100) = false := by simp; omega
      clear hbad hz2 h3
      go_wp2_with fail
      refine HNW.out.mono ?_
      rintro e W2 ⟨rfl, hb2⟩
      go_wp2_with fail
      go_ret
      exact ⟨rfl, Kit.step HB1.out hb2⟩
    · have hd2 : decide (n > 100) = true := by simp; omega
      have hd3 : decide (n ≤ 1024) = false := by simp; omega
      clear hbad hz2 h3
      go_wp2_with fail
      refine HNW.out.mono ?_
      rintro e W2 ⟨rfl, hb2⟩
      go_wp2_with fail
      go_ret
      exact ⟨rfl, Kit.step HB1.out hb2⟩
  obtain ⟨N, rfl⟩ : ∃ N : Nat, n = (N : Int) := ⟨n.toNat, by omega⟩
  have hN1 : 1 ≤ N := by omega
  have hN2 : N ≤ 1048576 := by omega
  have NW := snew_any k o c N hN1 hN2 W1 (HK.out.later HB1.out) (HV.out.later HB1.out) (by rw [HLK.out]; omega)
  rw [HLK.out] at NW
  have HNW := Lib.hid NW
  clear NW
  by_cases h3 : 1024 < N
  · have hd2 : decide ((N : Int) > 100) = true := by simp; omega
    have hd3 : decide ((N : Int) ≤ 1024) = false := by simp; omega
    have hd4 : decide ((N : Int) > 1024) = true := by simp; omega
    clear hbad hz2
    go_wp2_with fail
    refine HNW.out.mono ?_
    rintro e W2 ⟨g, p, rfl, ho, hb2⟩
    have SA := Lib.hid (sall_none g p k N h3 W2 ho)
    have HB2 := Lib.hid (Kit.step HB1.out hb2)
    clear hb2 ho HNW
    go_wp2_with fail
    refine SA.out.mono ?_
    rintro e w1 ⟨rfl, rfl⟩
    go_wp2_with fail
    go_ret
    exact ⟨rfl, HB2.out⟩
  have hN100 : N ≤ 100 := by omega
  have hd2 : decide ((N : Int) > 100) = false := by simp; omega
  have hd4 : decide ((N : Int) > 1024) = false := by simp; omega
  clear hbad hz2 h3
  go_wp2_with fail
  refine HNW.out.mono ?_
  rintro e W2 ⟨g, p, rfl, ho, hb2⟩
  have HB2 := Lib.hid (Kit.step HB1.out hb2)
  have SA := Lib.hid (sall_any g p k N (by omega) W2 ho (HV.out.later HB2.out))
  have HO := Lib.hid ho
  clear hb2 ho HNW
  go_wp2_with fail
  refine SA.out.mono ?_
  rintro e X0 ⟨b, rfl, hA, hb3⟩
  have HB3 := Lib.hid (Kit.step HB2.out hb3)
  have HO3 := Lib.hid (HO.out.later hb3)
  have HA3 := Lib.hid hA
  obtain ⟨h, hh⟩ : ∃ h, X0.heap.size = h := ⟨_, rfl⟩
  obtain ⟨X1, hX1⟩ : ∃ X1, X0.alloc (.cells (Array.replicate N (.bool false)) 4) = X1 := ⟨_, rfl⟩
  have hA1 : Arr X1 h 4 (List.replicate N (.bool false)) := by
    have := Arr.made X0 4 (List.replicate N (.bool false))
    rw [← hX1, ← hh]; simpa using this
  have HX0 : Hid (So11At k N h X0 (.int .i64 0) X1) := Lib.hid ⟨0, Nat.zero_le _, rfl, by rw [Da.blst_zero]; exact hA1, by rw [← hX1]; exact (Below.refl _ _).alloc (Nat.le_refl _) _⟩
  have hmk := make_bools11 N (by omega)
  have HX1 := Lib.hid hX1
  have HH := Lib.hid hh
  clear hb3 hA hX1 hA1 hh SA
  go_wp2_with (first | rw [HX1.out, HH.out])
  go_loopw [47] (fun i wr => So11At k N h X0 i wr) (fun i _ => N - (intOf i).toNat)
  case atStart => exact HX0.out
  case round =>
    obtain ⟨j, hj, rfl, hA, hB⟩ := hrel
    by_cases hlt : j < N
    · have hcl : wr.cell? ⟨b, j, none⟩ = some (.int .i64 (Da.pto k N j : Nat)) := by
        rw [(HA3.out.later hB HA3.out.lt).cell]; exact Da.ilst_at k N j hlt
      have hpl := Da.pto_lt (k := k) hN2 hlt
      have hbc : wr.cell? ⟨h, Da.pto k N j, none⟩ = some (.bool false) := by
        rw [hA.cell]; exact Da.blst_at k N j hN2 hlt
      have hfz := hA.frozen (Da.pto k N j)
      have HS := Lib.hid (Da.blst_step k N j hN2 hlt)
      have FR := Lib.hid (fun v hb => kfrom_in g p k N hN2 (Da.pto k N j) hpl A v (HO3.out.later hb) ((HV.out.later HB3.out).later hb) ((HE.out.later HB3.out).later hb))
      rw [Da.pfrom_pto (k := k) hN2 hlt] at FR
      obtain ⟨P, hP⟩ : ∃ P, Da.pto k N j = P := ⟨_, rfl⟩
      rw [hP] at hcl hpl hbc hfz HS FR
      have hd5 : decide ((P : Int) < 0) = false := by simp
      have hd6 : decide ((P : Int) ≥ (N : Int)) = false := by simp; omega
      have hd6' : decide (N ≤ P) = false := by simp; omega
      have HAB := Lib.hid (hA.below hB (by rw [HH.out]; exact Nat.le_refl _) P (.bool true))
      have HAS := Lib.hid (hA.set P (.bool true))
      have HPL := Lib.hid hpl
      clear hA hB hP HX0 HX1
      go_wp2_with fail
      refine (FR.out _ HAB.out).mono ?_
      rintro e W5 ⟨rfl, hb5⟩
      have HA5 := Lib.hid (HAS.out.later hb5 HAS.out.lt)
      have HB5 := Lib.hid (Kit.step HAB.out hb5)
      clear hb5
      go_wp2_with fail
      exact ⟨⟨j + 1, by omega, by go_num, by rw [← HS.out]; exact HA5.out, HB5.out⟩, by simp [intOf]; omega⟩
    · obtain rfl : j = N := by omega
      have HB := Lib.hid (Kit.step HB3.out hB)
      clear hA hB HX0 HX1
      go_wp2_with fail
      go_ret
      exact ⟨by simp, HB.out⟩
end Go.Proofs.YtgpojlblhaphnaaDoor
