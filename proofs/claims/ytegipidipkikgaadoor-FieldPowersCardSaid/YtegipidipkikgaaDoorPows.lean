/- The walk of FieldPowers. -/
import Derived.Test.YtegipidipkikgaaDoorRfPow
import Derived.Test.YtegipidipkikgaaDoorTab
import Derived.Test.YtegipidipkikgaaDoorErr
namespace Go.Proofs.YtegipidipkikgaaDoor
open Go.RowKit
set_option linter.unusedVariables false
set_option maxRecDepth 100000 in
set_option maxHeartbeats 2000000 in
theorem powers_walk (a : Nat) (n : Int) (ha : a < 256) (E : Nat → Addr) (w : World) (hE : Er.Errs w E) :
    Calls Tryd.prog 4 #[.int .u8 (a : Int), .int .i64 n] w fun e w' => e = .returned (.bool true) ∧ Below w.heap.size w w' := by
  have hm : 0 ≤ n % 255 ∧ n % 255 < 255 := by omega
  obtain ⟨L, hL⟩ := Int.eq_ofNat_of_zero_le hm.1
  have r1 : ∀ w, Calls Tryd.prog 22 #[.int .i64 n] w fun e w' => e = .returned (.int .i64 L) ∧ w = w' := by
    intro w; have h := rest_any n w; rw [hL] at h; exact h
  have p1 : ∀ w, Calls Tryd.prog 21 #[.int .u8 2, .int .i64 L] w fun e w' => e = .returned (.int .u8 (Gf.ex L : Nat)) ∧ w = w' := by
    intro w; rw [← Gf.pw_two]; exact power_nat 2 L (by decide) (by omega) w
  have e1 : ∀ w, Calls Tryd.prog 20 #[.int .i64 n] w fun e w' => e = .returned (.int .u8 (Gf.ex L : Nat)) ∧ w = w' := by
    intro w; have h := exp_any n w; rw [hL] at h; exact h
  have t1 : ∀ B C w, TabAt w B C → Calls Tryd.prog 25 #[.pointer (some ⟨B, 0, none⟩), .int .i64 n] w fun e w' => e = .returned (.int .u8 (Gf.ex L : Nat)) ∧ ∃ n, w' = w.drewN n := by
    intro B C w h; have h := texp_any n B C w h; rw [hL] at h; exact h
  have R1 := Lib.hid r1
  have P1 := Lib.hid p1
  have E1 := Lib.hid e1
  have T1 := Lib.hid t1
  have HE := Lib.hid hE
  clear hm hL r1 p1 e1 t1 hE
  go_enter Tryd.func4, Tryd.ntmps4
  go_wp2_with fail
  refine (alive_any _).mono ?_; rintro e w1 ⟨rfl, hg1, hs1⟩
  have HE1 := Lib.hid (HE.out.later hg1)
  have HG1 := Lib.hid hg1
  clear hg1
  go_wp2_with fail
  refine (make_any _).mono ?_; rintro e w2 ⟨n, C, hC, rfl, hw2⟩
  have HT2 : Hid (TabAt w2 w1.heap.size C) := Lib.hid (by rw [hw2]; exact TabAt.made hC)
  have HB2 : Hid (Below w1.heap.size w1 w2) := Lib.hid (by rw [hw2]; exact made_below)
  have HE2 := Lib.hid (HE1.out.later HB2.out)
  have HG2 := Lib.hid (Kit.step HG1.out HB2.out)
  clear hw2 hC
  go_wp2_with fail
  by_cases h0 : a = 0
  · have ht : ((a : Int) == 0) = true := by simpa using h0
    have H0 := Lib.hid h0
    clear h0
    refine (log_zero a H0.out _ _ HE2.out.c19).mono ?_; rintro e w3 ⟨rfl, n3, hw3⟩
    have HB3 : Hid (Below w2.heap.size w2 w3) := Lib.hid (by rw [hw3]; exact Kit.dn' _ _)
    have HT3 := Lib.hid (HT2.out.later HB3.out)
    have HE3 := Lib.hid (HE2.out.later HB3.out)
    have HG3 := Lib.hid (Kit.step HG2.out HB3.out)
    clear hw3
    go_wp2_with fail
    refine (Er.num_of E 19 (by decide) _ HE3.out).mono ?_; rintro e w4 ⟨rfl, hb4⟩
    have HT4 := Lib.hid (HT3.out.later hb4)
    have HG4 := Lib.hid (Kit.step HG3.out hb4)
    clear hb4
    go_wp2_with fail
    refine (tlog_zero a H0.out _ C _ HT4.out).mono ?_; rintro e w' ⟨rfl, rfl⟩
    go_wp2_with fail
    refine (R1.out _).mono ?_; rintro e w' ⟨rfl, rfl⟩
    go_wp2_with fail
    refine (P1.out _).mono ?_; rintro e w' ⟨rfl, rfl⟩
    go_wp2_with fail
    refine (pow_nat a _ ha _).mono ?_; rintro e w' ⟨rfl, rfl⟩
    go_wp2_with fail
    refine (rpow_nat a _ ha _).mono ?_; rintro e w' ⟨rfl, rfl⟩
    go_wp2_with fail
    refine (E1.out _).mono ?_; rintro e w' ⟨rfl, rfl⟩
    go_wp2_with fail
    refine (T1.out _ C _ HT4.out).mono ?_; rintro e w5 ⟨rfl, n5, rfl⟩
    go_wp2_with fail
    go_ret
    exact ⟨rfl, Kit.dn HG4.out _⟩
  · have ht : ((a : Int) == 0) = false := by simpa using h0
    have el : ∀ w, Calls Tryd.prog 20 #[.int .i64 (Gf.lg a : Nat)] w fun e w' => e = .returned (.int .u8 (a : Int)) ∧ w = w' := by
      intro w
      have h := exp_any (Gf.lg a : Nat) w
      have h2 := Gf.ex_lg a h0 ha
      rw [show (((Gf.lg a : Nat) : Int) % 255).toNat = Gf.lg a by omega, h2.1] at h
      exact h
    have EL := Lib.hid el
    have H0 := Lib.hid h0
    clear h0 el
    refine (log_pos a H0.out ha _).mono ?_; rintro e w' ⟨rfl, rfl⟩
    go_wp2_with fail
    refine (rlog_nat a H0.out ha _).mono ?_; rintro e w' ⟨rfl, rfl⟩
    go_wp2_with fail
    refine (tlog_pos a H0.out ha _ C _ HT2.out).mono ?_; rintro e w' ⟨rfl, rfl⟩
    go_wp2_with fail
    refine (EL.out _).mono ?_; rintro e w' ⟨rfl, rfl⟩
    go_wp2_with fail
    refine (R1.out _).mono ?_; rintro e w' ⟨rfl, rfl⟩
    go_wp2_with fail
    refine (P1.out _).mono ?_; rintro e w' ⟨rfl, rfl⟩
    go_wp2_with fail
    refine (pow_nat a _ ha _).mono ?_; rintro e w' ⟨rfl, rfl⟩
    go_wp2_with fail
    refine (rpow_nat a _ ha _).mono ?_; rintro e w' ⟨rfl, rfl⟩
    go_wp2_with fail
    refine (E1.out _).mono ?_; rintro e w' ⟨rfl, rfl⟩
    go_wp2_with fail
    refine (T1.out _ C _ HT2.out).mono ?_; rintro e w5 ⟨rfl, n5, rfl⟩
    go_wp2_with fail
    go_ret
    exact ⟨rfl, Kit.dn HG2.out _⟩
end Go.Proofs.YtegipidipkikgaaDoor
