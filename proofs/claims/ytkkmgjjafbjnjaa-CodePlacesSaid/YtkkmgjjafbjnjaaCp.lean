/- The code's sizes of words, and its values that stand for places. -/
import Derived.Test.YtkkmgjjafbjnjaaPs
import Derived.Test.YtkkmgjjafbjnjaaFx
import Derived.Test.YtkkmgjjafbjnjaaAs
namespace Go.Proofs.Ytkkmgjjafbjnjaa
open Go.RowKit
set_option linter.unusedVariables false
set_option linter.unusedSimpArgs false
theorem fits_any (n : Int) (w : World) : Calls Try.prog 11 #[.int .i64 n] w fun e w' => e = .returned (.bool (decide (33 ≤ n ∧ n ≤ 255))) ∧ w' = w := by
  by_cases h1 : 32 < n
  · have hd1 : decide (32 < n) = true := decide_eq_true h1
    by_cases h2 : n ≤ 255
    · have hd2 : decide (n ≤ 255) = true := decide_eq_true h2
      have H : Hid (decide (33 ≤ n ∧ n ≤ 255) = true) := Lib.hid (decide_eq_true ⟨h1, h2⟩)
      clear h1 h2
      go_enter Try.func11, Try.ntmps11
      go_wp2
      go_ret
      exact ⟨by rw [H.out]; rfl, rfl⟩
    · have hd2 : decide (n ≤ 255) = false := decide_eq_false h2
      have H : Hid (decide (33 ≤ n ∧ n ≤ 255) = false) := Lib.hid (decide_eq_false fun h => h2 h.2)
      clear h1 h2
      go_enter Try.func11, Try.ntmps11
      go_wp2
      go_ret
      exact ⟨by rw [H.out]; rfl, rfl⟩
  · have hd1 : decide (32 < n) = false := decide_eq_false h1
    have H : Hid (decide (33 ≤ n ∧ n ≤ 255) = false) := Lib.hid (decide_eq_false fun h => h1 h.1)
    clear h1
    go_enter Try.func11, Try.ntmps11
    go_wp2
    go_ret
    exact ⟨by rw [H.out]; rfl, rfl⟩
/-- the value that stands for a place, or nought -/
def pwv (n p : Int) : UInt8 := if 33 ≤ n ∧ n ≤ 255 ∧ 0 ≤ p ∧ p < n then Gf.al (n - 1 - p).toNat else 0
theorem fits_true (n : Int) (h : 33 ≤ n ∧ n ≤ 255) (w : World) : Calls Try.prog 11 #[.int .i64 n] w fun e w' => e = .returned (.bool true) ∧ w' = w := by
  have := fits_any n w
  rwa [decide_eq_true h] at this
theorem fits_false (n : Int) (h : ¬ (33 ≤ n ∧ n ≤ 255)) (w : World) : Calls Try.prog 11 #[.int .i64 n] w fun e w' => e = .returned (.bool false) ∧ w' = w := by
  have := fits_any n w
  rwa [decide_eq_false h] at this
set_option maxRecDepth 100000 in
theorem cpower_any (n p : Int) (w : World) : Calls Try.prog 7 #[.int .i64 n, .int .i64 p] w fun e w' => e = .returned (.int .u8 ((pwv n p).toNat : Int)) ∧ w' = w := by
  by_cases h1 : 33 ≤ n ∧ n ≤ 255
  · have C : Hid (∀ w, Calls Try.prog 11 #[.int .i64 n] w fun e w' => e = .returned (.bool true) ∧ w' = w) := Lib.hid (fits_true n h1)
    by_cases h2 : p < 0
    · have hd2 : decide (p < 0) = true := decide_eq_true h2
      have H : Hid (pwv n p = 0) := Lib.hid (if_neg (by omega))
      clear h1 h2
      go_enter Try.func7, Try.ntmps7
      go_wp2_with fail
      refine (C.out _).mono ?_; rintro e w' ⟨rfl, rfl⟩
      go_wp2_with fail
      go_ret
      exact ⟨by rw [H.out]; rfl, rfl⟩
    · have hd2 : decide (p < 0) = false := decide_eq_false h2
      by_cases h3 : n ≤ p
      · have hd3 : decide (n ≤ p) = true := decide_eq_true h3
        have H : Hid (pwv n p = 0) := Lib.hid (if_neg (by omega))
        clear h1 h2 h3
        go_enter Try.func7, Try.ntmps7
        go_wp2_with fail
        refine (C.out _).mono ?_; rintro e w' ⟨rfl, rfl⟩
        go_wp2_with fail
        go_ret
        exact ⟨by rw [H.out]; rfl, rfl⟩
      · have hd3 : decide (n ≤ p) = false := decide_eq_false h3
        have H : Hid (pwv n p = Gf.al (n - 1 - p).toNat) := Lib.hid (if_pos (by omega))
        have E : Hid (∀ w, Calls Try.prog 12 #[.int .i64 (n - 1 - p)] w fun e w' => e = .returned (.int .u8 ((pwv n p).toNat : Int)) ∧ w = w') := Lib.hid fun w => by
          have h := exp_any (n - 1 - p) w
          rw [show ((n - 1 - p) % 255).toNat = (n - 1 - p).toNat by omega, ← Gf.al_nat, ← H.out] at h
          exact h
        have hp0 : 0 ≤ p := by omega
        have hp1 : p < n := by omega
        have hn1 : 33 ≤ n := h1.1
        have hn2 : n ≤ 255 := h1.2
        clear h1 h2 h3
        go_enter Try.func7, Try.ntmps7
        go_wp2_with fail
        refine (C.out _).mono ?_; rintro e w' ⟨rfl, rfl⟩
        go_wp2_with fail
        refine (E.out _).mono ?_; rintro e w' ⟨rfl, rfl⟩
        go_wp2_with fail
        go_ret
        exact ⟨rfl, rfl⟩
  · have C : Hid (∀ w, Calls Try.prog 11 #[.int .i64 n] w fun e w' => e = .returned (.bool false) ∧ w' = w) := Lib.hid (fits_false n h1)
    have H : Hid (pwv n p = 0) := Lib.hid (if_neg (by omega))
    clear h1
    go_enter Try.func7, Try.ntmps7
    go_wp2_with fail
    refine (C.out _).mono ?_; rintro e w' ⟨rfl, rfl⟩
    go_wp2_with fail
    go_ret
    exact ⟨by rw [H.out]; rfl, rfl⟩
end Go.Proofs.Ytkkmgjjafbjnjaa
