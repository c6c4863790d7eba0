/- The document's sizes of words; its parity of what is too short or too long; the value that stands for a place. The code's sizes of words, and its values that stand for places. -/
import Derived.Test.YtoefhhkemljjdaaDoorGf
import Derived.Test.YtoefhhkemljjdaaDoorRf
import Derived.Test.YtoefhhkemljjdaaDoorSl
import Derived.Test.YtoefhhkemljjdaaDoorKit
import Derived.Test.YtoefhhkemljjdaaDoorFw
import Derived.Lib.Hide
import Derived.Test.YtoefhhkemljjdaaDoorTm
namespace Go.Proofs.YtoefhhkemljjdaaDoor
open Go.RowKit
set_option linter.unusedVariables false
set_option linter.unusedSimpArgs false
theorem sized_any (n : Int) (w : World) : Calls Tryd.prog 38 #[.int .i64 n] w fun e w' => e = .returned (.bool (decide (33 ≤ n ∧ n ≤ 255))) ∧ w' = w := by
  by_cases h1 : 33 ≤ n
  · have hd1 : decide (33 ≤ n) = true := decide_eq_true h1
    by_cases h2 : n ≤ 255
    · have hd2 : decide (n ≤ 255) = true := decide_eq_true h2
      have H : Hid (decide (33 ≤ n ∧ n ≤ 255) = true) := Lib.hid (decide_eq_true ⟨h1, h2⟩)
      clear h1 h2
      go_enter Tryd.func38, Tryd.ntmps38
      go_wp2
      go_ret
      exact ⟨by rw [H.out]; rfl, rfl⟩
    · have hd2 : decide (n ≤ 255) = false := decide_eq_false h2
      have H : Hid (decide (33 ≤ n ∧ n ≤ 255) = false) := Lib.hid (decide_eq_false fun h => h2 h.2)
      clear h1 h2
      go_enter Tryd.func38, Tryd.ntmps38
      go_wp2
      go_ret
      exact ⟨by rw [H.out]; rfl, rfl⟩
  · have hd1 : decide (33 ≤ n) = false := decide_eq_false h1
    have H : Hid (decide (33 ≤ n ∧ n ≤ 255) = false) := Lib.hid (decide_eq_false fun h => h1 h.1)
    clear h1
    go_enter Tryd.func38, Tryd.ntmps38
    go_wp2
    go_ret
    exact ⟨by rw [H.out]; rfl, rfl⟩
def PwAt (a n : Nat) (m out : Value) : Prop := ∃ k : Nat, k ≤ n ∧ m = .int .i64 (n - k : Nat) ∧ out = .int .u8 (Gf.pw a k : Nat)
theorem power_any (a n : Nat) (ha : a < 256) (hn : n ≤ 9223372036854775807) (w : World) :
    Calls Tryd.prog 51 #[.int .u8 (a : Int), .int .i64 (n : Int)] w fun e w' => e = .returned (.int .u8 (Gf.pw a n : Nat)) ∧ w = w' := by
  go_enter Tryd.func51, Tryd.ntmps51
  go_wp2
  go_loop [1, 5] (fun m out => PwAt a n m out) (fun m _ => (intOf m).toNat)
  case atStart => exact ⟨0, Nat.zero_le _, rfl, rfl⟩
  case round =>
    obtain ⟨k, hk, rfl, rfl⟩ := hrel
    have hp := Gf.pw_lt a k
    by_cases h : k = n
    · subst h
      have h1 : ((k - k : Nat) : Int) = 0 := by omega
      rw [h1]
      go_wp2
      go_ret
      exact ⟨rfl, rfl⟩
    · obtain ⟨d, hd⟩ : ∃ d, n - k = d + 1 := ⟨n - k - 1, by omega⟩
      have HD : Hid (n - (k + 1) = d) := Lib.hid (by omega)
      have hd2 : d + 1 ≤ 9223372036854775807 := by omega
      have HM := Lib.hid hd
      rw [hd]
      clear hd h
      go_wp2_with (go_at_call 43; refine (rmul_nat (Gf.pw a k) a hp ha _).mono ?_; rintro e w' ⟨rfl, rfl⟩)
      go_round
      case rel => exact ⟨k + 1, by have := HM.out; omega, by rw [HD.out], rfl⟩
      case measure => simp [intOf]
theorem rplace_any (n i : Nat) (h : i < n) (hn : n ≤ 255) (w : World) :
    Calls Tryd.prog 27 #[.int .i64 (n : Int), .int .i64 (i : Int)] w fun e w' => e = .returned (.int .u8 ((Gf.al (n - 1 - i)).toNat : Int)) ∧ w' = w := by
  have e : (n : Int) - 1 - (i : Int) = ((n - 1 - i : Nat) : Int) := by omega
  have C : Hid (Calls Tryd.prog 51 #[.int .u8 2, .int .i64 ((n : Int) - 1 - (i : Int))] w fun e w' => e = .returned (.int .u8 ((Gf.al (n - 1 - i)).toNat : Int)) ∧ w' = w) := Lib.hid (by
    rw [e]
    refine (power_any 2 (n - 1 - i) (by decide) (by omega) w).mono ?_
    rintro e w' ⟨rfl, rfl⟩
    exact ⟨by rw [Gf.al_nat, Gf.pw_two], rfl⟩)
  clear e
  go_enter Tryd.func27, Tryd.ntmps27
  go_wp2_with fail
  refine C.out.mono ?_; rintro e w' ⟨rfl, rfl⟩
  go_wp2_with fail
  go_ret
  exact ⟨rfl, rfl⟩
end Go.Proofs.YtoefhhkemljjdaaDoor
namespace Go.Proofs.YtoefhhkemljjdaaDoor
open Go.RowKit
set_option linter.unusedVariables false
set_option linter.unusedSimpArgs false
theorem fits_any (n : Int) (w : World) : Calls Tryd.prog 47 #[.int .i64 n] w fun e w' => e = .returned (.bool (decide (33 ≤ n ∧ n ≤ 255))) ∧ w' = w := by
  by_cases h1 : 32 < n
  · have hd1 : decide (32 < n) = true := decide_eq_true h1
    by_cases h2 : n ≤ 255
    · have hd2 : decide (n ≤ 255) = true := decide_eq_true h2
      have H : Hid (decide (33 ≤ n ∧ n ≤ 255) = true) := Lib.hid (decide_eq_true ⟨h1, h2⟩)
      clear h1 h2
      go_enter Tryd.func47, Tryd.ntmps47
      go_wp2
      go_ret
      exact ⟨by rw [H.out]; rfl, rfl⟩
    · have hd2 : decide (n ≤ 255) = false := decide_eq_false h2
      have H : Hid (decide (33 ≤ n ∧ n ≤ 255) = false) := Lib.hid (decide_eq_false fun h => h2 h.2)
      clear h1 h2
      go_enter Tryd.func47, Tryd.ntmps47
      go_wp2
      go_ret
      exact ⟨by rw [H.out]; rfl, rfl⟩
  · have hd1 : decide (32 < n) = false := decide_eq_false h1
    have H : Hid (decide (33 ≤ n ∧ n ≤ 255) = false) := Lib.hid (decide_eq_false fun h => h1 h.1)
    clear h1
    go_enter Tryd.func47, Tryd.ntmps47
    go_wp2
    go_ret
    exact ⟨by rw [H.out]; rfl, rfl⟩
/-- the value that stands for a place, or nought -/
def pwv (n p : Int) : UInt8 := if 33 ≤ n ∧ n ≤ 255 ∧ 0 ≤ p ∧ p < n then Gf.al (n - 1 - p).toNat else 0
theorem fits_true (n : Int) (h : 33 ≤ n ∧ n ≤ 255) (w : World) : Calls Tryd.prog 47 #[.int .i64 n] w fun e w' => e = .returned (.bool true) ∧ w' = w := by
  have := fits_any n w
  rwa [decide_eq_true h] at this
theorem fits_false (n : Int) (h : ¬ (33 ≤ n ∧ n ≤ 255)) (w : World) : Calls Tryd.prog 47 #[.int .i64 n] w fun e w' => e = .returned (.bool false) ∧ w' = w := by
  have := fits_any n w
  rwa [decide_eq_false h] at this
set_option maxRecDepth 100000 in
theorem cpower_any (n p : Int) (w : World) : Calls Tryd.prog 36 #[.int .i64 n, .int .i64 p] w fun e w' => e = .returned (.int .u8 ((pwv n p).toNat : Int)) ∧ w' = w := by
  by_cases h1 : 33 ≤ n ∧ n ≤ 255
  · have C : Hid (∀ w, Calls Tryd.prog 47 #[.int .i64 n] w fun e w' => e = .returned (.bool true) ∧ w' = w) := Lib.hid (fits_true n h1)
    by_cases h2 : p < 0
    · have hd2 : decide (p < 0) = true := decide_eq_true h2
      have H : Hid (pwv n p = 0) := Lib.hid (if_neg (by omega))
      clear h1 h2
      go_enter Tryd.func36, Tryd.ntmps36
      go_wp2_with fail
      refine (C.out _).mono ?_; rintro e w' ⟨rfl, rfl⟩
      go_wp2_with fail
      go_ret
      exact ⟨by rw [H.out]; rfl, rfl⟩
    · have hd2 : decide (p < 0) = false := decide_eq_false h2
      by_cases h3 : n ≤ p
      · have hd3 : decide (n ≤ p) = true := decide_eq_true h3
        have H : Hid (pwv n p = 0) := Lib.hid (if_neg (by omega))
        clear h1 h2 h3
        go_enter Tryd.func36, Tryd.ntmps36
        go_wp2_with fail
        refine (C.out _).mono ?_; rintro e w' ⟨rfl, rfl⟩
        go_wp2_with fail
        go_ret
        exact ⟨by rw [H.out]; rfl, rfl⟩
      · have hd3 : decide (n ≤ p) = false := decide_eq_false h3
        have H : Hid (pwv n p = Gf.al (n - 1 - p).toNat) := Lib.hid (if_pos (by omega))
        have E : Hid (∀ w, Calls Tryd.prog 56 #[.int .i64 (n - 1 - p)] w fun e w' => e = .returned (.int .u8 ((pwv n p).toNat : Int)) ∧ w = w') := Lib.hid fun w => by
          have h := exp_any (n - 1 - p) w
          rw [show ((n - 1 - p) % 255).toNat = (n - 1 - p).toNat by omega, ← Gf.al_nat, ← H.out] at h
          exact h
        have hp0 : 0 ≤ p := by omega
        have hp1 : p < n := by omega
        have hn1 : 33 ≤ n := h1.1
        have hn2 : n ≤ 255 := h1.2
        clear h1 h2 h3
        go_enter Tryd.func36, Tryd.ntmps36
        go_wp2_with fail
        refine (C.out _).mono ?_; rintro e w' ⟨rfl, rfl⟩
        go_wp2_with fail
        refine (E.out _).mono ?_; rintro e w' ⟨rfl, rfl⟩
        go_wp2_with fail
        go_ret
        exact ⟨rfl, rfl⟩
  · have C : Hid (∀ w, Calls Tryd.prog 47 #[.int .i64 n] w fun e w' => e = .returned (.bool false) ∧ w' = w) := Lib.hid (fits_false n h1)
    have H : Hid (pwv n p = 0) := Lib.hid (if_neg (by omega))
    clear h1
    go_enter Tryd.func36, Tryd.ntmps36
    go_wp2_with fail
    refine (C.out _).mono ?_; rintro e w' ⟨rfl, rfl⟩
    go_wp2_with fail
    go_ret
    exact ⟨by rw [H.out]; rfl, rfl⟩
end Go.Proofs.YtoefhhkemljjdaaDoor
