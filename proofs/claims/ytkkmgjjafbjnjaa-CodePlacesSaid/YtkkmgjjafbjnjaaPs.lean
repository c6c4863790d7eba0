/- The document's sizes of words; its parity of what is too short or too long; the value that stands for a place. -/
import Derived.Test.YtkkmgjjafbjnjaaCw
import Derived.Test.YtkkmgjjafbjnjaaRf
import Derived.Test.YtkkmgjjafbjnjaaSl
import Derived.Test.YtkkmgjjafbjnjaaKit
import Derived.Test.YtkkmgjjafbjnjaaRfMul
import Derived.Lib.Hide
namespace Go.Proofs.Ytkkmgjjafbjnjaa
open Go.RowKit
set_option linter.unusedVariables false
set_option linter.unusedSimpArgs false
theorem sized_any (n : Int) (w : World) : Calls Try.prog 5 #[.int .i64 n] w fun e w' => e = .returned (.bool (decide (33 ≤ n ∧ n ≤ 255))) ∧ w' = w := by
  by_cases h1 : 33 ≤ n
  · have hd1 : decide (33 ≤ n) = true := decide_eq_true h1
    by_cases h2 : n ≤ 255
    · have hd2 : decide (n ≤ 255) = true := decide_eq_true h2
      have H : Hid (decide (33 ≤ n ∧ n ≤ 255) = true) := Lib.hid (decide_eq_true ⟨h1, h2⟩)
      clear h1 h2
      go_enter Try.func5, Try.ntmps5
      go_wp2
      go_ret
      exact ⟨by rw [H.out]; rfl, rfl⟩
    · have hd2 : decide (n ≤ 255) = false := decide_eq_false h2
      have H : Hid (decide (33 ≤ n ∧ n ≤ 255) = false) := Lib.hid (decide_eq_false fun h => h2 h.2)
      clear h1 h2
      go_enter Try.func5, Try.ntmps5
      go_wp2
      go_ret
      exact ⟨by rw [H.out]; rfl, rfl⟩
  · have hd1 : decide (33 ≤ n) = false := decide_eq_false h1
    have H : Hid (decide (33 ≤ n ∧ n ≤ 255) = false) := Lib.hid (decide_eq_false fun h => h1 h.1)
    clear h1
    go_enter Try.func5, Try.ntmps5
    go_wp2
    go_ret
    exact ⟨by rw [H.out]; rfl, rfl⟩
def PwAt (a n : Nat) (m out : Value) : Prop := ∃ k : Nat, k ≤ n ∧ m = .int .i64 (n - k : Nat) ∧ out = .int .u8 (Gf.pw a k : Nat)
theorem power_any (a n : Nat) (ha : a < 256) (hn : n ≤ 9223372036854775807) (w : World) :
    Calls Try.prog 10 #[.int .u8 (a : Int), .int .i64 (n : Int)] w fun e w' => e = .returned (.int .u8 (Gf.pw a n : Nat)) ∧ w = w' := by
  go_enter Try.func10, Try.ntmps10
  go_wp2
  go_loop [1, 5] (fun m out => PwAt a n m out) (fun m _ => (intOf m).toNat)
  case atStart => exact ⟨0, Nat.zero_le _, rfl, rfl⟩
  case round =>
    obtain ⟨k, hk, rfl, rfl⟩ := hrel
    have hp := Gf.pw_lt a k
    by_cases h : k = n
    · subst h
      have h1 : ((k - k : Nat) : Int) = 0 := by omega
      rw [h1]
      go_wp2
      go_ret
      exact ⟨rfl, rfl⟩
    · obtain ⟨d, hd⟩ : ∃ d, n - k = d + 1 := ⟨n - k - 1, by omega⟩
      have HD : Hid (n - (k + 1) = d) := Lib.hid (by omega)
      have hd2 : d + 1 ≤ 9223372036854775807 := by omega
      have HM := Lib.hid hd
      rw [hd]
      clear hd h
      go_wp2_with (go_at_call 14; refine (rmul_nat (Gf.pw a k) a hp ha _).mono ?_; rintro e w' ⟨rfl, rfl⟩)
      go_round
      case rel => exact ⟨k + 1, by have := HM.out; omega, by rw [HD.out], rfl⟩
      case measure => simp [intOf]
theorem rplace_any (n i : Nat) (h : i < n) (hn : n ≤ 255) (w : World) :
    Calls Try.prog 6 #[.int .i64 (n : Int), .int .i64 (i : Int)] w fun e w' => e = .returned (.int .u8 ((Gf.al (n - 1 - i)).toNat : Int)) ∧ w' = w := by
  have e : (n : Int) - 1 - (i : Int) = ((n - 1 - i : Nat) : Int) := by omega
  have C : Hid (Calls Try.prog 10 #[.int .u8 2, .int .i64 ((n : Int) - 1 - (i : Int))] w fun e w' => e = .returned (.int .u8 ((Gf.al (n - 1 - i)).toNat : Int)) ∧ w' = w) := Lib.hid (by
    rw [e]
    refine (power_any 2 (n - 1 - i) (by decide) (by omega) w).mono ?_
    rintro e w' ⟨rfl, rfl⟩
    exact ⟨by rw [Gf.al_nat, Gf.pw_two], rfl⟩)
  clear e
  go_enter Try.func6, Try.ntmps6
  go_wp2_with fail
  refine C.out.mono ?_; rintro e w' ⟨rfl, rfl⟩
  go_wp2_with fail
  go_ret
  exact ⟨rfl, rfl⟩
end Go.Proofs.Ytkkmgjjafbjnjaa
