/- The document's sizes of words; its parity of what is too short or too long; the value that stands for a place. The code's sizes of words, and its values that stand for places. -/
import Derived.Test.YtkkmgjjafbjnjaaDoorGf
import Derived.Test.YtkkmgjjafbjnjaaDoorRf
import Derived.Test.YtkkmgjjafbjnjaaDoorSl
import Derived.Test.YtkkmgjjafbjnjaaDoorKit
import Derived.Test.YtkkmgjjafbjnjaaDoorFw
import Derived.Lib.Hide
import Derived.Test.YtkkmgjjafbjnjaaDoorTm
namespace Go.Proofs.YtkkmgjjafbjnjaaDoor
open Go.RowKit
set_option linter.unusedVariables false
set_option linter.unusedSimpArgs false
theorem sized_any (n : Int) (w : World) : Calls Tryd.prog 17 #[.int .i64 n] w fun e w' => e = .returned (.bool (decide (33 ≤ n ∧ n ≤ 255))) ∧ w' = w := by
  by_cases h1 : 33 ≤ n
  · have hd1 : decide (33 ≤ n) = true := decide_eq_true h1
    by_cases h2 : n ≤ 255
    · have hd2 : decide (n ≤ 255) = true := decide_eq_true h2
      have H : Hid (decide (33 ≤ n ∧ n ≤ 255) = true) := Lib.hid (decide_eq_true ⟨h1, h2⟩)
      clear h1 h2
      go_enter Tryd.func17, Tryd.ntmps17
      go_wp2
      go_ret
      exact ⟨by rw [H.out]; rfl, rfl⟩
    · have hd2 : decide (n ≤ 255) = false := decide_eq_false h2
      have H : Hid (decide (33 ≤ n ∧ n ≤ 255) = false) := Lib.hid (decide_eq_false fun h => h2 h.2)
      clear h1 h2
      go_enter Tryd.func17, Tryd.ntmps17
      go_wp2
      go_ret
      exact ⟨by rw [H.out]; rfl, rfl⟩
  · have hd1 : decide (33 ≤ n) = false := decide_eq_false h1
    have H : Hid (decide (33 ≤ n ∧ n ≤ 255) = false) := Lib.hid (decide_eq_false fun h => h1 h.1)
    clear h1
    go_enter Tryd.func17, Tryd.ntmps17
    go_wp2
    go_ret
    exact ⟨by rw [H.out]; rfl, rfl⟩
theorem rpar_size (m c : Nat) (o : Option Addr) (w : World) (h : m < 1 ∨ 223 < m) (hm : m ≤ 9223372036854775807) :
    Calls Tryd.prog 11 #[.slice o m c] w fun e w' => e = .returned (.tuple #[.slice none 0 0, .int .i64 8]) ∧ w' = w := by
  by_cases h1 : m < 1
  · have hd1 : decide ((m : Int) < 1) = true := decide_eq_true (by omega)
    clear h
    go_enter Tryd.func11, Tryd.ntmps11
    go_wp2
    go_ret2
    exact ⟨rfl, rfl⟩
  · have hd1 : decide ((m : Int) < 1) = false := decide_eq_false (by omega)
    have hd2 : decide ((223 : Int) < (m : Int)) = true := decide_eq_true (by omega)
    clear h
    go_enter Tryd.func11, Tryd.ntmps11
    go_wp2
    go_ret2
    exact ⟨rfl, rfl⟩
def PwAt (a n : Nat) (m out : Value) : Prop := ∃ k : Nat, k ≤ n ∧ m = .int .i64 (n - k : Nat) ∧ out = .int .u8 (Gf.pw a k : Nat)
end Go.Proofs.YtkkmgjjafbjnjaaDoor
namespace Go.Proofs.YtkkmgjjafbjnjaaDoor
open Go.RowKit
set_option linter.unusedVariables false
set_option linter.unusedSimpArgs false
theorem fits_any (n : Int) (w : World) : Calls Tryd.prog 34 #[.int .i64 n] w fun e w' => e = .returned (.bool (decide (33 ≤ n ∧ n ≤ 255))) ∧ w' = w := by
  by_cases h1 : 32 < n
  · have hd1 : decide (32 < n) = true := decide_eq_true h1
    by_cases h2 : n ≤ 255
    · have hd2 : decide (n ≤ 255) = true := decide_eq_true h2
      have H : Hid (decide (33 ≤ n ∧ n ≤ 255) = true) := Lib.hid (decide_eq_true ⟨h1, h2⟩)
      clear h1 h2
      go_enter Tryd.func34, Tryd.ntmps34
      go_wp2
      go_ret
      exact ⟨by rw [H.out]; rfl, rfl⟩
    · have hd2 : decide (n ≤ 255) = false := decide_eq_false h2
      have H : Hid (decide (33 ≤ n ∧ n ≤ 255) = false) := Lib.hid (decide_eq_false fun h => h2 h.2)
      clear h1 h2
      go_enter Tryd.func34, Tryd.ntmps34
      go_wp2
      go_ret
      exact ⟨by rw [H.out]; rfl, rfl⟩
  · have hd1 : decide (32 < n) = false := decide_eq_false h1
    have H : Hid (decide (33 ≤ n ∧ n ≤ 255) = false) := Lib.hid (decide_eq_false fun h => h1 h.1)
    clear h1
    go_enter Tryd.func34, Tryd.ntmps34
    go_wp2
    go_ret
    exact ⟨by rw [H.out]; rfl, rfl⟩
/-- the value that stands for a place, or nought -/
def pwv (n p : Int) : UInt8 := if 33 ≤ n ∧ n ≤ 255 ∧ 0 ≤ p ∧ p < n then Gf.al (n - 1 - p).toNat else 0
theorem fits_true (n : Int) (h : 33 ≤ n ∧ n ≤ 255) (w : World) : Calls Tryd.prog 34 #[.int .i64 n] w fun e w' => e = .returned (.bool true) ∧ w' = w := by
  have := fits_any n w
  rwa [decide_eq_true h] at this
theorem fits_false (n : Int) (h : ¬ (33 ≤ n ∧ n ≤ 255)) (w : World) : Calls Tryd.prog 34 #[.int .i64 n] w fun e w' => e = .returned (.bool false) ∧ w' = w := by
  have := fits_any n w
  rwa [decide_eq_false h] at this
end Go.Proofs.YtkkmgjjafbjnjaaDoor
