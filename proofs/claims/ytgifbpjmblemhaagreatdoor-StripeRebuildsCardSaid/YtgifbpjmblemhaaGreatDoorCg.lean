/- The code's generator: the product of all roots is the document's. The document's sizes of words; its parity of what is too short or too long; the value that stands for a place. The code's sizes of words, and its values that stand for places. -/
import Derived.Test.YtgifbpjmblemhaaGreatDoorGn
import Derived.Test.YtgifbpjmblemhaaGreatDoorMu
import Derived.Test.YtgifbpjmblemhaaGreatDoorFwm
import Derived.Test.YtgifbpjmblemhaaGreatDoorDm
import Derived.Test.YtgifbpjmblemhaaGreatDoorGf
import Derived.Test.YtgifbpjmblemhaaGreatDoorRf
import Derived.Test.YtgifbpjmblemhaaGreatDoorSl
import Derived.Test.YtgifbpjmblemhaaGreatDoorKit
import Derived.Lib.Hide
import Derived.Test.YtgifbpjmblemhaaGreatDoorTm
namespace Go.Proofs.YtgifbpjmblemhaaGreatDoor
open Go.RowKit
set_option linter.unusedVariables false
set_option linter.unusedSimpArgs false
/-- alpha's powers, so many -/
def alL (n : Nat) : List UInt8 := tab Gf.al n
theorem co_two (p : List UInt8) (r : UInt8) (m : Nat) : co (mulL p [r, 1]) m = Gf.gm (co p m) r ^^^ (if m = 0 then 0 else co p (m - 1)) := by
  rw [co_mulL']
  cases m with
  | zero =>
    rw [if_pos rfl]
    show 0 ^^^ Gf.gm (co p 0) r = _
    rw [UInt8.zero_xor, UInt8.xor_zero]
  | succ m =>
    rw [if_neg (by omega), Nat.add_sub_cancel]
    show (Gf.sm _ m ^^^ Gf.gm (co p m) (co [r, 1] (m + 1 - m))) ^^^ Gf.gm (co p (m + 1)) (co [r, 1] (m + 1 - (m + 1))) = _
    rw [show m + 1 - m = 1 by omega, Nat.sub_self, show co [r, 1] 1 = 1 from rfl, show co [r, 1] 0 = r from rfl, Gf.gm_one]
    rw [show Gf.sm (fun i => Gf.gm (co p i) (co [r, 1] (m + 1 - i))) m = 0 from Gf.sm_zero fun i hi => by
      rw [show co [r, 1] (m + 1 - i) = 0 from co_ge (by show 2 ≤ _; omega), Gf.gm_zero]]
    rw [UInt8.zero_xor, UInt8.xor_comm]
theorem prod_gen (z : List UInt8) (n k : Nat) (hz : ∀ j, j < n → co z j = Gf.al j) (h : k ≤ n) (m : Nat) : co (prodL (fun r => [r, 1]) z k) m = co (genL k) m := by
  induction k generalizing m with
  | zero => rfl
  | succ k ih =>
    rw [prodL, genL, co_two, co_nx, hz k (by omega), ih (by omega), ih (by omega)]
theorem tr_gen (k : Nat) : tr (genL k) = genL k := tr_of_top fun _ => by
  rw [genL_length, Nat.add_sub_cancel, gen_top]
  decide
theorem tr_prod : tr (prodL (fun r => [r, 1]) (alL 32) 32) = genL 32 := by
  rw [← tr_gen 32]
  exact tr_congr fun m => prod_gen (alL 32) 32 32 (fun j hj => co_tab _ _ _ hj) (Nat.le_refl _) m
def CgAt (w : World) (g : Nat) (i : Value) (wr : World) : Prop :=
  ∃ k : Nat, k ≤ 32 ∧ i = .int .i64 k ∧ (∃ ys : List UInt8, ys.length = 32 ∧ (∀ j, j < k → co ys j = Gf.al j) ∧ wr.heap[g]? = some (.cells (bytesV ys).toArray 70 (0, 0))) ∧ Below w.heap.size w wr
theorem row_typed {X : World} {A : Nat} {z : List UInt8} {T : TypeId} (h : X.heap[A]? = some (.cells (bytesV z).toArray T (0, 0))) (hm : z.length ≤ maxLen) : RowIs X (some ⟨A, 0, none⟩) (bytesV z) z.length :=
  ⟨by simp, hm, fun h => (by cases h), fun h0 => ⟨A, 0, rfl, (Array.getElem?_eq_some_iff.1 h).1, fun i v hv => by
    unfold World.cell?
    rw [h]
    show (bytesV z).toArray[0 + i]? = _
    rw [Nat.zero_add, List.getElem?_toArray]
    exact hv⟩⟩
end Go.Proofs.YtgifbpjmblemhaaGreatDoor
namespace Go.Proofs.YtgifbpjmblemhaaGreatDoor
open Go.RowKit
set_option linter.unusedVariables false
set_option linter.unusedSimpArgs false
theorem sized_any (n : Int) (w : World) : Calls Tryz.prog 42 #[.int .i64 n] w fun e w' => e = .returned (.bool (decide (33 ≤ n ∧ n ≤ 255))) ∧ w' = w := by
  by_cases h1 : 33 ≤ n
  · have hd1 : decide (33 ≤ n) = true := decide_eq_true h1
    by_cases h2 : n ≤ 255
    · have hd2 : decide (n ≤ 255) = true := decide_eq_true h2
      have H : Hid (decide (33 ≤ n ∧ n ≤ 255) = true) := Lib.hid (decide_eq_true ⟨h1, h2⟩)
      clear h1 h2
      go_enter Tryz.func42, Tryz.ntmps42
      go_wp2
      go_ret
      exact ⟨by rw [H.out]; rfl, rfl⟩
    · have hd2 : decide (n ≤ 255) = false := decide_eq_false h2
      have H : Hid (decide (33 ≤ n ∧ n ≤ 255) = false) := Lib.hid (decide_eq_false fun h => h2 h.2)
      clear h1 h2
      go_enter Tryz.func42, Tryz.ntmps42
      go_wp2
      go_ret
      exact ⟨by rw [H.out]; rfl, rfl⟩
  · have hd1 : decide (33 ≤ n) = false := decide_eq_false h1
    have H : Hid (decide (33 ≤ n ∧ n ≤ 255) = false) := Lib.hid (decide_eq_false fun h => h1 h.1)
    clear h1
    go_enter Tryz.func42, Tryz.ntmps42
    go_wp2
    go_ret
    exact ⟨by rw [H.out]; rfl, rfl⟩
def PwAt (a n : Nat) (m out : Value) : Prop := ∃ k : Nat, k ≤ n ∧ m = .int .i64 (n - k : Nat) ∧ out = .int .u8 (Gf.pw a k : Nat)
theorem power_any (a n : Nat) (ha : a < 256) (hn : n ≤ 9223372036854775807) (w : World) :
    Calls Tryz.prog 51 #[.int .u8 (a : Int), .int .i64 (n : Int)] w fun e w' => e = .returned (.int .u8 (Gf.pw a n : Nat)) ∧ w = w' := by
  go_enter Tryz.func51, Tryz.ntmps51
  go_wp2
  go_loop [1, 5] (fun m out => PwAt a n m out) (fun m _ => (intOf m).toNat)
  case atStart => exact ⟨0, Nat.zero_le _, rfl, rfl⟩
  case round =>
    obtain ⟨k, hk, rfl, rfl⟩ := hrel
    have hp := Gf.pw_lt a k
    by_cases h : k = n
    · subst h
      have h1 : ((k - k : Nat) : Int) = 0 := by omega
      rw [h1]
      go_wp2
      go_ret
      exact ⟨rfl, rfl⟩
    · obtain ⟨d, hd⟩ : ∃ d, n - k = d + 1 := ⟨n - k - 1, by omega⟩
      have HD : Hid (n - (k + 1) = d) := Lib.hid (by omega)
      have hd2 : d + 1 ≤ 9223372036854775807 := by omega
      have HM := Lib.hid hd
      rw [hd]
      clear hd h
      go_wp2_with (go_at_call 45; refine (rmul_nat (Gf.pw a k) a hp ha _).mono ?_; rintro e w' ⟨rfl, rfl⟩)
      go_round
      case rel => exact ⟨k + 1, by have := HM.out; omega, by rw [HD.out], rfl⟩
      case measure => simp [intOf]
theorem rplace_any (n i : Nat) (h : i < n) (hn : n ≤ 255) (w : World) :
    Calls Tryz.prog 44 #[.int .i64 (n : Int), .int .i64 (i : Int)] w fun e w' => e = .returned (.int .u8 ((Gf.al (n - 1 - i)).toNat : Int)) ∧ w' = w := by
  have e : (n : Int) - 1 - (i : Int) = ((n - 1 - i : Nat) : Int) := by omega
  have C : Hid (Calls Tryz.prog 51 #[.int .u8 2, .int .i64 ((n : Int) - 1 - (i : Int))] w fun e w' => e = .returned (.int .u8 ((Gf.al (n - 1 - i)).toNat : Int)) ∧ w' = w) := Lib.hid (by
    rw [e]
    refine (power_any 2 (n - 1 - i) (by decide) (by omega) w).mono ?_
    rintro e w' ⟨rfl, rfl⟩
    exact ⟨by rw [Gf.al_nat, Gf.pw_two], rfl⟩)
  clear e
  go_enter Tryz.func44, Tryz.ntmps44
  go_wp2_with fail
  refine C.out.mono ?_; rintro e w' ⟨rfl, rfl⟩
  go_wp2_with fail
  go_ret
  exact ⟨rfl, rfl⟩
end Go.Proofs.YtgifbpjmblemhaaGreatDoor
namespace Go.Proofs.YtgifbpjmblemhaaGreatDoor
open Go.RowKit
set_option linter.unusedVariables false
set_option linter.unusedSimpArgs false
theorem fits_any (n : Int) (w : World) : Calls Tryz.prog 52 #[.int .i64 n] w fun e w' => e = .returned (.bool (decide (33 ≤ n ∧ n ≤ 255))) ∧ w' = w := by
  by_cases h1 : 32 < n
  · have hd1 : decide (32 < n) = true := decide_eq_true h1
    by_cases h2 : n ≤ 255
    · have hd2 : decide (n ≤ 255) = true := decide_eq_true h2
      have H : Hid (decide (33 ≤ n ∧ n ≤ 255) = true) := Lib.hid (decide_eq_true ⟨h1, h2⟩)
      clear h1 h2
      go_enter Tryz.func52, Tryz.ntmps52
      go_wp2
      go_ret
      exact ⟨by rw [H.out]; rfl, rfl⟩
    · have hd2 : decide (n ≤ 255) = false := decide_eq_false h2
      have H : Hid (decide (33 ≤ n ∧ n ≤ 255) = false) := Lib.hid (decide_eq_false fun h => h2 h.2)
      clear h1 h2
      go_enter Tryz.func52, Tryz.ntmps52
      go_wp2
      go_ret
      exact ⟨by rw [H.out]; rfl, rfl⟩
  · have hd1 : decide (32 < n) = false := decide_eq_false h1
    have H : Hid (decide (33 ≤ n ∧ n ≤ 255) = false) := Lib.hid (decide_eq_false fun h => h1 h.1)
    clear h1
    go_enter Tryz.func52, Tryz.ntmps52
    go_wp2
    go_ret
    exact ⟨by rw [H.out]; rfl, rfl⟩
/-- the value that stands for a place, or nought -/
def pwv (n p : Int) : UInt8 := if 33 ≤ n ∧ n ≤ 255 ∧ 0 ≤ p ∧ p < n then Gf.al (n - 1 - p).toNat else 0
theorem fits_true (n : Int) (h : 33 ≤ n ∧ n ≤ 255) (w : World) : Calls Tryz.prog 52 #[.int .i64 n] w fun e w' => e = .returned (.bool true) ∧ w' = w := by
  have := fits_any n w
  rwa [decide_eq_true h] at this
theorem fits_false (n : Int) (h : ¬ (33 ≤ n ∧ n ≤ 255)) (w : World) : Calls Tryz.prog 52 #[.int .i64 n] w fun e w' => e = .returned (.bool false) ∧ w' = w := by
  have := fits_any n w
  rwa [decide_eq_false h] at this
set_option maxRecDepth 100000 in
theorem cpower_any (n p : Int) (w : World) : Calls Tryz.prog 73 #[.int .i64 n, .int .i64 p] w fun e w' => e = .returned (.int .u8 ((pwv n p).toNat : Int)) ∧ w' = w := by
  by_cases h1 : 33 ≤ n ∧ n ≤ 255
  · have C : Hid (∀ w, Calls Tryz.prog 52 #[.int .i64 n] w fun e w' => e = .returned (.bool true) ∧ w' = w) := Lib.hid (fits_true n h1)
    by_cases h2 : p < 0
    · have hd2 : decide (p < 0) = true := decide_eq_true h2
      have H : Hid (pwv n p = 0) := Lib.hid (if_neg (by omega))
      clear h1 h2
      go_enter Tryz.func73, Tryz.ntmps73
      go_wp2_with fail
      refine (C.out _).mono ?_; rintro e w' ⟨rfl, rfl⟩
      go_wp2_with fail
      go_ret
      exact ⟨by rw [H.out]; rfl, rfl⟩
    · have hd2 : decide (p < 0) = false := decide_eq_false h2
      by_cases h3 : n ≤ p
      · have hd3 : decide (n ≤ p) = true := decide_eq_true h3
        have H : Hid (pwv n p = 0) := Lib.hid (if_neg (by omega))
        clear h1 h2 h3
        go_enter Tryz.func73, Tryz.ntmps73
        go_wp2_with fail
        refine (C.out _).mono ?_; rintro e w' ⟨rfl, rfl⟩
        go_wp2_with fail
        go_ret
        exact ⟨by rw [H.out]; rfl, rfl⟩
      · have hd3 : decide (n ≤ p) = false := decide_eq_false h3
        have H : Hid (pwv n p = Gf.al (n - 1 - p).toNat) := Lib.hid (if_pos (by omega))
        have E : Hid (∀ w, Calls Tryz.prog 87 #[.int .i64 (n - 1 - p)] w fun e w' => e = .returned (.int .u8 ((pwv n p).toNat : Int)) ∧ w = w') := Lib.hid fun w => by
          have h := exp_any (n - 1 - p) w
          rw [show ((n - 1 - p) % 255).toNat = (n - 1 - p).toNat by omega, ← Gf.al_nat, ← H.out] at h
          exact h
        have hp0 : 0 ≤ p := by omega
        have hp1 : p < n := by omega
        have hn1 : 33 ≤ n := h1.1
        have hn2 : n ≤ 255 := h1.2
        clear h1 h2 h3
        go_enter Tryz.func73, Tryz.ntmps73
        go_wp2_with fail
        refine (C.out _).mono ?_; rintro e w' ⟨rfl, rfl⟩
        go_wp2_with fail
        refine (E.out _).mono ?_; rintro e w' ⟨rfl, rfl⟩
        go_wp2_with fail
        go_ret
        exact ⟨rfl, rfl⟩
  · have C : Hid (∀ w, Calls Tryz.prog 52 #[.int .i64 n] w fun e w' => e = .returned (.bool false) ∧ w' = w) := Lib.hid (fits_false n h1)
    have H : Hid (pwv n p = 0) := Lib.hid (if_neg (by omega))
    clear h1
    go_enter Tryz.func73, Tryz.ntmps73
    go_wp2_with fail
    refine (C.out _).mono ?_; rintro e w' ⟨rfl, rfl⟩
    go_wp2_with fail
    go_ret
    exact ⟨by rw [H.out]; rfl, rfl⟩
end Go.Proofs.YtgifbpjmblemhaaGreatDoor
