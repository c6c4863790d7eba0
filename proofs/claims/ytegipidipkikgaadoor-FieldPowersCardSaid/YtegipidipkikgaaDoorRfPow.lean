/- The document's own powers, inverses and logarithms (package baileeref01) are the field's. -/
import Derived.Test.YtegipidipkikgaaDoorRfMul
import Derived.Test.YtegipidipkikgaaDoorRest
import Derived.Test.YtegipidipkikgaaDoorInv
namespace Go.Proofs.YtegipidipkikgaaDoor
open Go.RowKit
set_option linter.unusedVariables false
def PowerAt (a n : Nat) (m out : Value) : Prop := ∃ k : Nat, k ≤ n ∧ m = .int .i64 (n - k : Nat) ∧ out = .int .u8 (Gf.pw a k : Nat)
theorem power_nat (a n : Nat) (ha : a < 256) (hn : n ≤ 9223372036854775807) (w : World) :
    Calls Tryd.prog 21 #[.int .u8 (a : Int), .int .i64 (n : Int)] w fun e w' => e = .returned (.int .u8 (Gf.pw a n : Nat)) ∧ w = w' := by
  go_enter Tryd.func21, Tryd.ntmps21
  go_wp2
  go_loop [1, 5] (fun m out => PowerAt a n m out) (fun m _ => (intOf m).toNat)
  case atStart => exact ⟨0, Nat.zero_le _, rfl, rfl⟩
  case round =>
    obtain ⟨k, hk, rfl, rfl⟩ := hrel
    have hp := Gf.pw_lt a k
    by_cases h : k = n
    · subst h
      have h1 : ((k - k : Nat) : Int) = 0 := by omega
      rw [h1]
      go_wp2
      go_ret
      exact ⟨rfl, rfl⟩
    · obtain ⟨d, hd⟩ : ∃ d, n - k = d + 1 := ⟨n - k - 1, by omega⟩
      have HD : Hid (n - (k + 1) = d) := Lib.hid (by omega)
      have hd2 : d + 1 ≤ 9223372036854775807 := by omega
      have HM := Lib.hid hd
      rw [hd]
      clear hd h
      go_wp2_with (go_at_call 8; refine (rmul_nat (Gf.pw a k) a hp ha _).mono ?_; rintro e w' ⟨rfl, rfl⟩)
      go_round
      case rel => exact ⟨k + 1, by have := HM.out; omega, by rw [HD.out], rfl⟩
      case measure => simp [intOf]
theorem rinv_nat (a : Nat) (ha : a < 256) (w : World) :
    Calls Tryd.prog 16 #[.int .u8 (a : Int)] w fun e w' => e = .returned (.int .u8 (Gf.inv a : Nat)) ∧ w = w' := by
  have c : ∀ w, Calls Tryd.prog 21 #[.int .u8 (a : Int), .int .i64 254] w fun e w' => e = .returned (.int .u8 (Gf.inv a : Nat)) ∧ w = w' := fun w => power_nat a 254 ha (by decide) w
  have C := Lib.hid c
  clear c
  go_enter Tryd.func16, Tryd.ntmps16
  go_wp2_with (go_at_call 21; refine (C.out _).mono ?_; rintro e w' ⟨rfl, rfl⟩)
  go_ret
  exact ⟨rfl, rfl⟩
theorem rpow_nat (a : Nat) (n : Int) (ha : a < 256) (w : World) :
    Calls Tryd.prog 24 #[.int .u8 (a : Int), .int .i64 n] w fun e w' => e = .returned (.int .u8 (Gf.powI a n : Nat)) ∧ w = w' := by
  by_cases h0 : a = 0
  · subst h0
    by_cases hn : n = 0
    · subst hn
      go_enter Tryd.func24, Tryd.ntmps24
      go_wp2
      go_ret
      exact ⟨ret_int (by simp [Gf.powI]), rfl⟩
    · have hb : (n == 0) = false := by simpa using hn
      have HP : Hid ((Gf.powI 0 n : Nat) = 0) := Lib.hid (by simp [Gf.powI, hn])
      go_enter Tryd.func24, Tryd.ntmps24
      go_wp2
      go_ret
      exact ⟨ret_int (by rw [HP.out]; rfl), rfl⟩
  · have hz : ((a : Int) == 0) = false := by simpa using h0
    have hm : 0 ≤ n % 255 ∧ n % 255 < 255 := by omega
    obtain ⟨L, hL⟩ := Int.eq_ofNat_of_zero_le hm.1
    have ct : ∀ w, Calls Tryd.prog 22 #[.int .i64 n] w fun e w' => e = .returned (.int .i64 (L : Int)) ∧ w = w' := by
      intro w; rw [← hL]; exact rest_any n w
    have CT := Lib.hid ct
    have HQ : Hid (Gf.powI a n = Gf.pw a L) := Lib.hid (by unfold Gf.powI; rw [if_neg h0, hL]; rfl)
    have hL2 : L ≤ 9223372036854775807 := by omega
    clear hm hL ct h0
    go_enter Tryd.func24, Tryd.ntmps24
    go_wp2_with fail
    refine (CT.out _).mono ?_; rintro e w' ⟨rfl, rfl⟩
    go_wp2_with fail
    refine (power_nat a L ha hL2 _).mono ?_; rintro e w' ⟨rfl, rfl⟩
    go_wp2_with fail
    go_ret
    exact ⟨ret_int (by rw [HQ.out]), rfl⟩
namespace Gf
theorem lg_is (a n : Nat) (h0 : a ≠ 0) (ha : a < 256) (hn : n ≤ lg a) : ex n = a ↔ n = lg a := by
  obtain ⟨h1, h2⟩ := ex_lg a h0 ha
  constructor
  · intro h
    have h3 : ex n = ex (lg a) := by rw [h, h1]
    rw [ex_inj, Nat.mod_eq_of_lt (by omega), Nat.mod_eq_of_lt h2] at h3
    exact h3
  · rintro rfl; exact h1
end Gf
def LogAt (a : Nat) (x n : Value) : Prop := ∃ k : Nat, k ≤ Gf.lg a ∧ x = .int .u8 (Gf.ex k : Nat) ∧ n = .int .i64 k
set_option maxRecDepth 100000 in
theorem rlog_nat (a : Nat) (h0 : a ≠ 0) (ha : a < 256) (w : World) :
    Calls Tryd.prog 19 #[.int .u8 (a : Int)] w fun e w' => e = .returned (.int .i64 (Gf.lg a : Nat)) ∧ w = w' := by
  have hlg := (Gf.ex_lg a h0 ha).2
  have m2 : ∀ k w, Calls Tryd.prog 8 #[.int .u8 (Gf.ex k : Nat), .int .u8 2] w fun e w' => e = .returned (.int .u8 (Gf.ex (k + 1) : Nat)) ∧ w = w' := by
    intro k w
    have h := rmul_nat (Gf.ex k) 2 (Gf.ex_lt k) (by decide) w
    have h2 : Gf.mul (Gf.ex k) 2 = Gf.ex (k + 1) := Gf.mul_ex_ex k 1
    rw [h2] at h; exact h
  have M2 := Lib.hid m2
  have HI := Lib.hid (Gf.lg_is a · h0 ha)
  clear m2
  go_enter Tryd.func19, Tryd.ntmps19
  go_wp2
  go_loop [3, 4] (fun x n => LogAt a x n) (fun _ n => 255 - (intOf n).toNat)
  case atStart => exact ⟨0, Nat.zero_le _, rfl, rfl⟩
  case round =>
    obtain ⟨k, hk, rfl, rfl⟩ := hrel
    have hk2 : k < 255 := by omega
    by_cases h : k = Gf.lg a
    · have ht : ((Gf.ex k : Int) == (a : Int)) = true := by
        have := (HI.out k hk).2 h; rw [this]; simp
      have H := Lib.hid h
      clear h
      go_wp2
      go_ret
      exact ⟨ret_int (by rw [H.out]), rfl⟩
    · have hne : Gf.ex k ≠ a := fun e => h ((HI.out k hk).1 e)
      have ht : ((Gf.ex k : Int) == (a : Int)) = false := by simpa [Int.ofNat_inj] using hne
      clear hne
      go_wp2_with (go_at_call 8; refine (M2.out k _).mono ?_; rintro e w' ⟨rfl, rfl⟩)
      go_round
      case rel => exact ⟨k + 1, by omega, rfl, by go_num⟩
      case measure => simp [intOf]; omega
theorem log_zero (a : Nat) (h0 : a = 0) (ev : Value) (w : World) (hc : w.cell? ⟨0, 0, none⟩ = some ev) :
    Calls Tryd.prog 17 #[.int .u8 (a : Int)] w fun e w' => e = .returned (.tuple #[.int .i64 0, ev]) ∧ ∃ n, w' = w.drewN n := by
  have hz : ((a : Int) == 0) = true := by simpa using h0
  clear h0
  go_enter Tryd.func17, Tryd.ntmps17
  go_wp2
  go_quiet (fail)
  go_wp2
  go_ret2
  exact ⟨rfl, _, rfl⟩
theorem log_pos (a : Nat) (h0 : a ≠ 0) (ha : a < 256) (w : World) :
    Calls Tryd.prog 17 #[.int .u8 (a : Int)] w fun e w' => e = .returned (.tuple #[.int .i64 (Gf.lg a : Nat), .nilIface]) ∧ w = w' := by
  have hz : ((a : Int) == 0) = false := by simpa using h0
  have hlg := (Gf.ex_lg a h0 ha).2
  have HI := Lib.hid (Gf.lg_is a · h0 ha)
  clear h0
  go_enter Tryd.func17, Tryd.ntmps17
  go_wp2
  go_loop [5, 4] (fun x n => LogAt a x n) (fun _ n => 255 - (intOf n).toNat)
  case atStart => exact ⟨0, Nat.zero_le _, rfl, rfl⟩
  case round =>
    obtain ⟨k, hk, rfl, rfl⟩ := hrel
    have hk2 : k < 255 := by omega
    have hel := Gf.ex_lt k
    by_cases h : k = Gf.lg a
    · have ht : ((Gf.ex k : Int) != (a : Int)) = false := by
        have := (HI.out k hk).2 h; rw [this]; simp
      have H := Lib.hid h
      clear h
      go_wp2
      go_ret2
      exact ⟨by have h := H.out; subst h; rfl, rfl⟩
    · have hne : Gf.ex k ≠ a := fun e => h ((HI.out k hk).1 e)
      have ht : ((Gf.ex k : Int) != (a : Int)) = true := by simpa [Int.ofNat_inj] using hne
      clear hne
      go_wp2_with (go_at_call 26; refine (double_any (Gf.ex k) hel _).mono ?_; rintro e w' ⟨rfl, rfl⟩)
      go_round
      case rel => exact ⟨k + 1, by omega, rfl, by go_num⟩
      case measure => simp [intOf]; omega
end Go.Proofs.YtegipidipkikgaaDoor
