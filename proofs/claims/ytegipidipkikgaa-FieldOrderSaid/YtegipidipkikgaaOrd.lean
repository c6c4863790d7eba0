/- For every pair of integers FieldOrder returns true: no condition. -/
import Derived.Test.YtegipidipkikgaaFm
set_option linter.unusedVariables false
namespace Go.Proofs.Ytegipidipkikgaa
open Go.RowKit
theorem rest_any (n : Int) (w : World) :
    Calls Try.prog 15 #[.int .i64 n] w fun e w' => e = .returned (.int .i64 (n % 255)) ∧ w = w' := by
  by_cases h0 : 0 ≤ n
  · have h1 : 0 ≤ n % 255 := by omega
    go_enter Try.func15, Try.ntmps15
    go_wp2
    go_ret
    exact ⟨rfl, rfl⟩
  · obtain ⟨m, rfl⟩ : ∃ m : Int, n = -m := ⟨-n, by omega⟩
    have ht : (-m).tmod 255 = - (m % 255) := by rw [Int.neg_tmod, Int.tmod_eq_emod_of_nonneg (by omega)]
    by_cases h2 : m % 255 = 0
    · have hlo : 0 ≤ (-m).tmod 255 := by omega
      clear ht
      go_enter Try.func15, Try.ntmps15
      go_wp2
      go_ret
      exact ⟨ret_int (by omega), rfl⟩
    · have hlo : (-m).tmod 255 < 0 := by omega
      have hlo2 : -255 < (-m).tmod 255 := by omega
      clear ht
      go_enter Try.func15, Try.ntmps15
      go_wp2
      go_ret
      exact ⟨ret_int (by omega), rfl⟩

set_option maxHeartbeats 1000000 in
theorem order_walk (i j : Int) (w : World) :
    Calls Try.prog 5 #[.int .i64 i, .int .i64 j] w fun e w' => e = .returned (.bool true) ∧ Grown w w' := by
  have hx : 0 ≤ i % 255 ∧ i % 255 < 255 := by omega
  have hy : 0 ≤ j % 255 ∧ j % 255 < 255 := by omega
  obtain ⟨X, hX⟩ := Int.eq_ofNat_of_zero_le hx.1
  obtain ⟨Y, hY⟩ := Int.eq_ofNat_of_zero_le hy.1
  have hXl : X < 255 := by omega
  have hYl : Y < 255 := by omega
  have r1 : ∀ w, Calls Try.prog 15 #[.int .i64 i] w fun e w' => e = .returned (.int .i64 X) ∧ w = w' := by
    intro w; have h := rest_any i w; rw [hX] at h; exact h
  have r2 : ∀ w, Calls Try.prog 15 #[.int .i64 j] w fun e w' => e = .returned (.int .i64 Y) ∧ w = w' := by
    intro w; have h := rest_any j w; rw [hY] at h; exact h
  have e1 : ∀ w, Calls Try.prog 16 #[.int .i64 i] w fun e w' => e = .returned (.int .u8 (Gf.ex X : Nat)) ∧ w = w' := by
    intro w; have h := exp_any i w; rw [hX] at h; exact h
  have e2 : ∀ w, Calls Try.prog 16 #[.int .i64 j] w fun e w' => e = .returned (.int .u8 (Gf.ex Y : Nat)) ∧ w = w' := by
    intro w; have h := exp_any j w; rw [hY] at h; exact h
  have m1 : ∀ w, Calls Try.prog 14 #[.int .u8 (Gf.ex X : Nat), .int .u8 (Gf.ex Y : Nat)] w fun e w' => e = .returned (.int .u8 (Gf.ex (X + Y) : Nat)) ∧ w = w' := by
    intro w; rw [← Gf.mul_ex_ex]; exact mul_nat _ _ (Gf.ex_lt X) (Gf.ex_lt Y) w
  have e3 : ∀ w, Calls Try.prog 16 #[.int .i64 ((X : Int) + Y)] w fun e w' => e = .returned (.int .u8 (Gf.ex (X + Y) : Nat)) ∧ w = w' := by
    intro w
    have h := exp_any ((X : Int) + Y) w
    rw [show (((X : Int) + Y) % 255).toNat = (X + Y) % 255 by omega, Gf.ex_mod] at h
    exact h
  have p1 : ∀ w, Calls Try.prog 12 #[.int .u8 (Gf.ex X : Nat), .int .i64 Y] w fun e w' => e = .returned (.int .u8 (Gf.ex (X * Y) : Nat)) ∧ w = w' := by
    intro w
    have h := pow_nat (Gf.ex X) Y (Gf.ex_lt X) w
    have h2 : Gf.powI (Gf.ex X) (Y : Int) = Gf.ex (X * Y) := by
      unfold Gf.powI
      rw [if_neg (Gf.ex_ne X), show ((Y : Int) % 255).toNat = Y by omega, Gf.pw_ex]
    rw [h2] at h
    exact h
  have e4 : ∀ w, Calls Try.prog 16 #[.int .i64 ((X : Int) * Y)] w fun e w' => e = .returned (.int .u8 (Gf.ex (X * Y) : Nat)) ∧ w = w' := by
    intro w
    have h := exp_any ((X : Int) * Y) w
    rw [show (((X : Int) * Y) % 255).toNat = (X * Y) % 255 by rw [← Int.natCast_mul]; omega, Gf.ex_mod] at h
    exact h
  have hn : ((Gf.ex X : Int) == 0) = false := by simpa using Gf.ex_ne X
  have hXY : X * Y ≤ 254 * 254 := Nat.mul_le_mul (by omega) (by omega)
  have hXY1 : 0 ≤ (X : Int) * Y := by rw [← Int.natCast_mul]; omega
  have hXY2 : (X : Int) * Y ≤ 64516 := by rw [← Int.natCast_mul]; omega
  have R1 := Lib.hid r1
  have R2 := Lib.hid r2
  have E1 := Lib.hid e1
  have E2 := Lib.hid e2
  have E3 := Lib.hid e3
  have E4 := Lib.hid e4
  have M1 := Lib.hid m1
  have P1 := Lib.hid p1
  clear r1 r2 e1 e2 e3 e4 m1 p1 hX hY hx hy hXY
  by_cases hc : X = Y
  · subst hc
    go_enter Try.func5, Try.ntmps5
    go_wp2_with fail
    refine (alive_any _).mono ?_; rintro e w1 ⟨rfl, hg, hs⟩
    have HG := Lib.hid hg
    clear hg
    go_wp2_with fail
    refine (R1.out _).mono ?_; rintro e w' ⟨rfl, rfl⟩
    go_wp2_with fail
    refine (R2.out _).mono ?_; rintro e w' ⟨rfl, rfl⟩
    go_wp2_with fail
    refine (E1.out _).mono ?_; rintro e w' ⟨rfl, rfl⟩
    go_wp2_with fail
    refine (E2.out _).mono ?_; rintro e w' ⟨rfl, rfl⟩
    go_wp2_with fail
    refine (E1.out _).mono ?_; rintro e w' ⟨rfl, rfl⟩
    go_wp2_with fail
    refine (E1.out _).mono ?_; rintro e w' ⟨rfl, rfl⟩
    go_wp2_with fail
    refine (E2.out _).mono ?_; rintro e w' ⟨rfl, rfl⟩
    go_wp2_with fail
    refine (M1.out _).mono ?_; rintro e w' ⟨rfl, rfl⟩
    go_wp2_with fail
    refine (E3.out _).mono ?_; rintro e w' ⟨rfl, rfl⟩
    go_wp2_with fail
    refine (E1.out _).mono ?_; rintro e w' ⟨rfl, rfl⟩
    go_wp2_with fail
    refine (P1.out _).mono ?_; rintro e w' ⟨rfl, rfl⟩
    go_wp2_with fail
    refine (E4.out _).mono ?_; rintro e w' ⟨rfl, rfl⟩
    go_wp2_with fail
    go_ret
    exact ⟨rfl, HG.out⟩
  · have hne : Gf.ex X ≠ Gf.ex Y := by
      rw [Ne, Gf.ex_inj, Nat.mod_eq_of_lt hXl, Nat.mod_eq_of_lt hYl]; exact hc
    have h1 : ((Gf.ex X : Int) == (Gf.ex Y : Int)) = false := by simpa [Int.ofNat_inj] using hne
    have h2 : ((X : Int) == (Y : Int)) = false := by simpa [Int.ofNat_inj] using hc
    have h3 : (Gf.ex X == Gf.ex Y) = false := by simpa using hne
    have h4 : (X == Y) = false := by simpa using hc
    clear hne hc
    go_enter Try.func5, Try.ntmps5
    go_wp2_with fail
    refine (alive_any _).mono ?_; rintro e w1 ⟨rfl, hg, hs⟩
    have HG := Lib.hid hg
    clear hg
    go_wp2_with fail
    refine (R1.out _).mono ?_; rintro e w' ⟨rfl, rfl⟩
    go_wp2_with fail
    refine (R2.out _).mono ?_; rintro e w' ⟨rfl, rfl⟩
    go_wp2_with fail
    refine (E1.out _).mono ?_; rintro e w' ⟨rfl, rfl⟩
    go_wp2_with fail
    refine (E2.out _).mono ?_; rintro e w' ⟨rfl, rfl⟩
    go_wp2_with fail
    refine (E1.out _).mono ?_; rintro e w' ⟨rfl, rfl⟩
    go_wp2_with fail
    refine (E1.out _).mono ?_; rintro e w' ⟨rfl, rfl⟩
    go_wp2_with fail
    refine (E2.out _).mono ?_; rintro e w' ⟨rfl, rfl⟩
    go_wp2_with fail
    refine (M1.out _).mono ?_; rintro e w' ⟨rfl, rfl⟩
    go_wp2_with fail
    refine (E3.out _).mono ?_; rintro e w' ⟨rfl, rfl⟩
    go_wp2_with fail
    refine (E1.out _).mono ?_; rintro e w' ⟨rfl, rfl⟩
    go_wp2_with fail
    refine (P1.out _).mono ?_; rintro e w' ⟨rfl, rfl⟩
    go_wp2_with fail
    refine (E4.out _).mono ?_; rintro e w' ⟨rfl, rfl⟩
    go_wp2_with fail
    go_ret
    exact ⟨rfl, HG.out⟩
end Go.Proofs.Ytegipidipkikgaa
