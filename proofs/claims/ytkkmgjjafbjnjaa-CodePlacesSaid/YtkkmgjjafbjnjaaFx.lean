/- Contracts of field.turn, Pow and Exp. -/
import Derived.Test.YtkkmgjjafbjnjaaFw
namespace Go.Proofs.Ytkkmgjjafbjnjaa
open Go.RowKit
set_option linter.unusedVariables false
namespace Gf
/-- Go's answer to a power: any number, any exponent -/
def powI (a : Nat) (n : Int) : Nat := if a = 0 then (if n = 0 then 1 else 0) else pw a (n % 255).toNat
theorem powI_lt (a : Nat) (n : Int) : powI a n < 256 := by
  unfold powI
  split
  · split <;> omega
  · exact pw_lt _ _
end Gf

theorem turn_any (n : Int) (w : World) :
    Calls Try.prog 19 #[.int .i64 n] w fun e w' => e = .returned (.int .i64 (n % 255)) ∧ w = w' := by
  by_cases h0 : 0 ≤ n
  · have h1 : 0 ≤ n % 255 := by omega
    go_enter Try.func19, Try.ntmps19
    go_wp2
    go_ret
    exact ⟨rfl, rfl⟩
  · obtain ⟨m, rfl⟩ : ∃ m : Int, n = -m := ⟨-n, by omega⟩
    have ht : (-m).tmod 255 = - (m % 255) := by rw [Int.neg_tmod, Int.tmod_eq_emod_of_nonneg (by omega)]
    by_cases h2 : m % 255 = 0
    · have hlo : 0 ≤ (-m).tmod 255 := by omega
      have HT : Hid ((-m).tmod 255 = (-m) % 255) := Lib.hid (by rw [ht]; omega)
      clear ht
      go_enter Try.func19, Try.ntmps19
      go_wp2
      go_ret
      exact ⟨ret_int (by omega), rfl⟩
    · have hlo : (-m).tmod 255 < 0 := by omega
      have hlo2 : -255 < (-m).tmod 255 := by omega
      have HT : Hid ((-m).tmod 255 + 255 = (-m) % 255) := Lib.hid (by rw [ht]; omega)
      clear ht
      go_enter Try.func19, Try.ntmps19
      go_wp2
      go_ret
      exact ⟨ret_int (by omega), rfl⟩

theorem powOfZero_any (n : Int) (w : World) :
    Calls Try.prog 18 #[.int .i64 n] w fun e w' => e = .returned (.int .u8 (Gf.powI 0 n : Nat)) ∧ w = w' := by
  by_cases h : n = 0
  · subst h
    go_enter Try.func18, Try.ntmps18
    go_wp2
    go_ret
    exact ⟨ret_int (by simp [Gf.powI]), rfl⟩
  · have hb : (n == 0) = false := by simpa using h
    have HP : Hid ((Gf.powI 0 n : Nat) = 0) := Lib.hid (by simp [Gf.powI, h])
    go_enter Try.func18, Try.ntmps18
    go_wp2
    go_ret
    exact ⟨ret_int (by rw [HP.out]; rfl), rfl⟩

def PowAt (a L : Nat) (x p l : Value) : Prop :=
  ∃ x' p' l' : Nat, x' < 256 ∧ p' < 256 ∧ l' < 255 ∧ Gf.mul p' (Gf.pw x' l') = Gf.pw a L ∧ x = .int .u8 x' ∧ p = .int .u8 p' ∧ l = .int .i64 l'
theorem pow_nat (a : Nat) (n : Int) (ha : a < 256) (w : World) :
    Calls Try.prog 15 #[.int .u8 (a : Int), .int .i64 n] w fun e w' => e = .returned (.int .u8 (Gf.powI a n : Nat)) ∧ w = w' := by
  by_cases h0 : a = 0
  · subst h0
    go_enter Try.func15, Try.ntmps15
    go_wp2_with (go_at_call 18; refine (powOfZero_any n _).mono ?_; rintro e w' ⟨rfl, rfl⟩)
    go_ret
    exact ⟨rfl, rfl⟩
  · have hz : ((a : Int) == 0) = false := by simpa using h0
    have HP : Hid (Gf.powI a n = Gf.pw a (n % 255).toNat) := Lib.hid (by unfold Gf.powI; rw [if_neg h0])
    have hm : 0 ≤ n % 255 ∧ n % 255 < 255 := by omega
    obtain ⟨L, hL⟩ := Int.eq_ofNat_of_zero_le hm.1
    have ct : ∀ w, Calls Try.prog 19 #[.int .i64 n] w fun e w' => e = .returned (.int .i64 (L : Int)) ∧ w = w' := by
      intro w; rw [← hL]; exact turn_any n w
    have CT := Lib.hid ct
    have HQ : Hid (Gf.powI a n = Gf.pw a L) := Lib.hid (by rw [HP.out, hL]; rfl)
    have hL2 : L < 255 := by omega
    clear hm hL ct HP
    go_enter Try.func15, Try.ntmps15
    go_wp2_with (go_at_call 19; refine (CT.out _).mono ?_; rintro e w' ⟨rfl, rfl⟩)
    go_loop [0, 5, 6] (fun x p l => PowAt a L x p l) (fun _ _ l => (intOf l).toNat)
    case atStart => exact ⟨a, 1, L, ha, by decide, hL2, Gf.mul_one_left _ (Gf.pw_lt _ _), rfl, rfl, rfl⟩
    case round =>
      obtain ⟨x, p, l, hx, hp, hl, hm, rfl, rfl, rfl⟩ := hrel
      have HM := Lib.hid hm
      clear hm
      have hxx := Gf.mul_lt x x hx
      have hpx := Gf.mul_lt p x hp
      by_cases hl0 : l = 0
      · subst hl0
        go_wp2
        go_ret
        exact ⟨ret_int (by rw [HQ.out, ← HM.out, Gf.pw, Gf.mul_one_right p hp]), rfl⟩
      · have hlp : 0 < l := by omega
        have hand : bits .and .i64 (l : Int) 1 = ((l % 2 : Nat) : Int) := by
          rw [← Gf.and_1]; exact (bits_nat .i64 63 (by decide) (fun n h0 h1 => by rw [IntKind.wrap_i64]; omega) l 1 (by omega) (by decide)).1
        by_cases h1 : l % 2 = 1
        · have ht : (bits .and .i64 (l : Int) 1 == 1) = true := by rw [hand, h1]; rfl
          have HS : Hid (Gf.mul (Gf.mul p x) (Gf.pw (Gf.mul x x) (l / 2)) = Gf.pw a L) := Lib.hid (by
            rw [Gf.pw_mul _ _ hx, ← HM.out, Gf.mul_assoc p x _ hp hx (Gf.pw_lt _ _), Gf.mul_comm x _ hx (Gf.pw_lt _ _)]
            congr 1
            rw [show l = 2 * (l / 2) + 1 by omega, Gf.pw]
            congr 2; omega)
          clear hand h1 hl0
          go_wp2_with fail
          refine (mul_nat p x hp hx _).mono ?_; rintro e w' ⟨rfl, rfl⟩
          go_wp2_with fail
          refine (mul_nat x x hx hx _).mono ?_; rintro e w' ⟨rfl, rfl⟩
          go_wp2_with fail
          go_round
          case rel => exact ⟨Gf.mul x x, Gf.mul p x, l / 2, hxx, hpx, by omega, HS.out, rfl, rfl, by go_num⟩
          case measure => simp [intOf]; omega
        · have ht : (bits .and .i64 (l : Int) 1 == 1) = false := by rw [hand, show l % 2 = 0 by omega]; rfl
          have HS : Hid (Gf.mul p (Gf.pw (Gf.mul x x) (l / 2)) = Gf.pw a L) := Lib.hid (by
            rw [Gf.pw_mul _ _ hx, ← HM.out, show 2 * (l / 2) = l by omega])
          clear hand h1 hl0
          go_wp2_with fail
          refine (mul_nat x x hx hx _).mono ?_; rintro e w' ⟨rfl, rfl⟩
          go_wp2_with fail
          go_round
          case rel => exact ⟨Gf.mul x x, p, l / 2, hxx, hp, by omega, HS.out, rfl, rfl, by go_num⟩
          case measure => simp [intOf]; omega
theorem exp_any (n : Int) (w : World) :
    Calls Try.prog 12 #[.int .i64 n] w fun e w' => e = .returned (.int .u8 (Gf.ex (n % 255).toNat : Nat)) ∧ w = w' := by
  have c : ∀ w, Calls Try.prog 15 #[.int .u8 2, .int .i64 n] w fun e w' => e = .returned (.int .u8 (Gf.ex (n % 255).toNat : Nat)) ∧ w = w' := by
    intro w
    have h := pow_nat 2 n (by decide) w
    have h2 : Gf.powI 2 n = Gf.ex (n % 255).toNat := by unfold Gf.powI; rw [if_neg (by decide), Gf.pw_two]
    rw [h2] at h
    exact h
  have C := Lib.hid c
  clear c
  go_enter Try.func12, Try.ntmps12
  go_wp2_with (go_at_call 15; refine (C.out _).mono ?_; rintro e w' ⟨rfl, rfl⟩)
  go_ret
  exact ⟨rfl, rfl⟩
end Go.Proofs.Ytkkmgjjafbjnjaa
