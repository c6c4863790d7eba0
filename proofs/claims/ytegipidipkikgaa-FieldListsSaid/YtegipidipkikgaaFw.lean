/- Contracts of the functions of package field that compute with numbers alone. -/
import Derived.Test.YtegipidipkikgaaRows
import Derived.Test.YtegipidipkikgaaGf
import Derived.WalkKit
import Derived.ProofKit
import Derived.OpenShut
import Derived.Laws.BitsAllLaws
import Derived.Lib.Hide
namespace Go.Proofs.Ytegipidipkikgaa
open Go.RowKit
set_option linter.unusedVariables false
theorem ret_int {k : IntKind} {a b : Int} (h : a = b) : Ending.returned (.int k a) = .returned (.int k b) := by rw [h]

namespace Gf
theorem and_128 (a : Nat) (ha : a < 256) : a &&& 128 = if a < 128 then 0 else 128 := by
  have h : (List.range 256).all (fun a => a &&& 128 == if a < 128 then 0 else 128) = true := by decide +kernel
  simpa using all_of h a ha
theorem and_1 (a : Nat) : a &&& 1 = a % 2 := Nat.and_two_pow_sub_one_eq_mod a 1
end Gf

theorem double_any (a : Nat) (ha : a < 256) (w : World) :
    Calls Try.prog 20 #[.int .u8 (a : Int)] w fun e w' => e = .returned (.int .u8 (Gf.dbl a : Nat)) ∧ w = w' := by
  have hb : bits .and .u8 (a : Int) 128 = ((a &&& 128 : Nat) : Int) := u8_and_nat a 128 ha (by decide)
  rw [Gf.and_128 a ha] at hb
  by_cases h : a < 128
  · rw [if_pos h] at hb
    have hc : (bits .and .u8 (a : Int) 128 != 0) = false := by rw [hb]; rfl
    clear hb
    have hd : Gf.dbl a = 2 * a := by unfold Gf.dbl; rw [if_pos h]
    have HD := Lib.hid hd
    clear hd
    go_enter Try.func20, Try.ntmps20
    go_wp2
    go_ret
    exact ⟨ret_int (by rw [HD.out]; omega), rfl⟩
  · rw [if_neg h] at hb
    have hc : (bits .and .u8 (a : Int) 128 != 0) = true := by rw [hb]; rfl
    clear hb
    have hx : bits .xor .u8 (IntKind.u8.wrap (a * 2)) 29 = (Gf.dbl a : Nat) := by
      have : IntKind.u8.wrap (a * 2) = ((2 * a - 256 : Nat) : Int) := by rw [IntKind.wrap_u8]; omega
      rw [this, show (29 : Int) = ((29 : Nat) : Int) from rfl, u8_xor_nat _ 29 (by omega) (by decide)]
      unfold Gf.dbl; rw [if_neg h]
    rw [IntKind.wrap_u8] at hx
    have HX := Lib.hid hx
    clear hx
    go_enter Try.func20, Try.ntmps20
    go_wp2
    go_ret
    exact ⟨ret_int (by rw [HX.out]), rfl⟩
theorem add_any (a b : Nat) (ha : a < 256) (hb : b < 256) (w : World) :
    Calls Try.prog 13 #[.int .u8 (a : Int), .int .u8 (b : Int)] w fun e w' => e = .returned (.int .u8 (a ^^^ b : Nat)) ∧ w = w' := by
  go_enter Try.func13, Try.ntmps13
  go_wp2
  go_ret
  exact ⟨ret_int (u8_xor_nat a b ha hb), rfl⟩

def MulAt (a b : Nat) (x y p : Value) : Prop :=
  ∃ k x' y' p' : Nat, x' < 256 ∧ y' < 256 ∧ p' < 256 ∧ y' < 2 ^ k ∧ Gf.mul a b = p' ^^^ Gf.mulN k x' y' ∧ x = .int .u8 x' ∧ y = .int .u8 y' ∧ p = .int .u8 p'
theorem mul_nat (a b : Nat) (ha : a < 256) (hb : b < 256) (w : World) :
    Calls Try.prog 14 #[.int .u8 (a : Int), .int .u8 (b : Int)] w fun e w' => e = .returned (.int .u8 (Gf.mul a b : Nat)) ∧ w = w' := by
  go_enter Try.func14, Try.ntmps14
  go_wp2
  go_loop [0, 1, 5] (fun x y p => MulAt a b x y p) (fun _ y _ => (intOf y).toNat)
  case atStart => exact ⟨8, a, b, 0, ha, hb, by decide, hb, by simp [Gf.mul], rfl, rfl, rfl⟩
  case round =>
    obtain ⟨k, x, y, p, hx, hy, hp, hk, hm, rfl, rfl, rfl⟩ := hrel
    have HM := Lib.hid hm
    clear hm
    by_cases h0 : y = 0
    · subst h0
      go_wp2
      go_ret
      exact ⟨ret_int (by rw [HM.out, Gf.mulN_zero_right]; simp), rfl⟩
    · have hne : ((y : Int) != 0) = true := by simpa using h0
      have hand : bits .and .u8 (y : Int) 1 = ((y % 2 : Nat) : Int) := by
        rw [← Gf.and_1]; exact u8_and_nat y 1 hy (by decide)
      obtain ⟨k, rfl⟩ : ∃ j, k = j + 1 := by
        cases k with
        | zero => omega
        | succ j => exact ⟨j, rfl⟩
      have hk2 : y / 2 < 2 ^ k := by rw [Nat.pow_succ] at hk; omega
      have hdl := Gf.dbl_lt x hx
      by_cases h1 : y % 2 = 1
      · have ht : (bits .and .u8 (y : Int) 1 == 1) = true := by rw [hand, h1]; rfl
        have hs : p ^^^ (x ^^^ Gf.mulN k (Gf.dbl x) (y / 2)) = (p ^^^ x) ^^^ Gf.mulN k (Gf.dbl x) (y / 2) := (Nat.xor_assoc _ _ _).symm
        have HS : Hid (Gf.mul a b = (p ^^^ x) ^^^ Gf.mulN k (Gf.dbl x) (y / 2)) := Lib.hid (by rw [← hs, HM.out, Gf.mulN, if_pos h1])
        have hpx := Gf.xor_lt hp hx
        have hbx : bits .xor .u8 (p : Int) (x : Int) = ((p ^^^ x : Nat) : Int) := u8_xor_nat p x hp hx
        have HB := Lib.hid hbx
        clear hand hs hbx h1
        go_wp2_with (go_at_call 20; refine (double_any x hx _).mono ?_; rintro e w' ⟨rfl, rfl⟩)
        go_round
        case rel => exact ⟨k, Gf.dbl x, y / 2, p ^^^ x, hdl, by omega, hpx, hk2, HS.out, rfl, by go_num, by rw [HB.out]⟩
        case measure => simp [intOf]; omega
      · have ht : (bits .and .u8 (y : Int) 1 == 1) = false := by rw [hand, show y % 2 = 0 by omega]; rfl
        have HS : Hid (Gf.mul a b = p ^^^ Gf.mulN k (Gf.dbl x) (y / 2)) := Lib.hid (by rw [HM.out, Gf.mulN, if_neg h1, Nat.zero_xor])
        clear hand h1
        go_wp2_with (go_at_call 20; refine (double_any x hx _).mono ?_; rintro e w' ⟨rfl, rfl⟩)
        go_round
        case rel => exact ⟨k, Gf.dbl x, y / 2, p, hdl, by omega, hp, hk2, HS.out, rfl, by go_num, rfl⟩
        case measure => simp [intOf]; omega

namespace Gf
/-- Go's answer to a power: any number, any exponent -/
def powI (a : Nat) (n : Int) : Nat := if a = 0 then (if n = 0 then 1 else 0) else pw a (n % 255).toNat
theorem powI_lt (a : Nat) (n : Int) : powI a n < 256 := by
  unfold powI
  split
  · split <;> omega
  · exact pw_lt _ _
end Gf

theorem mul_any (a b : Int) (ha0 : 0 ≤ a) (ha : a < 256) (hb0 : 0 ≤ b) (hb : b < 256) (w : World) :
    Calls Try.prog 14 #[.int .u8 a, .int .u8 b] w fun e w' => e = .returned (.int .u8 (Gf.mul a.toNat b.toNat : Nat)) ∧ w = w' := by
  obtain ⟨a, rfl⟩ := Int.eq_ofNat_of_zero_le ha0
  obtain ⟨b, rfl⟩ := Int.eq_ofNat_of_zero_le hb0
  exact mul_nat a b (by omega) (by omega) w

theorem turn_any (n : Int) (w : World) :
    Calls Try.prog 19 #[.int .i64 n] w fun e w' => e = .returned (.int .i64 (n % 255)) ∧ w = w' := by
  by_cases h0 : 0 ≤ n
  · have h1 : 0 ≤ n % 255 := by omega
    go_enter Try.func19, Try.ntmps19
    go_wp2
    go_ret
    exact ⟨rfl, rfl⟩
  · obtain ⟨m, rfl⟩ : ∃ m : Int, n = -m := ⟨-n, by omega⟩
    have ht : (-m).tmod 255 = - (m % 255) := by rw [Int.neg_tmod, Int.tmod_eq_emod_of_nonneg (by omega)]
    by_cases h2 : m % 255 = 0
    · have hlo : 0 ≤ (-m).tmod 255 := by omega
      have HT : Hid ((-m).tmod 255 = (-m) % 255) := Lib.hid (by rw [ht]; omega)
      clear ht
      go_enter Try.func19, Try.ntmps19
      go_wp2
      go_ret
      exact ⟨ret_int (by omega), rfl⟩
    · have hlo : (-m).tmod 255 < 0 := by omega
      have hlo2 : -255 < (-m).tmod 255 := by omega
      have HT : Hid ((-m).tmod 255 + 255 = (-m) % 255) := Lib.hid (by rw [ht]; omega)
      clear ht
      go_enter Try.func19, Try.ntmps19
      go_wp2
      go_ret
      exact ⟨ret_int (by omega), rfl⟩

theorem powOfZero_any (n : Int) (w : World) :
    Calls Try.prog 18 #[.int .i64 n] w fun e w' => e = .returned (.int .u8 (Gf.powI 0 n : Nat)) ∧ w = w' := by
  by_cases h : n = 0
  · subst h
    go_enter Try.func18, Try.ntmps18
    go_wp2
    go_ret
    exact ⟨ret_int (by simp [Gf.powI]), rfl⟩
  · have hb : (n == 0) = false := by simpa using h
    have HP : Hid ((Gf.powI 0 n : Nat) = 0) := Lib.hid (by simp [Gf.powI, h])
    go_enter Try.func18, Try.ntmps18
    go_wp2
    go_ret
    exact ⟨ret_int (by rw [HP.out]; rfl), rfl⟩

def PowAt (a L : Nat) (x p l : Value) : Prop :=
  ∃ x' p' l' : Nat, x' < 256 ∧ p' < 256 ∧ l' < 255 ∧ Gf.mul p' (Gf.pw x' l') = Gf.pw a L ∧ x = .int .u8 x' ∧ p = .int .u8 p' ∧ l = .int .i64 l'
theorem pow_nat (a : Nat) (n : Int) (ha : a < 256) (w : World) :
    Calls Try.prog 12 #[.int .u8 (a : Int), .int .i64 n] w fun e w' => e = .returned (.int .u8 (Gf.powI a n : Nat)) ∧ w = w' := by
  by_cases h0 : a = 0
  · subst h0
    go_enter Try.func12, Try.ntmps12
    go_wp2_with (go_at_call 18; refine (powOfZero_any n _).mono ?_; rintro e w' ⟨rfl, rfl⟩)
    go_ret
    exact ⟨rfl, rfl⟩
  · have hz : ((a : Int) == 0) = false := by simpa using h0
    have HP : Hid (Gf.powI a n = Gf.pw a (n % 255).toNat) := Lib.hid (by unfold Gf.powI; rw [if_neg h0])
    have hm : 0 ≤ n % 255 ∧ n % 255 < 255 := by omega
    obtain ⟨L, hL⟩ := Int.eq_ofNat_of_zero_le hm.1
    have ct : ∀ w, Calls Try.prog 19 #[.int .i64 n] w fun e w' => e = .returned (.int .i64 (L : Int)) ∧ w = w' := by
      intro w; rw [← hL]; exact turn_any n w
    have CT := Lib.hid ct
    have HQ : Hid (Gf.powI a n = Gf.pw a L) := Lib.hid (by rw [HP.out, hL]; rfl)
    have hL2 : L < 255 := by omega
    clear hm hL ct HP
    go_enter Try.func12, Try.ntmps12
    go_wp2_with (go_at_call 19; refine (CT.out _).mono ?_; rintro e w' ⟨rfl, rfl⟩)
    go_loop [0, 5, 6] (fun x p l => PowAt a L x p l) (fun _ _ l => (intOf l).toNat)
    case atStart => exact ⟨a, 1, L, ha, by decide, hL2, Gf.mul_one_left _ (Gf.pw_lt _ _), rfl, rfl, rfl⟩
    case round =>
      obtain ⟨x, p, l, hx, hp, hl, hm, rfl, rfl, rfl⟩ := hrel
      have HM := Lib.hid hm
      clear hm
      have hxx := Gf.mul_lt x x hx
      have hpx := Gf.mul_lt p x hp
      by_cases hl0 : l = 0
      · subst hl0
        go_wp2
        go_ret
        exact ⟨ret_int (by rw [HQ.out, ← HM.out, Gf.pw, Gf.mul_one_right p hp]), rfl⟩
      · have hlp : 0 < l := by omega
        have hand : bits .and .i64 (l : Int) 1 = ((l % 2 : Nat) : Int) := by
          rw [← Gf.and_1]; exact (bits_nat .i64 63 (by decide) (fun n h0 h1 => by rw [IntKind.wrap_i64]; omega) l 1 (by omega) (by decide)).1
        by_cases h1 : l % 2 = 1
        · have ht : (bits .and .i64 (l : Int) 1 == 1) = true := by rw [hand, h1]; rfl
          have HS : Hid (Gf.mul (Gf.mul p x) (Gf.pw (Gf.mul x x) (l / 2)) = Gf.pw a L) := Lib.hid (by
            rw [Gf.pw_mul _ _ hx, ← HM.out, Gf.mul_assoc p x _ hp hx (Gf.pw_lt _ _), Gf.mul_comm x _ hx (Gf.pw_lt _ _)]
            congr 1
            rw [show l = 2 * (l / 2) + 1 by omega, Gf.pw]
            congr 2; omega)
          clear hand h1 hl0
          go_wp2_with fail
          refine (mul_nat p x hp hx _).mono ?_; rintro e w' ⟨rfl, rfl⟩
          go_wp2_with fail
          refine (mul_nat x x hx hx _).mono ?_; rintro e w' ⟨rfl, rfl⟩
          go_wp2_with fail
          go_round
          case rel => exact ⟨Gf.mul x x, Gf.mul p x, l / 2, hxx, hpx, by omega, HS.out, rfl, rfl, by go_num⟩
          case measure => simp [intOf]; omega
        · have ht : (bits .and .i64 (l : Int) 1 == 1) = false := by rw [hand, show l % 2 = 0 by omega]; rfl
          have HS : Hid (Gf.mul p (Gf.pw (Gf.mul x x) (l / 2)) = Gf.pw a L) := Lib.hid (by
            rw [Gf.pw_mul _ _ hx, ← HM.out, show 2 * (l / 2) = l by omega])
          clear hand h1 hl0
          go_wp2_with fail
          refine (mul_nat x x hx hx _).mono ?_; rintro e w' ⟨rfl, rfl⟩
          go_wp2_with fail
          go_round
          case rel => exact ⟨Gf.mul x x, p, l / 2, hxx, hp, by omega, HS.out, rfl, rfl, by go_num⟩
          case measure => simp [intOf]; omega
theorem exp_any (n : Int) (w : World) :
    Calls Try.prog 16 #[.int .i64 n] w fun e w' => e = .returned (.int .u8 (Gf.ex (n % 255).toNat : Nat)) ∧ w = w' := by
  have c : ∀ w, Calls Try.prog 12 #[.int .u8 2, .int .i64 n] w fun e w' => e = .returned (.int .u8 (Gf.ex (n % 255).toNat : Nat)) ∧ w = w' := by
    intro w
    have h := pow_nat 2 n (by decide) w
    have h2 : Gf.powI 2 n = Gf.ex (n % 255).toNat := by unfold Gf.powI; rw [if_neg (by decide), Gf.pw_two]
    rw [h2] at h
    exact h
  have C := Lib.hid c
  clear c
  go_enter Try.func16, Try.ntmps16
  go_wp2_with (go_at_call 12; refine (C.out _).mono ?_; rintro e w' ⟨rfl, rfl⟩)
  go_ret
  exact ⟨rfl, rfl⟩
end Go.Proofs.Ytegipidipkikgaa
