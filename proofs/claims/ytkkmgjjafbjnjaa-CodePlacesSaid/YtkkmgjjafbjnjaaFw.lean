/- Contracts of the functions of package field that compute with numbers alone. -/
import Derived.Test.YtkkmgjjafbjnjaaRows
import Derived.Test.YtkkmgjjafbjnjaaGf
import Derived.WalkKit
import Derived.ProofKit
import Derived.OpenShut
import Derived.Laws.BitsAllLaws
import Derived.Lib.Hide
namespace Go.Proofs.Ytkkmgjjafbjnjaa
open Go.RowKit
set_option linter.unusedVariables false
theorem ret_int {k : IntKind} {a b : Int} (h : a = b) : Ending.returned (.int k a) = .returned (.int k b) := by rw [h]

namespace Gf
theorem and_128 (a : Nat) (ha : a < 256) : a &&& 128 = if a < 128 then 0 else 128 := by
  have h : (List.range 256).all (fun a => a &&& 128 == if a < 128 then 0 else 128) = true := by decide +kernel
  simpa using all_of h a ha
theorem and_1 (a : Nat) : a &&& 1 = a % 2 := Nat.and_two_pow_sub_one_eq_mod a 1
end Gf

theorem double_any (a : Nat) (ha : a < 256) (w : World) :
    Calls Try.prog 23 #[.int .u8 (a : Int)] w fun e w' => e = .returned (.int .u8 (Gf.dbl a : Nat)) ∧ w = w' := by
  have hb : bits .and .u8 (a : Int) 128 = ((a &&& 128 : Nat) : Int) := u8_and_nat a 128 ha (by decide)
  rw [Gf.and_128 a ha] at hb
  by_cases h : a < 128
  · rw [if_pos h] at hb
    have hc : (bits .and .u8 (a : Int) 128 != 0) = false := by rw [hb]; rfl
    clear hb
    have hd : Gf.dbl a = 2 * a := by unfold Gf.dbl; rw [if_pos h]
    have HD := Lib.hid hd
    clear hd
    go_enter Try.func23, Try.ntmps23
    go_wp2
    go_ret
    exact ⟨ret_int (by rw [HD.out]; omega), rfl⟩
  · rw [if_neg h] at hb
    have hc : (bits .and .u8 (a : Int) 128 != 0) = true := by rw [hb]; rfl
    clear hb
    have hx : bits .xor .u8 (IntKind.u8.wrap (a * 2)) 29 = (Gf.dbl a : Nat) := by
      have : IntKind.u8.wrap (a * 2) = ((2 * a - 256 : Nat) : Int) := by rw [IntKind.wrap_u8]; omega
      rw [this, show (29 : Int) = ((29 : Nat) : Int) from rfl, u8_xor_nat _ 29 (by omega) (by decide)]
      unfold Gf.dbl; rw [if_neg h]
    rw [IntKind.wrap_u8] at hx
    have HX := Lib.hid hx
    clear hx
    go_enter Try.func23, Try.ntmps23
    go_wp2
    go_ret
    exact ⟨ret_int (by rw [HX.out]), rfl⟩
theorem add_any (a b : Nat) (ha : a < 256) (hb : b < 256) (w : World) :
    Calls Try.prog 29 #[.int .u8 (a : Int), .int .u8 (b : Int)] w fun e w' => e = .returned (.int .u8 (a ^^^ b : Nat)) ∧ w = w' := by
  go_enter Try.func29, Try.ntmps29
  go_wp2
  go_ret
  exact ⟨ret_int (u8_xor_nat a b ha hb), rfl⟩

def MulAt (a b : Nat) (x y p : Value) : Prop :=
  ∃ k x' y' p' : Nat, x' < 256 ∧ y' < 256 ∧ p' < 256 ∧ y' < 2 ^ k ∧ Gf.mul a b = p' ^^^ Gf.mulN k x' y' ∧ x = .int .u8 x' ∧ y = .int .u8 y' ∧ p = .int .u8 p'
theorem mul_nat (a b : Nat) (ha : a < 256) (hb : b < 256) (w : World) :
    Calls Try.prog 20 #[.int .u8 (a : Int), .int .u8 (b : Int)] w fun e w' => e = .returned (.int .u8 (Gf.mul a b : Nat)) ∧ w = w' := by
  go_enter Try.func20, Try.ntmps20
  go_wp2
  go_loop [0, 1, 5] (fun x y p => MulAt a b x y p) (fun _ y _ => (intOf y).toNat)
  case atStart => exact ⟨8, a, b, 0, ha, hb, by decide, hb, by simp [Gf.mul], rfl, rfl, rfl⟩
  case round =>
    obtain ⟨k, x, y, p, hx, hy, hp, hk, hm, rfl, rfl, rfl⟩ := hrel
    have HM := Lib.hid hm
    clear hm
    by_cases h0 : y = 0
    · subst h0
      go_wp2
      go_ret
      exact ⟨ret_int (by rw [HM.out, Gf.mulN_zero_right]; simp), rfl⟩
    · have hne : ((y : Int) != 0) = true := by simpa using h0
      have hand : bits .and .u8 (y : Int) 1 = ((y % 2 : Nat) : Int) := by
        rw [← Gf.and_1]; exact u8_and_nat y 1 hy (by decide)
      obtain ⟨k, rfl⟩ : ∃ j, k = j + 1 := by
        cases k with
        | zero => omega
        | succ j => exact ⟨j, rfl⟩
      have hk2 : y / 2 < 2 ^ k := by rw [Nat.pow_succ] at hk; omega
      have hdl := Gf.dbl_lt x hx
      by_cases h1 : y % 2 = 1
      · have ht : (bits .and .u8 (y : Int) 1 == 1) = true := by rw [hand, h1]; rfl
        have hs : p ^^^ (x ^^^ Gf.mulN k (Gf.dbl x) (y / 2)) = (p ^^^ x) ^^^ Gf.mulN k (Gf.dbl x) (y / 2) := (Nat.xor_assoc _ _ _).symm
        have HS : Hid (Gf.mul a b = (p ^^^ x) ^^^ Gf.mulN k (Gf.dbl x) (y / 2)) := Lib.hid (by rw [← hs, HM.out, Gf.mulN, if_pos h1])
        have hpx := Gf.xor_lt hp hx
        have hbx : bits .xor .u8 (p : Int) (x : Int) = ((p ^^^ x : Nat) : Int) := u8_xor_nat p x hp hx
        have HB := Lib.hid hbx
        clear hand hs hbx h1
        go_wp2_with (go_at_call 23; refine (double_any x hx _).mono ?_; rintro e w' ⟨rfl, rfl⟩)
        go_round
        case rel => exact ⟨k, Gf.dbl x, y / 2, p ^^^ x, hdl, by omega, hpx, hk2, HS.out, rfl, by go_num, by rw [HB.out]⟩
        case measure => simp [intOf]; omega
      · have ht : (bits .and .u8 (y : Int) 1 == 1) = false := by rw [hand, show y % 2 = 0 by omega]; rfl
        have HS : Hid (Gf.mul a b = p ^^^ Gf.mulN k (Gf.dbl x) (y / 2)) := Lib.hid (by rw [HM.out, Gf.mulN, if_neg h1, Nat.zero_xor])
        clear hand h1
        go_wp2_with (go_at_call 23; refine (double_any x hx _).mono ?_; rintro e w' ⟨rfl, rfl⟩)
        go_round
        case rel => exact ⟨k, Gf.dbl x, y / 2, p, hdl, by omega, hp, hk2, HS.out, rfl, by go_num, rfl⟩
        case measure => simp [intOf]; omega

theorem mul_any (a b : Int) (ha0 : 0 ≤ a) (ha : a < 256) (hb0 : 0 ≤ b) (hb : b < 256) (w : World) :
    Calls Try.prog 20 #[.int .u8 a, .int .u8 b] w fun e w' => e = .returned (.int .u8 (Gf.mul a.toNat b.toNat : Nat)) ∧ w = w' := by
  obtain ⟨a, rfl⟩ := Int.eq_ofNat_of_zero_le ha0
  obtain ⟨b, rfl⟩ := Int.eq_ofNat_of_zero_le hb0
  exact mul_nat a b (by omega) (by omega) w

end Go.Proofs.Ytkkmgjjafbjnjaa
