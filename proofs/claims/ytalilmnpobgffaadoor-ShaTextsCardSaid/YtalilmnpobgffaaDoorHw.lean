/- The words' functions: the code's, and the document's. -/
import Derived.Test.YtalilmnpobgffaaDoorHs
import Derived.Test.YtalilmnpobgffaaDoorSl
import Derived.Laws.BitsLemmas
import Derived.Lib.Hide
import Derived.Deep.QuietTactic
import Derived.BigQuiet
namespace Go.Proofs.YtalilmnpobgffaaDoor
open Go.RowKit
set_option linter.unusedVariables false
theorem u32_lt (x : UInt32) : x.toNat < 4294967296 := UInt32.toNat_lt x
theorem u32_cast (n : Nat) (h : n < 4294967296) : IntKind.u32.wrap (n : Int) = (n : Int) := by rw [IntKind.wrap_u32]; omega
theorem u32_and (a b : UInt32) : bits .and .u32 (a.toNat : Int) (b.toNat : Int) = ((a &&& b).toNat : Int) := by
  rw [UInt32.toNat_and]
  exact (bits_nat .u32 32 (by decide) (fun n h0 h1 => by rw [IntKind.wrap_u32]; omega) _ _ (u32_lt a) (u32_lt b)).1
theorem u32_or (a b : UInt32) : bits .or .u32 (a.toNat : Int) (b.toNat : Int) = ((a ||| b).toNat : Int) := by
  rw [UInt32.toNat_or]
  exact (bits_nat .u32 32 (by decide) (fun n h0 h1 => by rw [IntKind.wrap_u32]; omega) _ _ (u32_lt a) (u32_lt b)).2
theorem u32_xor (a b : UInt32) : bits .xor .u32 (a.toNat : Int) (b.toNat : Int) = ((a ^^^ b).toNat : Int) := by
  have ha : a.toNat % 2 ^ IntKind.u32.bits = a.toNat := Nat.mod_eq_of_lt (u32_lt a)
  have hb : b.toNat % 2 ^ IntKind.u32.bits = b.toNat := Nat.mod_eq_of_lt (u32_lt b)
  simp only [bits, BitVec.ofInt_natCast, BitVec.toNat_xor, BitVec.toNat_ofNat, ha, hb]
  rw [u32_cast _ (by rw [← UInt32.toNat_xor]; exact u32_lt _), UInt32.toNat_xor]
theorem u32_not (a : UInt32) : bits .xor .u32 IntKind.u32.max (a.toNat : Int) = ((~~~a).toNat : Int) := by
  rw [show IntKind.u32.max = (((4294967295 : UInt32).toNat : Nat) : Int) from rfl, u32_xor]
  rfl
theorem u32_add (a b : UInt32) : IntKind.u32.wrap ((a.toNat : Int) + (b.toNat : Int)) = ((Da.add a b).toNat : Int) := by
  rw [Da.add, UInt32.toNat_add, IntKind.wrap_u32]; omega
theorem u32_add' (a b : UInt32) : ((a.toNat : Int) + (b.toNat : Int)) % 4294967296 = ((Da.add a b).toNat : Int) := by rw [← u32_add, IntKind.wrap_u32]
theorem u32_shl (x n : Nat) : IntKind.u32.wrap ((x : Int) * 2 ^ n) = ((UInt32.ofNat (x * 2 ^ n)).toNat : Int) := by
  rw [UInt32.toNat_ofNat', IntKind.wrap_u32]; rw [Int.natCast_emod, Int.natCast_mul, Int.natCast_pow]; rfl
theorem u32_shl' (x n : Nat) : ((x : Int) * 2 ^ n) % 4294967296 = ((UInt32.ofNat (x * 2 ^ n)).toNat : Int) := by rw [← u32_shl, IntKind.wrap_u32]
theorem u32_shr (x : UInt32) (n : Nat) : ((x.toNat : Int) / 2 ^ n) = ((Da.shr x n).toNat : Int) := by
  have h : x.toNat / 2 ^ n < 4294967296 := Nat.lt_of_le_of_lt (Nat.div_le_self _ _) (u32_lt x)
  rw [Da.shr, UInt32.toNat_ofNat', Nat.mod_eq_of_lt h]; push_cast; rfl
theorem rotr_eq (x : UInt32) (n : Nat) : Da.rotr x n = Da.shr x n ||| UInt32.ofNat (x.toNat * 2 ^ (32 - n)) := rfl

theorem choice_any (x y z : UInt32) (w : World) : Calls Tryd.prog 28 #[.int .u32 (x.toNat : Int), .int .u32 (y.toNat : Int), .int .u32 (z.toNat : Int)] w fun e w' => e = .returned (.int .u32 ((Da.ch x y z).toNat : Int)) ∧ w' = w := by
  go_enter Tryd.func28, Tryd.ntmps28
  go_wp2_with fail
  case inr =>
  go_ret
  exact ⟨by rw [Da.ch, ← u32_xor, ← u32_and, ← u32_and, ← u32_not]; rfl, rfl⟩
theorem majority_any (x y z : UInt32) (w : World) : Calls Tryd.prog 29 #[.int .u32 (x.toNat : Int), .int .u32 (y.toNat : Int), .int .u32 (z.toNat : Int)] w fun e w' => e = .returned (.int .u32 ((Da.mj x y z).toNat : Int)) ∧ w' = w := by
  go_enter Tryd.func29, Tryd.ntmps29
  go_wp2_with fail
  go_ret
  exact ⟨by rw [Da.mj, ← u32_xor, ← u32_xor, ← u32_and, ← u32_and, ← u32_and]; rfl, rfl⟩
theorem rot_any (x : UInt32) (n : Nat) (h1 : 1 ≤ n) (h2 : n ≤ 31) (w : World) : Calls Tryd.prog 37 #[.int .u32 (x.toNat : Int), .int .i64 (-(n : Int))] w fun e w' => e = .returned (.int .u32 ((Da.rotr x n).toNat : Int)) ∧ w' = w := by
  have HB : Hid (bits .and .u64 (IntKind.u64.wrap (-(n : Int))) 31 = ((32 - n : Nat) : Int)) := Lib.hid (by
    have e : IntKind.u64.wrap (-(n : Int)) = ((18446744073709551616 - n : Nat) : Int) := by rw [IntKind.wrap_u64]; omega
    rw [e, show (31 : Int) = ((31 : Nat) : Int) from rfl, (bits_nat .u64 64 (by decide) (fun n h0 h1 => by rw [IntKind.wrap_u64]; omega) _ _ (by omega) (by decide)).1,
      show (31 : Nat) = 2 ^ 5 - 1 from rfl, Nat.and_two_pow_sub_one_eq_mod]
    omega)
  go_enter Tryd.func37, Tryd.ntmps37
  go_wp2_with (first | rw [HB.out])
  go_ret
  refine ⟨?_, rfl⟩
  rw [rotr_eq, UInt32.or_comm, ← u32_or, ← u32_shr, ← u32_shl', show 32 - (32 - n) = n by omega]; rfl
theorem rturn_any (x : UInt32) (n : Nat) (h1 : 1 ≤ n) (h2 : n ≤ 31) (w : World) : Calls Tryd.prog 20 #[.int .u32 (x.toNat : Int), .int .u64 (n : Int)] w fun e w' => e = .returned (.int .u32 ((Da.rotr x n).toNat : Int)) ∧ w' = w := by
  go_enter Tryd.func20, Tryd.ntmps20
  go_wp2_with fail
  go_ret
  refine ⟨?_, rfl⟩
  rw [rotr_eq, ← u32_or, ← u32_shr, ← u32_shl']; rfl
theorem turned_any (x : UInt32) (n : Nat) (h1 : 1 ≤ n) (h2 : n ≤ 31) (w : World) : Calls Tryd.prog 35 #[.int .u32 (x.toNat : Int), .int .i64 (n : Int)] w fun e w' => e = .returned (.int .u32 ((Da.rotr x n).toNat : Int)) ∧ w' = w := by
  go_enter Tryd.func35, Tryd.ntmps35
  go_wp2_with (refine (rot_any x n h1 h2 _).mono ?_; rintro e w' ⟨rfl, rfl⟩)
  go_ret
  exact ⟨rfl, rfl⟩
theorem great_any (x : UInt32) (a b c : Nat) (ha : 1 ≤ a ∧ a ≤ 31) (hb : 1 ≤ b ∧ b ≤ 31) (hc : 1 ≤ c ∧ c ≤ 31) (w : World) :
    Calls Tryd.prog 27 #[.int .u32 (x.toNat : Int), .int .i64 (a : Int), .int .i64 (b : Int), .int .i64 (c : Int)] w fun e w' => e = .returned (.int .u32 ((Da.great x a b c).toNat : Int)) ∧ w' = w := by
  go_enter Tryd.func27, Tryd.ntmps27
  go_wp2_with (refine (turned_any _ _ (by omega) (by omega) _).mono ?_; rintro e w' ⟨rfl, rfl⟩)
  go_ret
  exact ⟨by rw [Da.great, ← u32_xor, ← u32_xor]; rfl, rfl⟩
theorem small_any (x : UInt32) (a b c : Nat) (ha : 1 ≤ a ∧ a ≤ 31) (hb : 1 ≤ b ∧ b ≤ 31) (hc : 1 ≤ c ∧ c ≤ 31) (w : World) :
    Calls Tryd.prog 34 #[.int .u32 (x.toNat : Int), .int .i64 (a : Int), .int .i64 (b : Int), .int .i64 (c : Int)] w fun e w' => e = .returned (.int .u32 ((Da.small x a b c).toNat : Int)) ∧ Kit.Dn w w' := by
  go_enter Tryd.func34, Tryd.ntmps34
  go_wp2_with fail
  go_quiet ((exact Calls.quiet_of_same (turned_any _ _ (by omega) (by omega) _)))
  go_wp2_with fail
  go_ret
  exact ⟨by rw [Da.small, ← u32_xor, ← u32_xor, ← u32_shr]; rfl, ⟨_, rfl⟩⟩
end Go.Proofs.YtalilmnpobgffaaDoor
