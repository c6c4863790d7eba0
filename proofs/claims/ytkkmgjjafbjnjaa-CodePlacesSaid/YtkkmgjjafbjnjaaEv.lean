/- Contracts of value and Eval. -/
import Derived.Test.YtkkmgjjafbjnjaaMa
namespace Go.Proofs.Ytkkmgjjafbjnjaa
open Go.RowKit
set_option linter.unusedVariables false
def HorAt (z : List UInt8) (x : UInt8) (w : World) (s i : Value) (wr : World) : Prop :=
  ∃ k : Nat, k ≤ z.length ∧ i = .int .i64 ((z.length : Int) - k - 1) ∧ s = .int .u8 ((Gf.horner (co z) x k (z.length - k)).toNat : Int) ∧ Kit.Dn w wr
theorem tmul_dn (x y : UInt8) (B : Nat) (C : Array Value) (v : World) (hT : TabAt v B C) :
    Calls Try.prog 30 #[.pointer (some ⟨B, 0, none⟩), .int .u8 (x.toNat : Int), .int .u8 (y.toNat : Int)] v fun e w' => e = .returned (.int .u8 ((Gf.gm x y).toNat : Int)) ∧ ∃ n, w' = v.drewN n := by
  rw [Gf.gm_nat]; exact tmul_any _ _ (UInt8.toNat_lt _) (UInt8.toNat_lt _) B C v hT
theorem add_u8 (x y : UInt8) (v : World) : Calls Try.prog 29 #[.int .u8 (x.toNat : Int), .int .u8 (y.toNat : Int)] v fun e w' => e = .returned (.int .u8 ((x ^^^ y).toNat : Int)) ∧ w' = v := by
  rw [UInt8.toNat_xor]; exact (add_any _ _ (UInt8.toNat_lt _) (UInt8.toNat_lt _) v).mono fun _ _ h => ⟨h.1, h.2.symm⟩
end Go.Proofs.Ytkkmgjjafbjnjaa
