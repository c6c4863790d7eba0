/- Contracts of the document's product, sum and value, coefficient by coefficient. -/
import Derived.Test.YtkkmgjjafbjnjaaRr
namespace Go.Proofs.Ytkkmgjjafbjnjaa
open Go.RowKit
set_option linter.unusedVariables false
set_option linter.unusedSimpArgs false
theorem rmul_u8 (x y : UInt8) (v : World) : Calls Try.prog 14 #[.int .u8 (x.toNat : Int), .int .u8 (y.toNat : Int)] v fun e w' => e = .returned (.int .u8 ((Gf.gm x y).toNat : Int)) ∧ w' = v := by
  rw [Gf.gm_nat]; exact (rmul_nat _ _ (UInt8.toNat_lt _) (UInt8.toNat_lt _) v).mono fun _ _ h => ⟨h.1, h.2.symm⟩
def cf (p q : List UInt8) (k : Nat) : UInt8 := Gf.sm (fun i => Gf.gm (co p i) (co q (k - i))) (k + 1)
theorem tab_cf (p q : List UInt8) : tab (cf p q) (p.length + q.length) = mulL p q := by
  refine list_ext (by simp [mulL]) fun i hi => ?_
  rw [co_tab _ _ _ (by simpa using hi), co_mulL']; rfl
theorem tab_succ (F : Nat → UInt8) (k : Nat) : tab F k ++ [F k] = tab F (k + 1) := by simp [tab, List.range_succ]
theorem own_dn {W W' : World} {n : Nat} {v : Value} {xs : List Value} {m : Nat} (h : W.ownsRow n 5 1 v m xs) (hd : Kit.Dn W W') : W'.ownsRow n 5 1 v m xs := by
  obtain ⟨k, rfl⟩ := hd
  exact h
def RoAt (p q : List UInt8) (w : World) (v kv : Value) (wr : World) : Prop :=
  ∃ k : Nat, k ≤ p.length + q.length ∧ kv = .int .i64 k ∧ wr.ownsRow w.heap.size 5 1 v k (bytesV (tab (cf p q) k)) ∧ Below w.heap.size w wr
def RiAt (p q : List UInt8) (k : Nat) (w : World) (c iv : Value) (wr : World) : Prop :=
  ∃ i : Nat, i ≤ k + 1 ∧ iv = .int .i64 i ∧ c = .int .u8 ((Gf.sm (fun i => Gf.gm (co p i) (co q (k - i))) i).toNat : Int) ∧ Kit.Dn w wr
end Go.Proofs.Ytkkmgjjafbjnjaa
