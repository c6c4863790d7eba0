/- Contracts of the document's answers for polynomials, by definition: At, Trim, Eval. Contracts of the document's product, sum and value, coefficient by coefficient. Contracts of the document's value and sum, and of Zeros. Contracts of the document's sum, and of Zeros. -/
import Derived.Test.YtfccpfmgkpcnoaaDoorApw
import Derived.Test.YtfccpfmgkpcnoaaDoorFwm
namespace Go.Proofs.YtfccpfmgkpcnoaaDoor
open Go.RowKit
set_option linter.unusedVariables false
set_option linter.unusedSimpArgs false
def RtAt (p : List UInt8) (n : Value) : Prop := ∃ k : Nat, k ≤ p.length ∧ tl p p.length = tl p k ∧ n = .int .i64 k
end Go.Proofs.YtfccpfmgkpcnoaaDoor
namespace Go.Proofs.YtfccpfmgkpcnoaaDoor
open Go.RowKit
set_option linter.unusedVariables false
set_option linter.unusedSimpArgs false
def cf (p q : List UInt8) (k : Nat) : UInt8 := Gf.sm (fun i => Gf.gm (co p i) (co q (k - i))) (k + 1)
theorem tab_cf (p q : List UInt8) : tab (cf p q) (p.length + q.length) = mulL p q := by
  refine list_ext (by simp [mulL]) fun i hi => ?_
  rw [co_tab _ _ _ (by simpa using hi), co_mulL']; rfl
theorem tab_succ (F : Nat → UInt8) (k : Nat) : tab F k ++ [F k] = tab F (k + 1) := by simp [tab, List.range_succ]
theorem own_dn {W W' : World} {n : Nat} {v : Value} {xs : List Value} {m : Nat} (h : W.ownsRow n 5 1 v m xs) (hd : Kit.Dn W W') : W'.ownsRow n 5 1 v m xs := by
  obtain ⟨k, rfl⟩ := hd
  exact h
def RoAt (p q : List UInt8) (w : World) (v kv : Value) (wr : World) : Prop :=
  ∃ k : Nat, k ≤ p.length + q.length ∧ kv = .int .i64 k ∧ wr.ownsRow w.heap.size 5 1 v k (bytesV (tab (cf p q) k)) ∧ Below w.heap.size w wr
def RiAt (p q : List UInt8) (k : Nat) (w : World) (c iv : Value) (wr : World) : Prop :=
  ∃ i : Nat, i ≤ k + 1 ∧ iv = .int .i64 i ∧ c = .int .u8 ((Gf.sm (fun i => Gf.gm (co p i) (co q (k - i))) i).toNat : Int) ∧ Kit.Dn w wr
end Go.Proofs.YtfccpfmgkpcnoaaDoor
namespace Go.Proofs.YtfccpfmgkpcnoaaDoor
open Go.RowKit
set_option linter.unusedVariables false
set_option linter.unusedSimpArgs false
def ReAt (z : List UInt8) (x : UInt8) (out pw i : Value) : Prop :=
  ∃ k : Nat, k ≤ z.length ∧ i = .int .i64 k ∧ out = .int .u8 ((Gf.ev k (co z) x).toNat : Int) ∧ pw = .int .u8 ((Gf.px x k).toNat : Int)
end Go.Proofs.YtfccpfmgkpcnoaaDoor
namespace Go.Proofs.YtfccpfmgkpcnoaaDoor
open Go.RowKit
set_option linter.unusedVariables false
set_option linter.unusedSimpArgs false
def RaAt (p q : List UInt8) (w : World) (v kv : Value) (wr : World) : Prop :=
  ∃ k : Nat, k ≤ max p.length q.length ∧ kv = .int .i64 k ∧ wr.ownsRow w.heap.size 5 1 v k (bytesV (tab (fun i => co p i ^^^ co q i) k)) ∧ Below w.heap.size w wr
/-- where a polynomial is 0, of the first k numbers -/
def zl (p : List UInt8) : Nat → List UInt8
  | 0 => []
  | k + 1 => if evL p (UInt8.ofNat k) = 0 then zl p k ++ [UInt8.ofNat k] else zl p k
theorem zl_length (p : List UInt8) (k : Nat) : (zl p k).length ≤ k := by
  induction k with
  | zero => exact Nat.le_refl _
  | succ k ih =>
    rw [zl]
    split
    · simp; omega
    · omega
end Go.Proofs.YtfccpfmgkpcnoaaDoor
