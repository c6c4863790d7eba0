/- The code's generator: the product of all roots is the document's. The document's sizes of words; its parity of what is too short or too long; the value that stands for a place. The code's sizes of words, and its values that stand for places. -/
import Derived.Test.YtfccpfmgkpcnoaaDoorGn
import Derived.Test.YtfccpfmgkpcnoaaDoorMu
import Derived.Test.YtfccpfmgkpcnoaaDoorFwm
import Derived.Test.YtfccpfmgkpcnoaaDoorDm
import Derived.Test.YtfccpfmgkpcnoaaDoorGf
import Derived.Test.YtfccpfmgkpcnoaaDoorRf
import Derived.Test.YtfccpfmgkpcnoaaDoorSl
import Derived.Test.YtfccpfmgkpcnoaaDoorKit
import Derived.Lib.Hide
import Derived.Test.YtfccpfmgkpcnoaaDoorTm
namespace Go.Proofs.YtfccpfmgkpcnoaaDoor
open Go.RowKit
set_option linter.unusedVariables false
set_option linter.unusedSimpArgs false
/-- alpha's powers, so many -/
def alL (n : Nat) : List UInt8 := tab Gf.al n
theorem co_two (p : List UInt8) (r : UInt8) (m : Nat) : co (mulL p [r, 1]) m = Gf.gm (co p m) r ^^^ (if m = 0 then 0 else co p (m - 1)) := by
  rw [co_mulL']
  cases m with
  | zero =>
    rw [if_pos rfl]
    show 0 ^^^ Gf.gm (co p 0) r = _
    rw [UInt8.zero_xor, UInt8.xor_zero]
  | succ m =>
    rw [if_neg (by omega), Nat.add_sub_cancel]
    show (Gf.sm _ m ^^^ Gf.gm (co p m) (co [r, 1] (m + 1 - m))) ^^^ Gf.gm (co p (m + 1)) (co [r, 1] (m + 1 - (m + 1))) = _
    rw [show m + 1 - m = 1 by omega, Nat.sub_self, show co [r, 1] 1 = 1 from rfl, show co [r, 1] 0 = r from rfl, Gf.gm_one]
    rw [show Gf.sm (fun i => Gf.gm (co p i) (co [r, 1] (m + 1 - i))) m = 0 from Gf.sm_zero fun i hi => by
      rw [show co [r, 1] (m + 1 - i) = 0 from co_ge (by show 2 ≤ _; omega), Gf.gm_zero]]
    rw [UInt8.zero_xor, UInt8.xor_comm]
theorem prod_gen (z : List UInt8) (n k : Nat) (hz : ∀ j, j < n → co z j = Gf.al j) (h : k ≤ n) (m : Nat) : co (prodL (fun r => [r, 1]) z k) m = co (genL k) m := by
  induction k generalizing m with
  | zero => rfl
  | succ k ih =>
    rw [prodL, genL, co_two, co_nx, hz k (by omega), ih (by omega), ih (by omega)]
theorem tr_gen (k : Nat) : tr (genL k) = genL k := tr_of_top fun _ => by
  rw [genL_length, Nat.add_sub_cancel, gen_top]
  decide
theorem tr_prod : tr (prodL (fun r => [r, 1]) (alL 32) 32) = genL 32 := by
  rw [← tr_gen 32]
  exact tr_congr fun m => prod_gen (alL 32) 32 32 (fun j hj => co_tab _ _ _ hj) (Nat.le_refl _) m
def CgAt (w : World) (g : Nat) (i : Value) (wr : World) : Prop :=
  ∃ k : Nat, k ≤ 32 ∧ i = .int .i64 k ∧ (∃ ys : List UInt8, ys.length = 32 ∧ (∀ j, j < k → co ys j = Gf.al j) ∧ wr.heap[g]? = some (.cells (bytesV ys).toArray 40 (0, 0))) ∧ Below w.heap.size w wr
theorem row_typed {X : World} {A : Nat} {z : List UInt8} {T : TypeId} (h : X.heap[A]? = some (.cells (bytesV z).toArray T (0, 0))) (hm : z.length ≤ maxLen) : RowIs X (some ⟨A, 0, none⟩) (bytesV z) z.length :=
  ⟨by simp, hm, fun h => (by cases h), fun h0 => ⟨A, 0, rfl, (Array.getElem?_eq_some_iff.1 h).1, fun i v hv => by
    unfold World.cell?
    rw [h]
    show (bytesV z).toArray[0 + i]? = _
    rw [Nat.zero_add, List.getElem?_toArray]
    exact hv⟩⟩
end Go.Proofs.YtfccpfmgkpcnoaaDoor
namespace Go.Proofs.YtfccpfmgkpcnoaaDoor
open Go.RowKit
set_option linter.unusedVariables false
set_option linter.unusedSimpArgs false
def PwAt (a n : Nat) (m out : Value) : Prop := ∃ k : Nat, k ≤ n ∧ m = .int .i64 (n - k : Nat) ∧ out = .int .u8 (Gf.pw a k : Nat)
end Go.Proofs.YtfccpfmgkpcnoaaDoor
namespace Go.Proofs.YtfccpfmgkpcnoaaDoor
open Go.RowKit
set_option linter.unusedVariables false
set_option linter.unusedSimpArgs false
/-- the value that stands for a place, or nought -/
def pwv (n p : Int) : UInt8 := if 33 ≤ n ∧ n ≤ 255 ∧ 0 ≤ p ∧ p < n then Gf.al (n - 1 - p).toNat else 0
end Go.Proofs.YtfccpfmgkpcnoaaDoor
