/- Contracts of Add and Mul. -/
import Derived.Test.YtkkmgjjafbjnjaaFu
namespace Go.Proofs.Ytkkmgjjafbjnjaa
open Go.RowKit
set_option linter.unusedVariables false
def AddAt (w0 : World) (g n : Nat) (ys q : List UInt8) (i : Value) (wr : World) : Prop :=
  ∃ k : Nat, k ≤ q.length ∧ i = .int .i64 k ∧ Buf wr g n (mix ys 0 (q.take k) 1) ∧ Only g w0 wr
end Go.Proofs.Ytkkmgjjafbjnjaa
