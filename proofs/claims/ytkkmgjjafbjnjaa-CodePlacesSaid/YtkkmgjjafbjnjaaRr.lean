/- Contracts of the document's answers for polynomials, by definition: At, Trim, Eval. -/
import Derived.Test.YtkkmgjjafbjnjaaAp
import Derived.Test.YtkkmgjjafbjnjaaRfMul
namespace Go.Proofs.Ytkkmgjjafbjnjaa
open Go.RowKit
set_option linter.unusedVariables false
set_option linter.unusedSimpArgs false
def RtAt (p : List UInt8) (n : Value) : Prop := ∃ k : Nat, k ≤ p.length ∧ tl p p.length = tl p k ∧ n = .int .i64 k
end Go.Proofs.Ytkkmgjjafbjnjaa
