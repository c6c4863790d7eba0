/- The inverse. -/
import Derived.Test.YtkkmgjjafbjnjaaGf
namespace Go.Proofs.Ytkkmgjjafbjnjaa
set_option linter.unusedVariables false
namespace Gf
/-- the inverse -/
def inv (a : Nat) : Nat := pw a 254
theorem inv_lt (a : Nat) : inv a < 256 := pw_lt _ _
theorem mul_inv (a : Nat) (h0 : a ≠ 0) (ha : a < 256) : mul a (inv a) = 1 := by
  obtain ⟨n, _, rfl⟩ := ex_of a h0 ha
  unfold inv
  rw [pw_ex, mul_ex_ex, ← ex_mod, show (n + n * 254) % 255 = 0 by omega]; rfl
end Gf
end Go.Proofs.Ytkkmgjjafbjnjaa
