/- Rw16 -/
import Derived.Test.YtffheegeaghfjaaGreatDoorSx16
import Derived.Test.YtffheegeaghfjaaGreatDoorLw
import Derived.BigQuiet
set_option linter.unusedVariables false
set_option linter.unusedSimpArgs false
set_option maxRecDepth 100000
set_option maxHeartbeats 8000000
namespace Go.Proofs.YtffheegeaghfjaaGreatDoor
open Go.RowKit
theorem Els.key16 {K : List UInt8} {N : Int} {xs : List Value} {w : World} (h : Els w (Da.keysL K N) xs) (j : Nat) (hj : j < 5) : ∃ x, xs[j]? = some x /\ RowV (Da.key16 K N j) x w := h.get j hj
theorem Da.key16_length (K : List UInt8) (N : Int) (j : Nat) (hj : j < 5) : (Da.key16 K N j).length = 32 := by
 match j, hj with
 | 0, _ | 1, _ | 2, _ | 3, _ | 4, _ => exact Da.keyL_length _ _ _
 | n + 5, h => omega
theorem Da.n16_int {p : Pm15} (h : Da.Right15 p) : (Da.tot15 p.sz : Int) + p.se = ((Da.n16 p : Nat) : Int) := by
 have := h.e0
 unfold Da.n16
 omega
end Go.Proofs.YtffheegeaghfjaaGreatDoor
