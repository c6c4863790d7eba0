/- YHS -/
import Derived.Test.YtffheegeaghfjaaGreatDoorVr2
import Derived.Test.YtffheegeaghfjaaGreatDoorUx16
import Derived.Test.YtffheegeaghfjaaGreatDoorPkx
import Derived.Test.YtffheegeaghfjaaGreatDoorCh16
import Derived.Test.YtffheegeaghfjaaGreatDoorYHPS
set_option linter.unusedVariables false
set_option linter.unusedSimpArgs false
set_option maxRecDepth 100000
set_option maxHeartbeats 8000000
namespace Go.Proofs.YtffheegeaghfjaaGreatDoor
open Go.RowKit
namespace Gf
def cl (a b : Nat) : Nat -> Nat
 | 0 => 0
 | n + 1 => cl a b n ^^^ part b n (a * 2 ^ n)
end Gf
end Go.Proofs.YtffheegeaghfjaaGreatDoor
namespace Go.Proofs.YtffheegeaghfjaaGreatDoor
open Go.RowKit
end Go.Proofs.YtffheegeaghfjaaGreatDoor

namespace Go.Proofs.YtffheegeaghfjaaGreatDoor
open Go.RowKit
section
variable {P : Program} {md : Region.Mode} {ops : Array Oper} {Q : Exit -> Act -> World -> Prop} {S : World -> Prop} {fuel : Nat} {listed : Array Bool} {a : Act} {w : World}
end
theorem Da.sbad16_good {K : List UInt8} {N : Int} {F : List UInt8} {p : Pm15} (h0 : Da.bad15 p = 0) (h1 : (F.length : Int) = p.sz) : Da.sbad16 K N F p = Da.abad (Da.isMas K.length) (Da.inR N) /\ (allB F).length = Da.tot15 p.sz := by
 refine ⟨by unfold Da.sbad16; rw [if_pos h0, if_pos h1], ?_⟩
 rw [allB_length]
 unfold Da.tot15
 rw [show p.sz.toNat = F.length by omega]
end Go.Proofs.YtffheegeaghfjaaGreatDoor
