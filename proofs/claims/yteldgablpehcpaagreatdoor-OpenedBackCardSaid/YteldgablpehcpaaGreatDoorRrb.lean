/- Rrb -/
import Derived.Test.YteldgablpehcpaaGreatDoorRbd
import Derived.Test.YteldgablpehcpaaGreatDoorDox
set_option linter.unusedVariables false
set_option linter.unusedSimpArgs false
set_option maxRecDepth 100000
set_option maxHeartbeats 8000000
namespace Go.Proofs.YteldgablpehcpaaGreatDoor
open Go.RowKit
def ptA(vs:Nat->BL)(k j i:Nat):BL:=tab (fun q=>if q % 8<j∨(q % 8=j/\q / 8<i)then co (vs (q % 8)) (q / 8)else 0) (8*k)
@[simp] theorem E4(vs:Nat->BL)(k j i:Nat):(ptA vs k j i).length=8*k:=by simp[ptA]
def r4(k:Nat):Ending:=.returned (.tuple #[.slice none 0 0,.slice none 0 0,.slice none 0 0,.int .i64 (k:Int)])
