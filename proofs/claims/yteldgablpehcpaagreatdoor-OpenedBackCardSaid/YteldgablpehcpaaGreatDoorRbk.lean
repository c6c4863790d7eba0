/- Rbk -/
import Derived.Test.YteldgablpehcpaaGreatDoorBc
set_option linter.unusedVariables false
set_option linter.unusedSimpArgs false
set_option maxRecDepth 100000
set_option maxHeartbeats 8000000
namespace Go.Proofs.YteldgablpehcpaaGreatDoor
open Go.RowKit
def slen(v:Value):Nat:=match v with
 | .slice _ l _=>l
 |_=>0
