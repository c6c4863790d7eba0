/- Dox -/
import Derived.Deep.Onto
import Derived.StillTailTactics
import Derived.Test.YtffheegeaghfjaaGreatDoorRep
import Derived.OwnWalk
import Derived.BigRegion
import Derived.BigQuiet
set_option linter.unusedVariables false
set_option linter.unusedSimpArgs false
set_option maxRecDepth 100000
set_option maxHeartbeats 8000000
namespace Go.Proofs.YtffheegeaghfjaaGreatDoor
open Go.RowKit
def trn (a k i : Nat) : Nat := if i = a then k else if i = k then a else i
end Go.Proofs.YtffheegeaghfjaaGreatDoor
namespace Go.Proofs.YtffheegeaghfjaaGreatDoor
end Go.Proofs.YtffheegeaghfjaaGreatDoor
namespace Go.Proofs.YtffheegeaghfjaaGreatDoor
open Go.RowKit
def lk (P : List Nat) (x : List UInt8) (k : Nat) : List (Nat × UInt8) := (List.range k).map fun i => (P.getD i 0, co x i)
end Go.Proofs.YtffheegeaghfjaaGreatDoor
