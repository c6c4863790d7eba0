/- YHT -/
import Derived.Test.YtffheegeaghfjaaGreatDoorVr2
import Derived.Test.YtffheegeaghfjaaGreatDoorUx16
import Derived.Test.YtffheegeaghfjaaGreatDoorPkx
import Derived.Test.YtffheegeaghfjaaGreatDoorCh16
import Derived.Test.YtffheegeaghfjaaGreatDoorYHPT
set_option linter.unusedVariables false
set_option linter.unusedSimpArgs false
set_option maxRecDepth 100000
set_option maxHeartbeats 8000000
namespace Go.Proofs.YtffheegeaghfjaaGreatDoor
open Go.RowKit
namespace St
theorem exec_conv {P : Program} {o : Oper} {a : Act} {w : World} {s d : TypeId} {x : Operand} {y : Value} (ho : o.op = .convert s d x) (h : (convert s d (a.eval x)).run P w = .ok y w) : (execOp a.eval o).run P w = .ok (.value y) w := by
 simp [execOp, ho, h, Result.andThen]
end St
end Go.Proofs.YtffheegeaghfjaaGreatDoor
