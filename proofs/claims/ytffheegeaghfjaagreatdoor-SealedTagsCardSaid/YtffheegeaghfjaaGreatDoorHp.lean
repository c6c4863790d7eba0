/- Hp -/
import Derived.Test.YtffheegeaghfjaaGreatDoorHk
set_option linter.unusedVariables false
set_option linter.unusedSimpArgs false
set_option maxRecDepth 100000
set_option maxHeartbeats 8000000
namespace Go.Proofs.YtffheegeaghfjaaGreatDoor
open Go.RowKit
theorem one_row (W : World) (x : UInt8) : RowIs (W.alloc (.cells #[.int .u8 (x.toNat : Int)] 5)) (some ⟨W.heap.size, 0, none⟩) (bytesV [x]) 1 :=
 (Arr.made W 5 (bytesV [x])).row (by unfold maxLen; simp)
end Go.Proofs.YtffheegeaghfjaaGreatDoor
