/- Rbd -/
import Derived.Test.YtffheegeaghfjaaGreatDoorBc
import Derived.Test.YtffheegeaghfjaaGreatDoorRep
set_option linter.unusedVariables false
set_option linter.unusedSimpArgs false
set_option maxRecDepth 100000
set_option maxHeartbeats 8000000
