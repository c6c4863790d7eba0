/- Contracts of errors.Is at values of errors.New's make, and of the statements' numbers for errors. -/
import Derived.Test.YtmfbdelhkdimaaaDoorKit
import Derived.LaidEql
import Derived.Stop.Asserts
import Derived.RowKitTokens
import Derived.Lib.Hide
import Derived.Outline
namespace Go.Proofs.YtmfbdelhkdimaaaDoor
open Go.RowKit Go.Extern.Stop Go.Stop Go.Extern
set_option linter.unusedVariables false
namespace Er
end Er
end Go.Proofs.YtmfbdelhkdimaaaDoor
