/- An argument that is a string: the library's opener. -/
import Derived.Test.YtalilmnpobgffaaDoorVr
import Derived.ChangeMaps5
namespace Go.Proofs.YtalilmnpobgffaaDoor
end Go.Proofs.YtalilmnpobgffaaDoor
