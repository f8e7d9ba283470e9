/- A step of an arena, of a word that there is: a Load. -/
import Derived.Test.YtkhbhkllnigbgaaDoorStep
namespace Go.Proofs.YtkhbhkllnigbgaaDoor
open Go.RowKit

end Go.Proofs.YtkhbhkllnigbgaaDoor
