/- Structs are gone through (Size). -/
import Derived.Test.YtkhbhkllnigbgaaDoorTSize
namespace Go.Proofs.YtkhbhkllnigbgaaDoor
open Go.RowKit

end Go.Proofs.YtkhbhkllnigbgaaDoor
