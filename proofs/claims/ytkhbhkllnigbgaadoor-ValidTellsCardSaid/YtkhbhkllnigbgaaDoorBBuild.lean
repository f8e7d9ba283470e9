/- Structs are laid; a message is built. -/
import Derived.Test.YtkhbhkllnigbgaaDoorBLay
import Derived.Test.YtkhbhkllnigbgaaDoorTSize2
import Derived.Test.YtkhbhkllnigbgaaDoorCsTwo
namespace Go.Proofs.YtkhbhkllnigbgaaDoor
open Go.ChangeShapes Go.WideShapes Go.ChangeAt Go.RowKit

end Go.Proofs.YtkhbhkllnigbgaaDoor
