/- A word that refers to what is laid next. -/
import Derived.Test.YtkhbhkllnigbgaaDoorBOwn
import Derived.Laws.OwnMore
namespace Go.Proofs.YtkhbhkllnigbgaaDoor
open Go.ChangeShapes Go.WideShapes Go.ChangeAt Go.RowKit

end Go.Proofs.YtkhbhkllnigbgaaDoor
