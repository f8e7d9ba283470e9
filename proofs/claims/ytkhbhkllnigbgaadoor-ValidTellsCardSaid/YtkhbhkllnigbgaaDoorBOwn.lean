/- The builder in memory; a field's own word is laid. -/
import Derived.Test.YtkhbhkllnigbgaaDoorBMath
import Derived.Test.YtkhbhkllnigbgaaDoorTSize
import Derived.Test.YtkhbhkllnigbgaaDoorQApp
import Derived.Deep.AppendLies
import Derived.Deep.RegionLaw
namespace Go.Proofs.YtkhbhkllnigbgaaDoor
open Go.ChangeShapes Go.WideShapes Go.ChangeAt Go.RowKit
def wcells (L : List Nat) : List Value := L.map fun x => Value.int .u64 (x : Nat)

end Go.Proofs.YtkhbhkllnigbgaaDoor
