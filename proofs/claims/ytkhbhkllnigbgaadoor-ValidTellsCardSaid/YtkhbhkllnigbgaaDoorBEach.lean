/- The fields of structs, one by one: their own words are laid. -/
import Derived.Test.YtkhbhkllnigbgaaDoorBRefer
import Derived.Test.YtkhbhkllnigbgaaDoorTCheck
import Derived.Test.YtkhbhkllnigbgaaDoorBMath2
import Derived.Deep.RegionHeld3
namespace Go.Proofs.YtkhbhkllnigbgaaDoor
open Go.ChangeShapes Go.WideShapes Go.ChangeAt Go.RowKit
def ownTo (x : Tr) (i : Nat) : List Nat := (List.range i).map fun i => (x.kf i).num
theorem ownTo_succ (x : Tr) (i : Nat) : ownTo x (i + 1) = ownTo x i ++ [(x.kf i).num] := by simp [ownTo, List.range_succ]

end Go.Proofs.YtkhbhkllnigbgaaDoor
