/- Structs are gone through: tree.Size and tree.Deep. -/
import Derived.Test.YtkhbhkllnigbgaaDoorTSizeM
namespace Go.Proofs.YtkhbhkllnigbgaaDoor
open Go.RowKit
/-- What Size counts. -/
structure IS (q1 : Nat) (a : Nat × Nat) (W : World) : Prop where
  row : W.rowIs q1 3 1 (fun _ => .int .i64 ((a.1 : Nat) : Int))
  le : a.1 ≤ 1 + 300 * a.2
theorem IS.below {q1 : Nat} {a : Nat × Nat} {W W' : World} (h : IS q1 a W) (hb : Below W.heap.size W W') : IS q1 a W' := ⟨h.row.of_block (hb.block _ h.row.lt), h.le⟩

end Go.Proofs.YtkhbhkllnigbgaaDoor
