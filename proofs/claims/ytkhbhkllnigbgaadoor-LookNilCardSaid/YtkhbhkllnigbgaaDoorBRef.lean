/- References: put together, and taken apart. -/
import Derived.Test.YtkhbhkllnigbgaaDoorQAll
namespace Go.Proofs.YtkhbhkllnigbgaaDoor
open Go.RowKit
/-- A reference's word. -/
def refN (o n : Int) : Nat := (o % 4294967296).toNat + (n % 4294967296).toNat * 4294967296
theorem refN_lt (o n : Int) : refN o n < 18446744073709551616 := by unfold refN; omega
set_option maxRecDepth 100000 in
set_option maxHeartbeats 1000000 in
theorem r7ref_any (o n : Int) (w : World) : Calls Tryd.prog 44 #[.int .i64 o, .int .i64 n] w fun e w' => e = .returned (.int .u64 (refN o n : Nat)) ∧ w = w' := by
  go_enter Tryd.func44, Tryd.ntmps44
  go_wp2
  go_ret
  refine ⟨?_, rfl⟩
  show Ending.returned (.int .u64 (o % 4294967296 + n % 4294967296 * 4294967296)) = _
  rw [show ((refN o n : Nat) : Int) = o % 4294967296 + n % 4294967296 * 4294967296 by unfold refN; omega]
set_option maxRecDepth 100000 in
set_option maxHeartbeats 1000000 in
theorem bpart_any (x : Nat) (hx : x < 18446744073709551616) (w : World) : Calls Tryd.prog 96 #[.int .u64 (x : Nat)] w fun e w' => e = .returned (.tuple #[.int .i64 (x % 4294967296 : Nat), .int .i64 (x / 4294967296 : Nat)]) ∧ w = w' := by
  go_enter Tryd.func96, Tryd.ntmps96
  go_wp2
  go_ret2
  refine ⟨?_, rfl⟩
  show Ending.returned (.tuple #[.int .i64 ((x : Int) % 4294967296), .int .i64 ((x : Int) / 4294967296)]) = _
  rw [show (((x % 4294967296 : Nat)) : Int) = (x : Int) % 4294967296 by omega, show (((x / 4294967296 : Nat)) : Int) = (x : Int) / 4294967296 by omega]

end Go.Proofs.YtkhbhkllnigbgaaDoor
