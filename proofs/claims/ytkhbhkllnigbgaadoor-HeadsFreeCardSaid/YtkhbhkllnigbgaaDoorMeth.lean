/- An arena's state as a value; the methods: New, Load, Store, Swap, Last. -/
import Derived.Test.YtkhbhkllnigbgaaDoorStepL
import Derived.Test.YtkhbhkllnigbgaaDoorStepS
import Derived.Test.YtkhbhkllnigbgaaDoorStepH
import Derived.Test.YtkhbhkllnigbgaaDoorStepM
import Derived.Deep.OwnRows
namespace Go.Proofs.YtkhbhkllnigbgaaDoor
open Go.RowKit
/-- The trouble of a step where there is no i-th word. -/
def trouble (i : Int) : Value := .iface 155 (.agg #[.iface 55 (.int .i64 23), .int .i64 i])
def errV : Option Int → Value
  | none => .nilIface
  | some i => trouble i

set_option maxHeartbeats 400000 in
theorem c_new (w : World) : Calls Tryd.prog 53 #[.int .i64 23] w fun e w' => e = .returned (.iface 55 (.int .i64 23)) ∧ w = w' := by
  go_enter Tryd.func53, Tryd.ntmps53
  go_wp2
  go_ret
  exact ⟨rfl, rfl⟩

set_option maxHeartbeats 400000 in
theorem c_at (n : Int) (t : TypeId) (u : Value) (w : World) : Calls Tryd.prog 67 #[.iface t u, .int .i64 n] w fun e w' => e = .returned (.iface 155 (.agg #[.iface t u, .int .i64 n])) ∧ w = w' := by
  go_enter Tryd.func67, Tryd.ntmps67
  go_wp2
  go_ret
  exact ⟨rfl, rfl⟩


end Go.Proofs.YtkhbhkllnigbgaaDoor
