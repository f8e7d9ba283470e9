/- cause.New. -/
import Derived.Test.YtfafffeeembceaaRows
import Derived.WalkKit
import Derived.WalkSpells
import Derived.WalkLawsBesides
import Derived.Lib.Hide
namespace Go.Proofs.Ytfafffeeembceaa.Cs
open Go.RowKit
set_option maxHeartbeats 400000 in
theorem new_code (c : Int) (w : World) (hc : (c == 0) = false) : Calls Try.prog 18 #[.int .i64 c] w fun e w' => e = .returned (.iface 49 (.int .i64 c)) ∧ w = w' := by
  go_enter Try.func18, Try.ntmps18
  go_wp2
  go_ret
  exact ⟨rfl, rfl⟩

end Go.Proofs.Ytfafffeeembceaa.Cs
