/- What each lift needs of the program. -/
import Derived.Test.YthelhimaoeimbaaAwake
import Derived.ChangeOld
import Derived.Below
namespace Go.Proofs.Ythelhimaoeimbaa
open Go.ChangeShapes Go.WideShapes Go.ChangeAt Go.RowKit

theorem own : ownKnob Try.prog.godebug = none := by kernel_rfl
theorem laidOut : laidOutB Try.prog = true := by kernel_rfl

end Go.Proofs.Ythelhimaoeimbaa
