/- A step of an arena, of a word that there is: a Swap that hits. -/
import Derived.Test.YtohncolnnkmljaaDoorStep
namespace Go.Proofs.YtohncolnnkmljaaDoor
open Go.RowKit

end Go.Proofs.YtohncolnnkmljaaDoor
