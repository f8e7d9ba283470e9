/- The document's Right. -/
import Derived.Test.YtfafffeeembceaaQRow
namespace Go.Proofs.Ytfafffeeembceaa
open Go.RowKit

end Go.Proofs.Ytfafffeeembceaa
