/- The laws' configs; an arena as made; two rows that are the same. -/
import Derived.Test.YtkpffnihnhlghaaDoorPMkRe
import Derived.Test.YtkpffnihnhlghaaDoorPOf
namespace Go.Proofs.YtkpffnihnhlghaaDoor
open Go.RowKit
def r6 (q : Int) : Int := (wrap64 (q.tmod 6 + 6)).tmod 6

end Go.Proofs.YtkpffnihnhlghaaDoor
