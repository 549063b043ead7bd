/- The fixed fact with which each statement begins is true, at whatever memory; and the contract of value.Text at a text of at most 60 bytes. -/
import Derived.Test.YtiahojbliaaklaaDoorOps
import Derived.Test.YtiahojbliaaklaaDoorOrd
import Derived.Test.YtiahojbliaaklaaDoorQuote
namespace Go.Proofs.YtiahojbliaaklaaDoor
open Go.RowKit

end Go.Proofs.YtiahojbliaaklaaDoor
