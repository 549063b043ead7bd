/- Contract of value.Good: it answers goodB of the value's three cells, and what was in memory stays. No condition. -/
import Derived.Test.YtiahojbliaaklaaDoorGood
namespace Go.Proofs.YtiahojbliaaklaaDoor
open Go.RowKit

end Go.Proofs.YtiahojbliaaklaaDoor
