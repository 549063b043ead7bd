/- Contract of value.Good: it answers goodB of the value's three cells, and what was in memory stays. No condition. -/
import Derived.Test.YtiahojbliaaklaaGreatDoorGood
namespace Go.Proofs.YtiahojbliaaklaaGreatDoor
open Go.RowKit

end Go.Proofs.YtiahojbliaaklaaGreatDoor
