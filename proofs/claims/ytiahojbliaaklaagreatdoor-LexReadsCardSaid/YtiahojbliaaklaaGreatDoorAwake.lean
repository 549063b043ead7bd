/- The fixed fact with which each statement begins is true, at whatever memory; and the contract of value.Text at a text of at most 60 bytes. -/
import Derived.Test.YtiahojbliaaklaaGreatDoorOps
import Derived.Test.YtiahojbliaaklaaGreatDoorOrd
import Derived.Test.YtiahojbliaaklaaGreatDoorQuote
namespace Go.Proofs.YtiahojbliaaklaaGreatDoor
open Go.RowKit

end Go.Proofs.YtiahojbliaaklaaGreatDoor
