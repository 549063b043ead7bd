/- The contract of the reference's Text, at all good values. -/
import Derived.Test.YtiahojbliaaklaaGreatDoorRefQuote
namespace Go.Proofs.YtiahojbliaaklaaGreatDoor
open Go.RowKit

end Go.Proofs.YtiahojbliaaklaaGreatDoor
