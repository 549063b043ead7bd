/- Contracts of what the orders are made of: cmp.Compare at a kind and at int, strings.Compare, cmp.Or at three ints, the document's Ints. Nothing is asked; memory stays as it was. -/
import Derived.Test.YtiahojbliaaklaaGreatDoorGood
import Derived.Test.YtiahojbliaaklaaGreatDoorShelf
namespace Go.Proofs.YtiahojbliaaklaaGreatDoor
open Go.RowKit

/-- Two numbers by their order: -1, 0, 1. -/
def cmp3 (a b : Int) : Int := if a < b then -1 else if b < a then 1 else 0

/-- The first that isn't nought. -/
def or3 (a b c : Int) : Int := if a ≠ 0 then a else if b ≠ 0 then b else c

end Go.Proofs.YtiahojbliaaklaaGreatDoor
