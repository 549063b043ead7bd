/- Contract of the document's function Good: it answers goodB of the value's three cells, and what was in memory stays. No condition. -/
import Derived.Test.YtnfpomjcofhppaaDoorRows
import Derived.WalkKit
import Derived.WalkSpells
import Derived.WalkLawsBesides
namespace Go.Proofs.YtnfpomjcofhppaaDoor
open Go.RowKit

/-- Is the value good? -/
def goodB (k n : Int) (s : ByteArray) : Bool :=
  if k = 0 then n == 0 && s.toList.isEmpty
  else if k = 1 then (n == 0 || n == 1) && s.toList.isEmpty
  else if k = 2 then s.toList.isEmpty
  else if k = 3 then n == 0 && decide (s.size ≤ 60)
  else false

theorem ret_bool {a b : Bool} (h : a = b) : Ending.returned (.bool a) = .returned (.bool b) := by rw [h]
theorem ret_int {k : IntKind} {a b : Int} (h : a = b) : Ending.returned (.int k a) = .returned (.int k b) := by rw [h]

end Go.Proofs.YtnfpomjcofhppaaDoor
