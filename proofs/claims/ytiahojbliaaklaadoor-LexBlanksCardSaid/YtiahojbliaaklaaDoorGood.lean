/- Contract of the document's function Good: it answers goodB of the value's three cells, and what was in memory stays. No condition. -/
import Derived.Test.YtiahojbliaaklaaDoorRows
import Derived.WalkKit
import Derived.WalkSpells
import Derived.WalkLawsBesides
namespace Go.Proofs.YtiahojbliaaklaaDoor
open Go.RowKit

/-- Is the value good? -/
def goodB (k n : Int) (s : ByteArray) : Bool :=
  if k = 0 then n == 0 && s.toList.isEmpty
  else if k = 1 then (n == 0 || n == 1) && s.toList.isEmpty
  else if k = 2 then s.toList.isEmpty
  else if k = 3 then n == 0 && decide (s.size ≤ 60)
  else false

theorem ret_bool {a b : Bool} (h : a = b) : Ending.returned (.bool a) = .returned (.bool b) := by rw [h]
theorem ret_int {k : IntKind} {a b : Int} (h : a = b) : Ending.returned (.int k a) = .returned (.int k b) := by rw [h]

set_option maxHeartbeats 400000 in
theorem refGood_any (k n : Int) (s : ByteArray) (w : World) :
    Calls Tryd.prog 12 #[.agg #[.int .i64 k, .int .i64 n, .string s]] w fun e w' => e = .returned (.bool (goodB k n s)) ∧ Below w.heap.size w w' := by
  go_enter Tryd.func12, Tryd.ntmps12
  go_wp2
  all_goals
    go_ret
    refine ⟨ret_bool ?_, (Below.refl _ _).alloc (Nat.le_refl _) _⟩
    simp_all [goodB]
    all_goals first | done | omega | (intro _; omega)
end Go.Proofs.YtiahojbliaaklaaDoor
