/- Contract of value.Good: it answers goodB of the value's three cells, and what was in memory stays. No condition. -/
import Derived.Test.YtampkmmfkdekaaaDoorGood
namespace Go.Proofs.YtampkmmfkdekaaaDoor
open Go.RowKit

set_option maxHeartbeats 400000 in
theorem good_any (k n : Int) (s : ByteArray) (w : World) :
    Calls Tryd.prog 25 #[.agg #[.int .i64 k, .int .i64 n, .string s]] w fun e w' => e = .returned (.bool (goodB k n s)) ∧ Below w.heap.size w w' := by
  go_enter Tryd.func25, Tryd.ntmps25
  go_wp2
  all_goals
    go_ret
    refine ⟨ret_bool ?_, (Below.refl _ _).alloc (Nat.le_refl _) _⟩
    simp_all [goodB]
    all_goals first | done | omega | (intro _; omega)

end Go.Proofs.YtampkmmfkdekaaaDoor
