/- Contracts of strings.Builder's writing methods at this translation, over a builder that lies in a block of the call's own (Lib.IsBuilder): asked: the new length takes at most 2^47 bytes. -/
import Derived.Test.YtiahojbliaaklaaGreatDoorGood
import Derived.Test.YtiahojbliaaklaaGreatDoorShelf
import Derived.Lib.Builder
import Derived.Lib.AppendStr
namespace Go.Proofs.YtiahojbliaaklaaGreatDoor
open Go.RowKit

theorem byte_info : (Tryz.prog.info? 5).map (fun i => (i.zero, i.size, i.bytes)) = some (some (.int .u8 0), 1, 1) := by kernel_rfl

theorem lt_of_block {w : World} {b : Nat} {o : Obj} (h : w.heap[b]? = some o) : b < w.heap.size := by
  rcases Nat.lt_or_ge b w.heap.size with h' | h'
  · exact h'
  · simp [Array.getElem?_eq_none h'] at h

end Go.Proofs.YtiahojbliaaklaaGreatDoor
