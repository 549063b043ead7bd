/- The law SchemaNames walked. -/
import Derived.Test.YtampkmmfkdekaaaDoorSchB
namespace Go.Proofs.YtampkmmfkdekaaaDoor
open Go.RowKit

theorem below6 {w w' : World} (h : w.grownBy w' none) : Below w.heap.size w w' := ⟨h.os, h.tape, h.output, h.size, fun k hk => h.block k hk (by simp)⟩
end Go.Proofs.YtampkmmfkdekaaaDoor
