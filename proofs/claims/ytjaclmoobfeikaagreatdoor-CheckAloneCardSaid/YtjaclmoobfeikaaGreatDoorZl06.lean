/- The law ValueGood walked: true at every value, whatever its cells. The contract of value.Text at good values. Asked: the table of powers of ten, which strconv.Itoa reads, is as the library's text lays it. The law ValueOrder walked: true at any three values. -/
import Derived.Test.YtjaclmoobfeikaaGreatDoorZl05
import Derived.Test.YtjaclmoobfeikaaGreatDoorZl02
import Derived.Lib.ItoaNum
import Derived.Lib.ItoaMem
import Derived.Lib.AppendIntMem
import Derived.Lib.LaidTab
import Derived.Stop.LaidErr
import Derived.MakeChecks
namespace Go.Proofs.YtjaclmoobfeikaaGreatDoor
open Go.RowKit

end Go.Proofs.YtjaclmoobfeikaaGreatDoor
namespace Go.Proofs.YtjaclmoobfeikaaGreatDoor
open Go.RowKit

/-- The table of powers of ten stands in memory. -/
def Tab10 (w : World) : Prop := Lib.TabIs Tryz.prog w "internal/strconv.uint64pow10" .u64 Lib.pow10Tab
theorem Tab10.keep {w w' : World} (h : Tab10 w) (hb : Below w.heap.size w w') : Tab10 w' := Lib.tabBelow_of_tabIs h w' hb

end Go.Proofs.YtjaclmoobfeikaaGreatDoor
namespace Go.Proofs.YtjaclmoobfeikaaGreatDoor
open Go.RowKit

/-- How far a run has come: nothing old has turned, and c blocks at least are new. -/
def Ran (w : World) (c : Nat) (w1 : World) : Prop := Below w.heap.size w w1 ∧ w.heap.size + c ≤ w1.heap.size
theorem Ran.step {w w1 w2 : World} {c : Nat} (h : Ran w c w1) (hb : Below w1.heap.size w1 w2) : Ran w c w2 :=
  ⟨h.1.trans (hb.mono (by have := h.2; omega)), by have := h.2; have := hb.size; omega⟩
theorem Ran.cell {w w1 w2 : World} {c : Nat} (h : Ran w c w1) (hb : Below w1.heap.size w1 w2) {b o : Nat} (hlt : b < w.heap.size + c) {v : Option Value} (hv : w1.cell? ⟨b, o, none⟩ = v) : w2.cell? ⟨b, o, none⟩ = v :=
  (hb.cell (p := ⟨b, o, none⟩) (by have := h.2; show b < _; omega)).trans hv

end Go.Proofs.YtjaclmoobfeikaaGreatDoor
