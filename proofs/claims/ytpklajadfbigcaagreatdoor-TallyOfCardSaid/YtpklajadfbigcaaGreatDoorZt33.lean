import Derived.Test.YtpklajadfbigcaaGreatDoorZt27
import Derived.Test.YtpklajadfbigcaaGreatDoorZt14
import Derived.Test.YtpklajadfbigcaaGreatDoorZt32
import Derived.Test.YtpklajadfbigcaaGreatDoorZt31
import Derived.Test.YtpklajadfbigcaaGreatDoorZt28
import Derived.Test.YtpklajadfbigcaaGreatDoorZt19
import Derived.Test.YtpklajadfbigcaaGreatDoorZt29
import Derived.Deep.LoopGhost
import Derived.Deep.CutRange
set_option linter.unusedSimpArgs false
set_option linter.unusedVariables false
namespace Go.Proofs.YtpklajadfbigcaaGreatDoor
open Go.RowKit
end Go.Proofs.YtpklajadfbigcaaGreatDoor
namespace Go.Proofs.YtpklajadfbigcaaGreatDoor
open Go.RowKit
end Go.Proofs.YtpklajadfbigcaaGreatDoor
namespace Go.Proofs.YtpklajadfbigcaaGreatDoor
open Go.RowKit
end Go.Proofs.YtpklajadfbigcaaGreatDoor
namespace Go.Proofs.YtpklajadfbigcaaGreatDoor
open Go.RowKit
theorem range_rowD {W : World} {g : Nat} {cs : Array Value} {T : TypeId} (h : W.heap[g]? = some (.cells cs T (0, 0))) : W.rangeAt g 0 cs.toList := fun j u hj => by
  rw [Nat.zero_add, cell_of_row _ _ j _ _ _ h]
  simpa using hj
end Go.Proofs.YtpklajadfbigcaaGreatDoor
namespace Go.Proofs.YtpklajadfbigcaaGreatDoor
open Go.RowKit
theorem Stays.fin {S : Nat → Prop} {W : World} {g : Nat} {x y : Array Value} (hS : ∀ j, S j → j ≠ g ∧ j ≠ g + 1) : Stays S W ((W.setRow g x).setRow (g + 1) y) :=
  ⟨by simp, fun j hj _ => (setRow_other _ _ _ _ (hS j hj).2).trans (setRow_other _ _ _ _ (hS j hj).1)⟩
end Go.Proofs.YtpklajadfbigcaaGreatDoor
