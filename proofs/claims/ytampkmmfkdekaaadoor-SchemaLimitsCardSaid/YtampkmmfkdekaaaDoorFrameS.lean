/- What the cards of layer 6 share: their nine listed variables. -/
import Derived.Test.YtampkmmfkdekaaaDoorRows
import Derived.ProofKit
import Derived.OpenShut
import Derived.Deep.Slices
import Derived.Deep.Fields
import Derived.ChangeSame
import Derived.Lib.SmallJoins
import Derived.LaidMore
import Derived.LaidHandle
import Derived.Stop.Joined
import Derived.Lib.LaidTab
import Derived.Stop.LaidErr
import Derived.MakeChecks
namespace Go.Proofs.YtampkmmfkdekaaaDoor
open Go.ChangeShapes Go.WideShapes Go.ChangeAt Go.RowKit Go.Joins Go.Deep

theorem own : ownKnob Tryd.prog.godebug = none := by kernel_rfl
theorem laidOut : laidOutB Tryd.prog = true := by kernel_rfl
def laid9s : List (String × DataW Unit) := [("errors.errorType", Rows.laid_errors_errorType), ("stillroom/schema.errMany", Rows.laid_stillroom_schema_errMany), ("stillroom/schema.errWidth", Rows.laid_stillroom_schema_errWidth), ("stillroom/schema.errName", Rows.laid_stillroom_schema_errName), ("stillroom/schema.errKind", Rows.laid_stillroom_schema_errKind), ("stillroom/schema.errKeys", Rows.laid_stillroom_schema_errKeys), ("stillroom/schema.errNull", Rows.laid_stillroom_schema_errNull), ("stillroom/schema.errTable", Rows.laid_stillroom_schema_errTable), ("stillroom/schema.errTwice", Rows.laid_stillroom_schema_errTwice)]
theorem door_met9s (os : Os) (args : Array Value) : laidMetH Tryd.prog laid9s ((World.doorLaid Tryd.prog 400 os).forCall (fun _ _ => 0) ⟨#[], args, []⟩).memory :=
  laidMetH_of_parts3 (fuel := 8) (laidMet_of_run' 8 (by kernel_rfl) (by kernel_rfl)) (by kernel_rfl) (by kernel_rfl)
end Go.Proofs.YtampkmmfkdekaaaDoor
