/-
  DERIVED. GIVEN WITH THE SEED: THE PROGRAM's TIES (one call each: nine closed facts by the kernel) AND EACH ROW's TIE, after the 31st guide's Derived/Test/Toyas{Tie, Card}.lean. No idea stands in it: it is a product of the set-up. Laid BY PROGRAM, IN A SANDBOX (cutbox-door.mjs). By AI agents, Wed Nov 11 2026. No macro, syntax, notation, axiom, sorry.
-/
import Derived.Test.YtnfpomjcofhppaaGreatDoorRows
import Derived.LaidByTextLater
import Derived.SevenTiedAt
import Derived.LaidSub
import Derived.LaidOnce
namespace Go.Proofs.YtnfpomjcofhppaaGreatDoor
open Go
set_option maxRecDepth 100000
theorem seatTie1 : Tryz.prog.laidByTextLater [("errors.errorType", Rows.laid_errors_errorType), ("stillroom/schema.errMany", Rows.laid_stillroom_schema_errMany), ("stillroom/schema.errWidth", Rows.laid_stillroom_schema_errWidth), ("stillroom/schema.errName", Rows.laid_stillroom_schema_errName), ("stillroom/schema.errKind", Rows.laid_stillroom_schema_errKind), ("stillroom/schema.errKeys", Rows.laid_stillroom_schema_errKeys), ("stillroom/schema.errNull", Rows.laid_stillroom_schema_errNull), ("stillroom/schema.errTable", Rows.laid_stillroom_schema_errTable), ("stillroom/schema.errTwice", Rows.laid_stillroom_schema_errTwice)] [.handle, .sentinel, .sentinel, .sentinel, .sentinel, .sentinel, .sentinel, .sentinel, .sentinel] true :=
  Program.laidByTextLater_by_one 168 8 2 (by kernel_rfl) (by kernel_rfl) (by kernel_rfl) (by kernel_rfl) (by kernel_rfl) (by kernel_rfl) (fun _ _ => by kernel_rfl)
theorem noOwnUnsafe : Tryz.pinned.checked.prog.headLifts.contains "ownunsafe" = false := by kernel_rfl
theorem tie : Tryz.prog.laidByTextLater [("errors.errorType", Rows.laid_errors_errorType), ("stillroom/schema.errMany", Rows.laid_stillroom_schema_errMany), ("stillroom/schema.errWidth", Rows.laid_stillroom_schema_errWidth), ("stillroom/schema.errName", Rows.laid_stillroom_schema_errName), ("stillroom/schema.errKind", Rows.laid_stillroom_schema_errKind), ("stillroom/schema.errKeys", Rows.laid_stillroom_schema_errKeys), ("stillroom/schema.errNull", Rows.laid_stillroom_schema_errNull), ("stillroom/schema.errTable", Rows.laid_stillroom_schema_errTable), ("stillroom/schema.errTwice", Rows.laid_stillroom_schema_errTwice)] [.handle, .sentinel, .sentinel, .sentinel, .sentinel, .sentinel, .sentinel, .sentinel, .sentinel] true :=
  Program.laidByTextLater.sub seatTie1 ["errors.errorType", "stillroom/schema.errMany", "stillroom/schema.errWidth", "stillroom/schema.errName", "stillroom/schema.errKind", "stillroom/schema.errKeys", "stillroom/schema.errNull", "stillroom/schema.errTable", "stillroom/schema.errTwice"] (by kernel_rfl) (by kernel_rfl)
theorem storeSteps_row_tie : Rows.storeStepsRow.laidByTextAt .later Tryz.pinned [.handle, .sentinel, .sentinel, .sentinel, .sentinel, .sentinel, .sentinel, .sentinel, .sentinel] true :=
  OpenClaim.laidByTextAt_later rfl rfl tie noOwnUnsafe
theorem storeStepsUpto_row_tie : Rows.storeStepsUptoRow.laidByTextAt .later Tryz.pinned [.handle, .sentinel, .sentinel, .sentinel, .sentinel, .sentinel, .sentinel, .sentinel, .sentinel] true :=
  OpenClaim.laidByTextAt_later rfl rfl tie noOwnUnsafe
end Go.Proofs.YtnfpomjcofhppaaGreatDoor
