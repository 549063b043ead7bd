/-
  DERIVED. GIVEN WITH THE SEED: THE PROGRAM's TIES (one call each: nine closed facts by the kernel) AND EACH ROW's TIE, after the 31st guide's Derived/Test/Toyas{Tie, Card}.lean. No idea stands in it: it is a product of the set-up. Laid BY PROGRAM, IN A SANDBOX (cutbox-door.mjs). By AI agents, Wed Nov 11 2026. No macro, syntax, notation, axiom, sorry.
-/
import Derived.Test.YtnfpomjcofhppaaDoorRows
import Derived.LaidByTextLater
import Derived.SevenTiedAt
import Derived.LaidSub
import Derived.LaidOnce
namespace Go.Proofs.YtnfpomjcofhppaaDoor
open Go
set_option maxRecDepth 100000
theorem seatTie1 : Tryd.prog.laidByTextLater [("errors.errorType", Rows.laid_errors_errorType), ("stillroom/codec.errCut", Rows.laid_stillroom_codec_errCut), ("stillroom/codec.errLoose", Rows.laid_stillroom_codec_errLoose), ("stillroom/codec.errWide", Rows.laid_stillroom_codec_errWide), ("stillroom/codec.errHead", Rows.laid_stillroom_codec_errHead), ("stillroom/codec.errMany", Rows.laid_stillroom_codec_errMany)] [.handle, .sentinel, .sentinel, .sentinel, .sentinel, .sentinel] true :=
  Program.laidByTextLater_by_one 111 8 2 (by kernel_rfl) (by kernel_rfl) (by kernel_rfl) (by kernel_rfl) (by kernel_rfl) (by kernel_rfl) (fun _ _ => by kernel_rfl)
theorem noOwnUnsafe : Tryd.pinned.checked.prog.headLifts.contains "ownunsafe" = false := by kernel_rfl
theorem tie : Tryd.prog.laidByTextLater [("errors.errorType", Rows.laid_errors_errorType), ("stillroom/codec.errCut", Rows.laid_stillroom_codec_errCut), ("stillroom/codec.errLoose", Rows.laid_stillroom_codec_errLoose), ("stillroom/codec.errWide", Rows.laid_stillroom_codec_errWide), ("stillroom/codec.errHead", Rows.laid_stillroom_codec_errHead), ("stillroom/codec.errMany", Rows.laid_stillroom_codec_errMany)] [.handle, .sentinel, .sentinel, .sentinel, .sentinel, .sentinel] true :=
  Program.laidByTextLater.sub seatTie1 ["errors.errorType", "stillroom/codec.errCut", "stillroom/codec.errLoose", "stillroom/codec.errWide", "stillroom/codec.errHead", "stillroom/codec.errMany"] (by kernel_rfl) (by kernel_rfl)
theorem codecOne_row_tie : Rows.codecOneRow.laidByTextAt .later Tryd.pinned [.handle, .sentinel, .sentinel, .sentinel, .sentinel, .sentinel] true :=
  OpenClaim.laidByTextAt_later rfl rfl tie noOwnUnsafe
theorem codecOneUpto_row_tie : Rows.codecOneUptoRow.laidByTextAt .later Tryd.pinned [.handle, .sentinel, .sentinel, .sentinel, .sentinel, .sentinel] true :=
  OpenClaim.laidByTextAt_later rfl rfl tie noOwnUnsafe
end Go.Proofs.YtnfpomjcofhppaaDoor
