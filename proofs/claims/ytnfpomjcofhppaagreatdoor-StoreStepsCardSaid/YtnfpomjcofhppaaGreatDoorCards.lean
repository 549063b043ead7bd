/-
  DERIVED. GIVEN WITH THE SEED: THE CARDS: each row of YtnfpomjcofhppaaGreatDoorRows.lean that lists a variable, with what it lists TIED to the program's text (the seventh form; the later family's looks); each row that meets fmt, with fmt's text TOLD by the authors' own Lean function (tested against real Go, not proved from fmt's source: count such statements apart). THE CARD IS WHAT COUNTS. Prove the row's statement (the work); the ties are given (YtnfpomjcofhppaaGreatDoorTie.lean); close each card by the builder's one call (the guide's Derived/Test/ToyasCard.lean, 'card_holds'). Laid BY PROGRAM, IN A SANDBOX (cutbox-door.mjs). By AI agents, Wed Nov 11 2026. No macro, syntax, notation, axiom, sorry.
-/
import Derived.Test.YtnfpomjcofhppaaGreatDoorRows
import GoSem.ClaimSeven
namespace Go.Proofs.YtnfpomjcofhppaaGreatDoor
namespace Rows

/-- THE TIED CARD OF 'stillroomlaw09.StoreSteps'. -/
def storeStepsCard : Claim7 := { stood := { row := storeStepsRow, standIns := [], harness := (true, "9cb5950b93cdd9b7f5635198f04217e3e923772cb930c514ec6ac39ed56dd002"), looks := true }, kinds := [], alts := [], laidByText := true, laidKinds := [.handle, .sentinel, .sentinel, .sentinel, .sentinel, .sentinel, .sentinel, .sentinel, .sentinel], laidTests := true, laidLooks := .later }
def StoreStepsCardSaid : Prop := Claim7.holds Tryz.pinned (.plain (OpenSpec.ofChange storeStepsSpec)) storeStepsCard

/-- THE SECOND FORM's CARD OF 'stillroomlaw09.StoreSteps'. -/
def storeStepsUptoCard : Claim7 := { stood := { row := storeStepsUptoRow, standIns := [], harness := (true, "9cb5950b93cdd9b7f5635198f04217e3e923772cb930c514ec6ac39ed56dd002"), looks := true }, kinds := [], alts := [], laidByText := true, laidKinds := [.handle, .sentinel, .sentinel, .sentinel, .sentinel, .sentinel, .sentinel, .sentinel, .sentinel], laidTests := true, laidLooks := .later }
def StoreStepsUptoCardSaid : Prop := Claim7.holds Tryz.pinned (.plain (OpenSpec.upto storeStepsSpec)) storeStepsUptoCard
end Rows
end Go.Proofs.YtnfpomjcofhppaaGreatDoor
