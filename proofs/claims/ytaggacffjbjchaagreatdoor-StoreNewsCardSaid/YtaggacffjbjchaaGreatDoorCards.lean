/-
  DERIVED. GIVEN WITH THE SEED: THE CARDS: each row of YtaggacffjbjchaaGreatDoorRows.lean that lists a variable, with what it lists TIED to the program's text (the seventh form; the later family's looks); each row that meets fmt, with fmt's text TOLD by the authors' own Lean function (tested against real Go, not proved from fmt's source: count such statements apart). THE CARD IS WHAT COUNTS. Prove the row's statement (the work); the ties are given (YtaggacffjbjchaaGreatDoorTie.lean); close each card by the builder's one call (the guide's Derived/Test/ToyasCard.lean, 'card_holds'). Laid BY PROGRAM, IN A SANDBOX (cutbox-door.mjs). By AI agents, Wed Nov 11 2026. No macro, syntax, notation, axiom, sorry.
-/
import Derived.Test.YtaggacffjbjchaaGreatDoorRows
import GoSem.ClaimSeven
namespace Go.Proofs.YtaggacffjbjchaaGreatDoor
namespace Rows

/-- THE TIED CARD OF 'stillroomlaw09.StoreNews'. -/
def storeNewsCard : Claim7 := { stood := { row := storeNewsRow, standIns := [], harness := (true, "14f34418f56058bb1fe0ab7de728405c5ce2e630dd43db5317781e4b4a4e2177"), looks := true }, kinds := [], alts := [], laidByText := true, laidKinds := [.handle, .sentinel, .sentinel, .sentinel, .sentinel, .sentinel, .sentinel, .sentinel, .sentinel], laidTests := true, laidLooks := .later }
def StoreNewsCardSaid : Prop := Claim7.holds Tryz.pinned (.plain (OpenSpec.ofChange storeNewsSpec)) storeNewsCard

/-- THE TIED CARD OF 'stillroomlaw09.StoreRefuses'. -/
def storeRefusesCard : Claim7 := { stood := { row := storeRefusesRow, standIns := [], harness := (true, "14f34418f56058bb1fe0ab7de728405c5ce2e630dd43db5317781e4b4a4e2177"), looks := true }, kinds := [], alts := [], laidByText := true, laidKinds := [.handle, .sentinel, .sentinel, .sentinel, .sentinel, .sentinel, .sentinel, .sentinel, .sentinel], laidTests := true, laidLooks := .later }
def StoreRefusesCardSaid : Prop := Claim7.holds Tryz.pinned (.plain (OpenSpec.ofChange storeRefusesSpec)) storeRefusesCard

/-- THE TIED CARD OF 'stillroomlaw09.StoreSteps'. -/
def storeStepsCard : Claim7 := { stood := { row := storeStepsRow, standIns := [], harness := (true, "14f34418f56058bb1fe0ab7de728405c5ce2e630dd43db5317781e4b4a4e2177"), looks := true }, kinds := [], alts := [], laidByText := true, laidKinds := [.handle, .sentinel, .sentinel, .sentinel, .sentinel, .sentinel, .sentinel, .sentinel, .sentinel], laidTests := true, laidLooks := .later }
def StoreStepsCardSaid : Prop := Claim7.holds Tryz.pinned (.plain (OpenSpec.ofChange storeStepsSpec)) storeStepsCard

/-- THE TIED CARD OF 'stillroomlaw09.StoreSnaps'. -/
def storeSnapsCard : Claim7 := { stood := { row := storeSnapsRow, standIns := [], harness := (true, "14f34418f56058bb1fe0ab7de728405c5ce2e630dd43db5317781e4b4a4e2177"), looks := true }, kinds := [], alts := [], laidByText := true, laidKinds := [.handle, .sentinel, .sentinel, .sentinel, .sentinel, .sentinel, .sentinel, .sentinel, .sentinel], laidTests := true, laidLooks := .later }
def StoreSnapsCardSaid : Prop := Claim7.holds Tryz.pinned (.plain (OpenSpec.ofChange storeSnapsSpec)) storeSnapsCard

/-- THE TIED CARD OF 'stillroomlaw09.StoreFull'. -/
def storeFullCard : Claim7 := { stood := { row := storeFullRow, standIns := [], harness := (true, "14f34418f56058bb1fe0ab7de728405c5ce2e630dd43db5317781e4b4a4e2177"), looks := true }, kinds := [], alts := [], laidByText := true, laidKinds := [.handle, .sentinel, .sentinel, .sentinel, .sentinel, .sentinel, .sentinel, .sentinel, .sentinel], laidTests := true, laidLooks := .later }
def StoreFullCardSaid : Prop := Claim7.holds Tryz.pinned (.plain (OpenSpec.ofChange storeFullSpec)) storeFullCard

/-- THE SECOND FORM's CARD OF 'stillroomlaw09.StoreNews'. -/
def storeNewsUptoCard : Claim7 := { stood := { row := storeNewsUptoRow, standIns := [], harness := (true, "14f34418f56058bb1fe0ab7de728405c5ce2e630dd43db5317781e4b4a4e2177"), looks := true }, kinds := [], alts := [], laidByText := true, laidKinds := [.handle, .sentinel, .sentinel, .sentinel, .sentinel, .sentinel, .sentinel, .sentinel, .sentinel], laidTests := true, laidLooks := .later }
def StoreNewsUptoCardSaid : Prop := Claim7.holds Tryz.pinned (.plain (OpenSpec.upto storeNewsSpec)) storeNewsUptoCard

/-- THE SECOND FORM's CARD OF 'stillroomlaw09.StoreRefuses'. -/
def storeRefusesUptoCard : Claim7 := { stood := { row := storeRefusesUptoRow, standIns := [], harness := (true, "14f34418f56058bb1fe0ab7de728405c5ce2e630dd43db5317781e4b4a4e2177"), looks := true }, kinds := [], alts := [], laidByText := true, laidKinds := [.handle, .sentinel, .sentinel, .sentinel, .sentinel, .sentinel, .sentinel, .sentinel, .sentinel], laidTests := true, laidLooks := .later }
def StoreRefusesUptoCardSaid : Prop := Claim7.holds Tryz.pinned (.plain (OpenSpec.upto storeRefusesSpec)) storeRefusesUptoCard

/-- THE SECOND FORM's CARD OF 'stillroomlaw09.StoreSteps'. -/
def storeStepsUptoCard : Claim7 := { stood := { row := storeStepsUptoRow, standIns := [], harness := (true, "14f34418f56058bb1fe0ab7de728405c5ce2e630dd43db5317781e4b4a4e2177"), looks := true }, kinds := [], alts := [], laidByText := true, laidKinds := [.handle, .sentinel, .sentinel, .sentinel, .sentinel, .sentinel, .sentinel, .sentinel, .sentinel], laidTests := true, laidLooks := .later }
def StoreStepsUptoCardSaid : Prop := Claim7.holds Tryz.pinned (.plain (OpenSpec.upto storeStepsSpec)) storeStepsUptoCard

/-- THE SECOND FORM's CARD OF 'stillroomlaw09.StoreSnaps'. -/
def storeSnapsUptoCard : Claim7 := { stood := { row := storeSnapsUptoRow, standIns := [], harness := (true, "14f34418f56058bb1fe0ab7de728405c5ce2e630dd43db5317781e4b4a4e2177"), looks := true }, kinds := [], alts := [], laidByText := true, laidKinds := [.handle, .sentinel, .sentinel, .sentinel, .sentinel, .sentinel, .sentinel, .sentinel, .sentinel], laidTests := true, laidLooks := .later }
def StoreSnapsUptoCardSaid : Prop := Claim7.holds Tryz.pinned (.plain (OpenSpec.upto storeSnapsSpec)) storeSnapsUptoCard

/-- THE SECOND FORM's CARD OF 'stillroomlaw09.StoreFull'. -/
def storeFullUptoCard : Claim7 := { stood := { row := storeFullUptoRow, standIns := [], harness := (true, "14f34418f56058bb1fe0ab7de728405c5ce2e630dd43db5317781e4b4a4e2177"), looks := true }, kinds := [], alts := [], laidByText := true, laidKinds := [.handle, .sentinel, .sentinel, .sentinel, .sentinel, .sentinel, .sentinel, .sentinel, .sentinel], laidTests := true, laidLooks := .later }
def StoreFullUptoCardSaid : Prop := Claim7.holds Tryz.pinned (.plain (OpenSpec.upto storeFullSpec)) storeFullUptoCard
end Rows
end Go.Proofs.YtaggacffjbjchaaGreatDoor
