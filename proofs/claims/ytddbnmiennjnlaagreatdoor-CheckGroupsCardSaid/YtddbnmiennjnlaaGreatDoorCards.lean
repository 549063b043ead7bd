/-
  DERIVED. GIVEN WITH THE SEED: THE CARDS: each row of YtddbnmiennjnlaaGreatDoorRows.lean that lists a variable, with what it lists TIED to the program's text (the seventh form; the later family's looks); each row that meets fmt, with fmt's text TOLD by the authors' own Lean function (tested against real Go, not proved from fmt's source: count such statements apart). THE CARD IS WHAT COUNTS. Prove the row's statement (the work); the ties are given (YtddbnmiennjnlaaGreatDoorTie.lean); close each card by the builder's one call (the guide's Derived/Test/ToyasCard.lean, 'card_holds'). Laid BY PROGRAM, IN A SANDBOX (cutbox-door.mjs). By AI agents, Wed Nov 11 2026. No macro, syntax, notation, axiom, sorry.
-/
import Derived.Test.YtddbnmiennjnlaaGreatDoorRows
import GoSem.ClaimSeven
namespace Go.Proofs.YtddbnmiennjnlaaGreatDoor
namespace Rows

/-- THE TIED CARD OF 'stillroomlaw12.CheckAlone'. -/
def checkAloneCard : Claim7 := { stood := { row := checkAloneRow, standIns := [], harness := (true, "2bce36e4b924a4795813d20e3861a00c85beaafda579a1009eb7cfd6c7a3777b"), looks := true }, kinds := [], alts := [], laidByText := true, laidKinds := [.data, .data, .data, .handle, .sentinel, .sentinel, .sentinel, .sentinel, .sentinel, .sentinel, .sentinel, .sentinel, .sentinel, .sentinel, .sentinel], laidTests := true, laidLooks := .later }
def CheckAloneCardSaid : Prop := Claim7.holds Tryz.pinned (.plain (OpenSpec.ofChange checkAloneSpec)) checkAloneCard

/-- THE TIED CARD OF 'stillroomlaw12.CheckNames'. -/
def checkNamesCard : Claim7 := { stood := { row := checkNamesRow, standIns := [], harness := (true, "2bce36e4b924a4795813d20e3861a00c85beaafda579a1009eb7cfd6c7a3777b"), looks := true }, kinds := [], alts := [], laidByText := true, laidKinds := [.data, .data, .data, .handle, .sentinel, .sentinel, .sentinel, .sentinel, .sentinel, .sentinel, .sentinel, .sentinel, .sentinel, .sentinel, .sentinel], laidTests := true, laidLooks := .later }
def CheckNamesCardSaid : Prop := Claim7.holds Tryz.pinned (.plain (OpenSpec.ofChange checkNamesSpec)) checkNamesCard

/-- THE TIED CARD OF 'stillroomlaw12.CheckCompares'. -/
def checkComparesCard : Claim7 := { stood := { row := checkComparesRow, standIns := [], harness := (true, "2bce36e4b924a4795813d20e3861a00c85beaafda579a1009eb7cfd6c7a3777b"), looks := true }, kinds := [], alts := [], laidByText := true, laidKinds := [.data, .data, .data, .handle, .sentinel, .sentinel, .sentinel, .sentinel, .sentinel, .sentinel, .sentinel, .sentinel, .sentinel, .sentinel, .sentinel], laidTests := true, laidLooks := .later }
def CheckComparesCardSaid : Prop := Claim7.holds Tryz.pinned (.plain (OpenSpec.ofChange checkComparesSpec)) checkComparesCard

/-- THE TIED CARD OF 'stillroomlaw12.CheckGroups'. -/
def checkGroupsCard : Claim7 := { stood := { row := checkGroupsRow, standIns := [], harness := (true, "2bce36e4b924a4795813d20e3861a00c85beaafda579a1009eb7cfd6c7a3777b"), looks := true }, kinds := [], alts := [], laidByText := true, laidKinds := [.data, .data, .data, .handle, .sentinel, .sentinel, .sentinel, .sentinel, .sentinel, .sentinel, .sentinel, .sentinel, .sentinel, .sentinel, .sentinel], laidTests := true, laidLooks := .later }
def CheckGroupsCardSaid : Prop := Claim7.holds Tryz.pinned (.plain (OpenSpec.ofChange checkGroupsSpec)) checkGroupsCard

/-- THE SECOND FORM's CARD OF 'stillroomlaw12.CheckAlone'. -/
def checkAloneUptoCard : Claim7 := { stood := { row := checkAloneUptoRow, standIns := [], harness := (true, "2bce36e4b924a4795813d20e3861a00c85beaafda579a1009eb7cfd6c7a3777b"), looks := true }, kinds := [], alts := [], laidByText := true, laidKinds := [.data, .data, .data, .handle, .sentinel, .sentinel, .sentinel, .sentinel, .sentinel, .sentinel, .sentinel, .sentinel, .sentinel, .sentinel, .sentinel], laidTests := true, laidLooks := .later }
def CheckAloneUptoCardSaid : Prop := Claim7.holds Tryz.pinned (.plain (OpenSpec.upto checkAloneSpec)) checkAloneUptoCard

/-- THE SECOND FORM's CARD OF 'stillroomlaw12.CheckNames'. -/
def checkNamesUptoCard : Claim7 := { stood := { row := checkNamesUptoRow, standIns := [], harness := (true, "2bce36e4b924a4795813d20e3861a00c85beaafda579a1009eb7cfd6c7a3777b"), looks := true }, kinds := [], alts := [], laidByText := true, laidKinds := [.data, .data, .data, .handle, .sentinel, .sentinel, .sentinel, .sentinel, .sentinel, .sentinel, .sentinel, .sentinel, .sentinel, .sentinel, .sentinel], laidTests := true, laidLooks := .later }
def CheckNamesUptoCardSaid : Prop := Claim7.holds Tryz.pinned (.plain (OpenSpec.upto checkNamesSpec)) checkNamesUptoCard

/-- THE SECOND FORM's CARD OF 'stillroomlaw12.CheckCompares'. -/
def checkComparesUptoCard : Claim7 := { stood := { row := checkComparesUptoRow, standIns := [], harness := (true, "2bce36e4b924a4795813d20e3861a00c85beaafda579a1009eb7cfd6c7a3777b"), looks := true }, kinds := [], alts := [], laidByText := true, laidKinds := [.data, .data, .data, .handle, .sentinel, .sentinel, .sentinel, .sentinel, .sentinel, .sentinel, .sentinel, .sentinel, .sentinel, .sentinel, .sentinel], laidTests := true, laidLooks := .later }
def CheckComparesUptoCardSaid : Prop := Claim7.holds Tryz.pinned (.plain (OpenSpec.upto checkComparesSpec)) checkComparesUptoCard

/-- THE SECOND FORM's CARD OF 'stillroomlaw12.CheckGroups'. -/
def checkGroupsUptoCard : Claim7 := { stood := { row := checkGroupsUptoRow, standIns := [], harness := (true, "2bce36e4b924a4795813d20e3861a00c85beaafda579a1009eb7cfd6c7a3777b"), looks := true }, kinds := [], alts := [], laidByText := true, laidKinds := [.data, .data, .data, .handle, .sentinel, .sentinel, .sentinel, .sentinel, .sentinel, .sentinel, .sentinel, .sentinel, .sentinel, .sentinel, .sentinel], laidTests := true, laidLooks := .later }
def CheckGroupsUptoCardSaid : Prop := Claim7.holds Tryz.pinned (.plain (OpenSpec.upto checkGroupsSpec)) checkGroupsUptoCard
end Rows
end Go.Proofs.YtddbnmiennjnlaaGreatDoor
