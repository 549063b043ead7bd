/-
  DERIVED. GIVEN WITH THE SEED: THE CARDS: each row of YtppigamibgefaaaGreatDoorRows.lean that lists a variable, with what it lists TIED to the program's text (the seventh form; the later family's looks); each row that meets fmt, with fmt's text TOLD by the authors' own Lean function (tested against real Go, not proved from fmt's source: count such statements apart). THE CARD IS WHAT COUNTS. Prove the row's statement (the work); the ties are given (YtppigamibgefaaaGreatDoorTie.lean); close each card by the builder's one call (the guide's Derived/Test/ToyasCard.lean, 'card_holds'). Laid BY PROGRAM, IN A SANDBOX (cutbox-door.mjs). By AI agents, Wed Nov 11 2026. No macro, syntax, notation, axiom, sorry.
-/
import Derived.Test.YtppigamibgefaaaGreatDoorRows
import GoSem.ClaimSeven
namespace Go.Proofs.YtppigamibgefaaaGreatDoor
namespace Rows

/-- THE TIED CARD OF 'stillroomlaw11.ParseSame'. -/
def parseSameCard : Claim7 := { stood := { row := parseSameRow, standIns := [], harness := (true, "ee2f9d4f28a2e0cfd4b04a0d349719cb1f72ce692d03c8a24ad33b43d49bcab5"), looks := true }, kinds := [], alts := [], laidByText := true, laidKinds := [.data, .data, .data, .handle, .sentinel, .sentinel, .sentinel, .sentinel, .sentinel, .sentinel], laidTests := true, laidLooks := .later }
def ParseSameCardSaid : Prop := Claim7.holds Tryz.pinned (.plain (OpenSpec.ofChange parseSameSpec)) parseSameCard

/-- THE TIED CARD OF 'stillroomlaw11.ParseBinds'. -/
def parseBindsCard : Claim7 := { stood := { row := parseBindsRow, standIns := [], harness := (true, "ee2f9d4f28a2e0cfd4b04a0d349719cb1f72ce692d03c8a24ad33b43d49bcab5"), looks := true }, kinds := [], alts := [], laidByText := true, laidKinds := [.data, .data, .data, .handle, .sentinel, .sentinel, .sentinel, .sentinel, .sentinel, .sentinel], laidTests := true, laidLooks := .later }
def ParseBindsCardSaid : Prop := Claim7.holds Tryz.pinned (.plain (OpenSpec.ofChange parseBindsSpec)) parseBindsCard

/-- THE TIED CARD OF 'stillroomlaw11.ParseTurns'. -/
def parseTurnsCard : Claim7 := { stood := { row := parseTurnsRow, standIns := [], harness := (true, "ee2f9d4f28a2e0cfd4b04a0d349719cb1f72ce692d03c8a24ad33b43d49bcab5"), looks := true }, kinds := [], alts := [], laidByText := true, laidKinds := [.data, .data, .data, .handle, .sentinel, .sentinel, .sentinel, .sentinel, .sentinel, .sentinel], laidTests := true, laidLooks := .later }
def ParseTurnsCardSaid : Prop := Claim7.holds Tryz.pinned (.plain (OpenSpec.ofChange parseTurnsSpec)) parseTurnsCard

/-- THE TIED CARD OF 'stillroomlaw11.ParseDeeps'. -/
def parseDeepsCard : Claim7 := { stood := { row := parseDeepsRow, standIns := [], harness := (true, "ee2f9d4f28a2e0cfd4b04a0d349719cb1f72ce692d03c8a24ad33b43d49bcab5"), looks := true }, kinds := [], alts := [], laidByText := true, laidKinds := [.data, .data, .data, .handle, .sentinel, .sentinel, .sentinel, .sentinel, .sentinel, .sentinel], laidTests := true, laidLooks := .later }
def ParseDeepsCardSaid : Prop := Claim7.holds Tryz.pinned (.plain (OpenSpec.ofChange parseDeepsSpec)) parseDeepsCard

/-- THE TIED CARD OF 'stillroomlaw11.ParseLimits'. -/
def parseLimitsCard : Claim7 := { stood := { row := parseLimitsRow, standIns := [], harness := (true, "ee2f9d4f28a2e0cfd4b04a0d349719cb1f72ce692d03c8a24ad33b43d49bcab5"), looks := true }, kinds := [], alts := [], laidByText := true, laidKinds := [.data, .data, .data, .handle, .sentinel, .sentinel, .sentinel, .sentinel, .sentinel, .sentinel], laidTests := true, laidLooks := .later }
def ParseLimitsCardSaid : Prop := Claim7.holds Tryz.pinned (.plain (OpenSpec.ofChange parseLimitsSpec)) parseLimitsCard

/-- THE TIED CARD OF 'stillroomlaw12.CheckAlone'. -/
def checkAloneCard : Claim7 := { stood := { row := checkAloneRow, standIns := [], harness := (true, "ee2f9d4f28a2e0cfd4b04a0d349719cb1f72ce692d03c8a24ad33b43d49bcab5"), looks := true }, kinds := [], alts := [], laidByText := true, laidKinds := [.data, .data, .data, .handle, .sentinel, .sentinel, .sentinel, .sentinel, .sentinel, .sentinel, .sentinel, .sentinel, .sentinel, .sentinel, .sentinel], laidTests := true, laidLooks := .later }
def CheckAloneCardSaid : Prop := Claim7.holds Tryz.pinned (.plain (OpenSpec.ofChange checkAloneSpec)) checkAloneCard

/-- THE TIED CARD OF 'stillroomlaw12.CheckNames'. -/
def checkNamesCard : Claim7 := { stood := { row := checkNamesRow, standIns := [], harness := (true, "ee2f9d4f28a2e0cfd4b04a0d349719cb1f72ce692d03c8a24ad33b43d49bcab5"), looks := true }, kinds := [], alts := [], laidByText := true, laidKinds := [.data, .data, .data, .handle, .sentinel, .sentinel, .sentinel, .sentinel, .sentinel, .sentinel, .sentinel, .sentinel, .sentinel, .sentinel, .sentinel], laidTests := true, laidLooks := .later }
def CheckNamesCardSaid : Prop := Claim7.holds Tryz.pinned (.plain (OpenSpec.ofChange checkNamesSpec)) checkNamesCard

/-- THE TIED CARD OF 'stillroomlaw12.CheckCompares'. -/
def checkComparesCard : Claim7 := { stood := { row := checkComparesRow, standIns := [], harness := (true, "ee2f9d4f28a2e0cfd4b04a0d349719cb1f72ce692d03c8a24ad33b43d49bcab5"), looks := true }, kinds := [], alts := [], laidByText := true, laidKinds := [.data, .data, .data, .handle, .sentinel, .sentinel, .sentinel, .sentinel, .sentinel, .sentinel, .sentinel, .sentinel, .sentinel, .sentinel, .sentinel], laidTests := true, laidLooks := .later }
def CheckComparesCardSaid : Prop := Claim7.holds Tryz.pinned (.plain (OpenSpec.ofChange checkComparesSpec)) checkComparesCard

/-- THE TIED CARD OF 'stillroomlaw12.CheckGroups'. -/
def checkGroupsCard : Claim7 := { stood := { row := checkGroupsRow, standIns := [], harness := (true, "ee2f9d4f28a2e0cfd4b04a0d349719cb1f72ce692d03c8a24ad33b43d49bcab5"), looks := true }, kinds := [], alts := [], laidByText := true, laidKinds := [.data, .data, .data, .handle, .sentinel, .sentinel, .sentinel, .sentinel, .sentinel, .sentinel, .sentinel, .sentinel, .sentinel, .sentinel, .sentinel], laidTests := true, laidLooks := .later }
def CheckGroupsCardSaid : Prop := Claim7.holds Tryz.pinned (.plain (OpenSpec.ofChange checkGroupsSpec)) checkGroupsCard

/-- THE SECOND FORM's CARD OF 'stillroomlaw11.ParseSame'. -/
def parseSameUptoCard : Claim7 := { stood := { row := parseSameUptoRow, standIns := [], harness := (true, "ee2f9d4f28a2e0cfd4b04a0d349719cb1f72ce692d03c8a24ad33b43d49bcab5"), looks := true }, kinds := [], alts := [], laidByText := true, laidKinds := [.data, .data, .data, .handle, .sentinel, .sentinel, .sentinel, .sentinel, .sentinel, .sentinel], laidTests := true, laidLooks := .later }
def ParseSameUptoCardSaid : Prop := Claim7.holds Tryz.pinned (.plain (OpenSpec.upto parseSameSpec)) parseSameUptoCard

/-- THE SECOND FORM's CARD OF 'stillroomlaw11.ParseBinds'. -/
def parseBindsUptoCard : Claim7 := { stood := { row := parseBindsUptoRow, standIns := [], harness := (true, "ee2f9d4f28a2e0cfd4b04a0d349719cb1f72ce692d03c8a24ad33b43d49bcab5"), looks := true }, kinds := [], alts := [], laidByText := true, laidKinds := [.data, .data, .data, .handle, .sentinel, .sentinel, .sentinel, .sentinel, .sentinel, .sentinel], laidTests := true, laidLooks := .later }
def ParseBindsUptoCardSaid : Prop := Claim7.holds Tryz.pinned (.plain (OpenSpec.upto parseBindsSpec)) parseBindsUptoCard

/-- THE SECOND FORM's CARD OF 'stillroomlaw11.ParseTurns'. -/
def parseTurnsUptoCard : Claim7 := { stood := { row := parseTurnsUptoRow, standIns := [], harness := (true, "ee2f9d4f28a2e0cfd4b04a0d349719cb1f72ce692d03c8a24ad33b43d49bcab5"), looks := true }, kinds := [], alts := [], laidByText := true, laidKinds := [.data, .data, .data, .handle, .sentinel, .sentinel, .sentinel, .sentinel, .sentinel, .sentinel], laidTests := true, laidLooks := .later }
def ParseTurnsUptoCardSaid : Prop := Claim7.holds Tryz.pinned (.plain (OpenSpec.upto parseTurnsSpec)) parseTurnsUptoCard

/-- THE SECOND FORM's CARD OF 'stillroomlaw11.ParseDeeps'. -/
def parseDeepsUptoCard : Claim7 := { stood := { row := parseDeepsUptoRow, standIns := [], harness := (true, "ee2f9d4f28a2e0cfd4b04a0d349719cb1f72ce692d03c8a24ad33b43d49bcab5"), looks := true }, kinds := [], alts := [], laidByText := true, laidKinds := [.data, .data, .data, .handle, .sentinel, .sentinel, .sentinel, .sentinel, .sentinel, .sentinel], laidTests := true, laidLooks := .later }
def ParseDeepsUptoCardSaid : Prop := Claim7.holds Tryz.pinned (.plain (OpenSpec.upto parseDeepsSpec)) parseDeepsUptoCard

/-- THE SECOND FORM's CARD OF 'stillroomlaw11.ParseLimits'. -/
def parseLimitsUptoCard : Claim7 := { stood := { row := parseLimitsUptoRow, standIns := [], harness := (true, "ee2f9d4f28a2e0cfd4b04a0d349719cb1f72ce692d03c8a24ad33b43d49bcab5"), looks := true }, kinds := [], alts := [], laidByText := true, laidKinds := [.data, .data, .data, .handle, .sentinel, .sentinel, .sentinel, .sentinel, .sentinel, .sentinel], laidTests := true, laidLooks := .later }
def ParseLimitsUptoCardSaid : Prop := Claim7.holds Tryz.pinned (.plain (OpenSpec.upto parseLimitsSpec)) parseLimitsUptoCard

/-- THE SECOND FORM's CARD OF 'stillroomlaw12.CheckAlone'. -/
def checkAloneUptoCard : Claim7 := { stood := { row := checkAloneUptoRow, standIns := [], harness := (true, "ee2f9d4f28a2e0cfd4b04a0d349719cb1f72ce692d03c8a24ad33b43d49bcab5"), looks := true }, kinds := [], alts := [], laidByText := true, laidKinds := [.data, .data, .data, .handle, .sentinel, .sentinel, .sentinel, .sentinel, .sentinel, .sentinel, .sentinel, .sentinel, .sentinel, .sentinel, .sentinel], laidTests := true, laidLooks := .later }
def CheckAloneUptoCardSaid : Prop := Claim7.holds Tryz.pinned (.plain (OpenSpec.upto checkAloneSpec)) checkAloneUptoCard

/-- THE SECOND FORM's CARD OF 'stillroomlaw12.CheckNames'. -/
def checkNamesUptoCard : Claim7 := { stood := { row := checkNamesUptoRow, standIns := [], harness := (true, "ee2f9d4f28a2e0cfd4b04a0d349719cb1f72ce692d03c8a24ad33b43d49bcab5"), looks := true }, kinds := [], alts := [], laidByText := true, laidKinds := [.data, .data, .data, .handle, .sentinel, .sentinel, .sentinel, .sentinel, .sentinel, .sentinel, .sentinel, .sentinel, .sentinel, .sentinel, .sentinel], laidTests := true, laidLooks := .later }
def CheckNamesUptoCardSaid : Prop := Claim7.holds Tryz.pinned (.plain (OpenSpec.upto checkNamesSpec)) checkNamesUptoCard

/-- THE SECOND FORM's CARD OF 'stillroomlaw12.CheckCompares'. -/
def checkComparesUptoCard : Claim7 := { stood := { row := checkComparesUptoRow, standIns := [], harness := (true, "ee2f9d4f28a2e0cfd4b04a0d349719cb1f72ce692d03c8a24ad33b43d49bcab5"), looks := true }, kinds := [], alts := [], laidByText := true, laidKinds := [.data, .data, .data, .handle, .sentinel, .sentinel, .sentinel, .sentinel, .sentinel, .sentinel, .sentinel, .sentinel, .sentinel, .sentinel, .sentinel], laidTests := true, laidLooks := .later }
def CheckComparesUptoCardSaid : Prop := Claim7.holds Tryz.pinned (.plain (OpenSpec.upto checkComparesSpec)) checkComparesUptoCard

/-- THE SECOND FORM's CARD OF 'stillroomlaw12.CheckGroups'. -/
def checkGroupsUptoCard : Claim7 := { stood := { row := checkGroupsUptoRow, standIns := [], harness := (true, "ee2f9d4f28a2e0cfd4b04a0d349719cb1f72ce692d03c8a24ad33b43d49bcab5"), looks := true }, kinds := [], alts := [], laidByText := true, laidKinds := [.data, .data, .data, .handle, .sentinel, .sentinel, .sentinel, .sentinel, .sentinel, .sentinel, .sentinel, .sentinel, .sentinel, .sentinel, .sentinel], laidTests := true, laidLooks := .later }
def CheckGroupsUptoCardSaid : Prop := Claim7.holds Tryz.pinned (.plain (OpenSpec.upto checkGroupsSpec)) checkGroupsUptoCard
end Rows
end Go.Proofs.YtppigamibgefaaaGreatDoor
