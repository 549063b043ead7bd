/-
  DERIVED. GIVEN WITH THE SEED: THE CARDS: each row of YtpklajadfbigcaaGreatDoorRows.lean that lists a variable, with what it lists TIED to the program's text (the seventh form; the later family's looks); each row that meets fmt, with fmt's text TOLD by the authors' own Lean function (tested against real Go, not proved from fmt's source: count such statements apart). THE CARD IS WHAT COUNTS. Prove the row's statement (the work); the ties are given (YtpklajadfbigcaaGreatDoorTie.lean); close each card by the builder's one call (the guide's Derived/Test/ToyasCard.lean, 'card_holds'). Laid BY PROGRAM, IN A SANDBOX (cutbox-door.mjs). By AI agents, Wed Nov 11 2026. No macro, syntax, notation, axiom, sorry.
-/
import Derived.Test.YtpklajadfbigcaaGreatDoorRows
import GoSem.ClaimSeven
namespace Go.Proofs.YtpklajadfbigcaaGreatDoor
namespace Rows

/-- THE TIED CARD OF 'stillroomlaw17.TallyOf'. -/
def tallyOfCard : Claim7 := { stood := { row := tallyOfRow, standIns := [], harness := (true, "912fef8ad7621d15a9eb51b80867f436f8f8280be49e123676c14c9fa4b8450d"), looks := true }, kinds := [], alts := [], laidByText := true, laidKinds := [.data, .data, .data, .sentinel], laidTests := true, laidLooks := .later }
def TallyOfCardSaid : Prop := Claim7.holds Tryz.pinned (.plain (OpenSpec.ofChange tallyOfSpec)) tallyOfCard

/-- THE TIED CARD OF 'stillroomlaw17.TallyGroups'. -/
def tallyGroupsCard : Claim7 := { stood := { row := tallyGroupsRow, standIns := [], harness := (true, "912fef8ad7621d15a9eb51b80867f436f8f8280be49e123676c14c9fa4b8450d"), looks := true }, kinds := [], alts := [], laidByText := true, laidKinds := [.data, .data, .data, .sentinel], laidTests := true, laidLooks := .later }
def TallyGroupsCardSaid : Prop := Claim7.holds Tryz.pinned (.plain (OpenSpec.ofChange tallyGroupsSpec)) tallyGroupsCard

/-- THE TIED CARD OF 'stillroomlaw17.TallyParts'. -/
def tallyPartsCard : Claim7 := { stood := { row := tallyPartsRow, standIns := [], harness := (true, "912fef8ad7621d15a9eb51b80867f436f8f8280be49e123676c14c9fa4b8450d"), looks := true }, kinds := [], alts := [], laidByText := true, laidKinds := [.data, .data, .data, .sentinel], laidTests := true, laidLooks := .later }
def TallyPartsCardSaid : Prop := Claim7.holds Tryz.pinned (.plain (OpenSpec.ofChange tallyPartsSpec)) tallyPartsCard

/-- THE SECOND FORM's CARD OF 'stillroomlaw17.TallyOf'. -/
def tallyOfUptoCard : Claim7 := { stood := { row := tallyOfUptoRow, standIns := [], harness := (true, "912fef8ad7621d15a9eb51b80867f436f8f8280be49e123676c14c9fa4b8450d"), looks := true }, kinds := [], alts := [], laidByText := true, laidKinds := [.data, .data, .data, .sentinel], laidTests := true, laidLooks := .later }
def TallyOfUptoCardSaid : Prop := Claim7.holds Tryz.pinned (.plain (OpenSpec.upto tallyOfSpec)) tallyOfUptoCard

/-- THE SECOND FORM's CARD OF 'stillroomlaw17.TallyGroups'. -/
def tallyGroupsUptoCard : Claim7 := { stood := { row := tallyGroupsUptoRow, standIns := [], harness := (true, "912fef8ad7621d15a9eb51b80867f436f8f8280be49e123676c14c9fa4b8450d"), looks := true }, kinds := [], alts := [], laidByText := true, laidKinds := [.data, .data, .data, .sentinel], laidTests := true, laidLooks := .later }
def TallyGroupsUptoCardSaid : Prop := Claim7.holds Tryz.pinned (.plain (OpenSpec.upto tallyGroupsSpec)) tallyGroupsUptoCard

/-- THE SECOND FORM's CARD OF 'stillroomlaw17.TallyParts'. -/
def tallyPartsUptoCard : Claim7 := { stood := { row := tallyPartsUptoRow, standIns := [], harness := (true, "912fef8ad7621d15a9eb51b80867f436f8f8280be49e123676c14c9fa4b8450d"), looks := true }, kinds := [], alts := [], laidByText := true, laidKinds := [.data, .data, .data, .sentinel], laidTests := true, laidLooks := .later }
def TallyPartsUptoCardSaid : Prop := Claim7.holds Tryz.pinned (.plain (OpenSpec.upto tallyPartsSpec)) tallyPartsUptoCard
end Rows
end Go.Proofs.YtpklajadfbigcaaGreatDoor
