/-
  DERIVED. GIVEN WITH THE SEED: THE CARDS: each row of YtiahfdlmjfpglaaDoorRows.lean that lists a variable, with what it lists TIED to the program's text (the seventh form; the later family's looks); each row that meets fmt, with fmt's text TOLD by the authors' own Lean function (tested against real Go, not proved from fmt's source: count such statements apart). THE CARD IS WHAT COUNTS. Prove the row's statement (the work); the ties are given (YtiahfdlmjfpglaaDoorTie.lean); close each card by the builder's one call (the guide's Derived/Test/ToyasCard.lean, 'card_holds'). Laid BY PROGRAM, IN A SANDBOX (cutbox-door.mjs). By AI agents, Wed Nov 11 2026. No macro, syntax, notation, axiom, sorry.
-/
import Derived.Test.YtiahfdlmjfpglaaDoorRows
import GoSem.ClaimSeven
namespace Go.Proofs.YtiahfdlmjfpglaaDoor
namespace Rows

/-- THE TIED CARD OF 'stillroomlaw03.WideReckons'. -/
def wideReckonsCard : Claim7 := { stood := { row := wideReckonsRow, standIns := [], harness := (true, "73d1bba9746719bff69009cc01b7535dc51ec05d3da3880c641ca6f65c0f0135"), looks := false }, kinds := [], alts := [], laidByText := true, laidKinds := [.data, .data, .data], laidTests := true, laidLooks := .later }
def WideReckonsCardSaid : Prop := Claim7.holds Tryd.pinned (.plain (OpenSpec.ofChange wideReckonsSpec)) wideReckonsCard

/-- THE TIED CARD OF 'stillroomlaw03.WideInts'. -/
def wideIntsCard : Claim7 := { stood := { row := wideIntsRow, standIns := [], harness := (true, "73d1bba9746719bff69009cc01b7535dc51ec05d3da3880c641ca6f65c0f0135"), looks := false }, kinds := [], alts := [], laidByText := true, laidKinds := [.data, .data, .data], laidTests := true, laidLooks := .later }
def WideIntsCardSaid : Prop := Claim7.holds Tryd.pinned (.plain (OpenSpec.ofChange wideIntsSpec)) wideIntsCard

/-- THE TIED CARD OF 'stillroomlaw03.WideTexts'. -/
def wideTextsCard : Claim7 := { stood := { row := wideTextsRow, standIns := [], harness := (true, "73d1bba9746719bff69009cc01b7535dc51ec05d3da3880c641ca6f65c0f0135"), looks := false }, kinds := [], alts := [], laidByText := true, laidKinds := [.data, .data, .data], laidTests := true, laidLooks := .later }
def WideTextsCardSaid : Prop := Claim7.holds Tryd.pinned (.plain (OpenSpec.ofChange wideTextsSpec)) wideTextsCard

/-- THE TIED CARD OF 'stillroomlaw03.WideTotal'. -/
def wideTotalCard : Claim7 := { stood := { row := wideTotalRow, standIns := [], harness := (true, "73d1bba9746719bff69009cc01b7535dc51ec05d3da3880c641ca6f65c0f0135"), looks := false }, kinds := [], alts := [], laidByText := true, laidKinds := [.data, .data, .data], laidTests := true, laidLooks := .later }
def WideTotalCardSaid : Prop := Claim7.holds Tryd.pinned (.plain (OpenSpec.ofChange wideTotalSpec)) wideTotalCard

/-- THE TIED CARD OF 'stillroomlaw03.WideOrders'. -/
def wideOrdersCard : Claim7 := { stood := { row := wideOrdersRow, standIns := [], harness := (true, "73d1bba9746719bff69009cc01b7535dc51ec05d3da3880c641ca6f65c0f0135"), looks := false }, kinds := [], alts := [], laidByText := true, laidKinds := [.data, .data, .data], laidTests := true, laidLooks := .later }
def WideOrdersCardSaid : Prop := Claim7.holds Tryd.pinned (.plain (OpenSpec.ofChange wideOrdersSpec)) wideOrdersCard

/-- THE TIED CARD OF 'stillroomlaw03.WideSigns'. -/
def wideSignsCard : Claim7 := { stood := { row := wideSignsRow, standIns := [], harness := (true, "73d1bba9746719bff69009cc01b7535dc51ec05d3da3880c641ca6f65c0f0135"), looks := false }, kinds := [], alts := [], laidByText := true, laidKinds := [.data, .data, .data], laidTests := true, laidLooks := .later }
def WideSignsCardSaid : Prop := Claim7.holds Tryd.pinned (.plain (OpenSpec.ofChange wideSignsSpec)) wideSignsCard

/-- THE SECOND FORM's CARD OF 'stillroomlaw03.WideReckons'. -/
def wideReckonsUptoCard : Claim7 := { stood := { row := wideReckonsUptoRow, standIns := [], harness := (true, "73d1bba9746719bff69009cc01b7535dc51ec05d3da3880c641ca6f65c0f0135"), looks := false }, kinds := [], alts := [], laidByText := true, laidKinds := [.data, .data, .data], laidTests := true, laidLooks := .later }
def WideReckonsUptoCardSaid : Prop := Claim7.holds Tryd.pinned (.plain (OpenSpec.upto wideReckonsSpec)) wideReckonsUptoCard

/-- THE SECOND FORM's CARD OF 'stillroomlaw03.WideInts'. -/
def wideIntsUptoCard : Claim7 := { stood := { row := wideIntsUptoRow, standIns := [], harness := (true, "73d1bba9746719bff69009cc01b7535dc51ec05d3da3880c641ca6f65c0f0135"), looks := false }, kinds := [], alts := [], laidByText := true, laidKinds := [.data, .data, .data], laidTests := true, laidLooks := .later }
def WideIntsUptoCardSaid : Prop := Claim7.holds Tryd.pinned (.plain (OpenSpec.upto wideIntsSpec)) wideIntsUptoCard

/-- THE SECOND FORM's CARD OF 'stillroomlaw03.WideTexts'. -/
def wideTextsUptoCard : Claim7 := { stood := { row := wideTextsUptoRow, standIns := [], harness := (true, "73d1bba9746719bff69009cc01b7535dc51ec05d3da3880c641ca6f65c0f0135"), looks := false }, kinds := [], alts := [], laidByText := true, laidKinds := [.data, .data, .data], laidTests := true, laidLooks := .later }
def WideTextsUptoCardSaid : Prop := Claim7.holds Tryd.pinned (.plain (OpenSpec.upto wideTextsSpec)) wideTextsUptoCard

/-- THE SECOND FORM's CARD OF 'stillroomlaw03.WideTotal'. -/
def wideTotalUptoCard : Claim7 := { stood := { row := wideTotalUptoRow, standIns := [], harness := (true, "73d1bba9746719bff69009cc01b7535dc51ec05d3da3880c641ca6f65c0f0135"), looks := false }, kinds := [], alts := [], laidByText := true, laidKinds := [.data, .data, .data], laidTests := true, laidLooks := .later }
def WideTotalUptoCardSaid : Prop := Claim7.holds Tryd.pinned (.plain (OpenSpec.upto wideTotalSpec)) wideTotalUptoCard

/-- THE SECOND FORM's CARD OF 'stillroomlaw03.WideOrders'. -/
def wideOrdersUptoCard : Claim7 := { stood := { row := wideOrdersUptoRow, standIns := [], harness := (true, "73d1bba9746719bff69009cc01b7535dc51ec05d3da3880c641ca6f65c0f0135"), looks := false }, kinds := [], alts := [], laidByText := true, laidKinds := [.data, .data, .data], laidTests := true, laidLooks := .later }
def WideOrdersUptoCardSaid : Prop := Claim7.holds Tryd.pinned (.plain (OpenSpec.upto wideOrdersSpec)) wideOrdersUptoCard

/-- THE SECOND FORM's CARD OF 'stillroomlaw03.WideSigns'. -/
def wideSignsUptoCard : Claim7 := { stood := { row := wideSignsUptoRow, standIns := [], harness := (true, "73d1bba9746719bff69009cc01b7535dc51ec05d3da3880c641ca6f65c0f0135"), looks := false }, kinds := [], alts := [], laidByText := true, laidKinds := [.data, .data, .data], laidTests := true, laidLooks := .later }
def WideSignsUptoCardSaid : Prop := Claim7.holds Tryd.pinned (.plain (OpenSpec.upto wideSignsSpec)) wideSignsUptoCard
end Rows
end Go.Proofs.YtiahfdlmjfpglaaDoor
