/-
  DERIVED. GIVEN WITH THE SEED: THE CARDS: each row of YtampkmmfkdekaaaDoorRows.lean that lists a variable, with what it lists TIED to the program's text (the seventh form; the later family's looks); each row that meets fmt, with fmt's text TOLD by the authors' own Lean function (tested against real Go, not proved from fmt's source: count such statements apart). THE CARD IS WHAT COUNTS. Prove the row's statement (the work); the ties are given (YtampkmmfkdekaaaDoorTie.lean); close each card by the builder's one call (the guide's Derived/Test/ToyasCard.lean, 'card_holds'). Laid BY PROGRAM, IN A SANDBOX (cutbox-door.mjs). By AI agents, Wed Nov 11 2026. No macro, syntax, notation, axiom, sorry.
-/
import Derived.Test.YtampkmmfkdekaaaDoorRows
import GoSem.ClaimSeven
namespace Go.Proofs.YtampkmmfkdekaaaDoor
namespace Rows

/-- THE TIED CARD OF 'stillroomlaw06.SchemaKinds'. -/
def schemaKindsCard : Claim7 := { stood := { row := schemaKindsRow, standIns := [], harness := (true, "7bff735e09d2dbf7f7a4c069b98feb598d6b04adc7c55da19623feba0b97b217"), looks := true }, kinds := [], alts := [], laidByText := true, laidKinds := [.handle, .sentinel, .sentinel, .sentinel, .sentinel, .sentinel, .sentinel, .sentinel, .sentinel], laidTests := true, laidLooks := .later }
def SchemaKindsCardSaid : Prop := Claim7.holds Tryd.pinned (.plain (OpenSpec.ofChange schemaKindsSpec)) schemaKindsCard

/-- THE TIED CARD OF 'stillroomlaw06.SchemaLimits'. -/
def schemaLimitsCard : Claim7 := { stood := { row := schemaLimitsRow, standIns := [], harness := (true, "7bff735e09d2dbf7f7a4c069b98feb598d6b04adc7c55da19623feba0b97b217"), looks := true }, kinds := [], alts := [], laidByText := true, laidKinds := [.handle, .sentinel, .sentinel, .sentinel, .sentinel, .sentinel, .sentinel, .sentinel, .sentinel], laidTests := true, laidLooks := .later }
def SchemaLimitsCardSaid : Prop := Claim7.holds Tryd.pinned (.plain (OpenSpec.ofChange schemaLimitsSpec)) schemaLimitsCard

/-- THE SECOND FORM's CARD OF 'stillroomlaw06.SchemaKinds'. -/
def schemaKindsUptoCard : Claim7 := { stood := { row := schemaKindsUptoRow, standIns := [], harness := (true, "7bff735e09d2dbf7f7a4c069b98feb598d6b04adc7c55da19623feba0b97b217"), looks := true }, kinds := [], alts := [], laidByText := true, laidKinds := [.handle, .sentinel, .sentinel, .sentinel, .sentinel, .sentinel, .sentinel, .sentinel, .sentinel], laidTests := true, laidLooks := .later }
def SchemaKindsUptoCardSaid : Prop := Claim7.holds Tryd.pinned (.plain (OpenSpec.upto schemaKindsSpec)) schemaKindsUptoCard

/-- THE SECOND FORM's CARD OF 'stillroomlaw06.SchemaLimits'. -/
def schemaLimitsUptoCard : Claim7 := { stood := { row := schemaLimitsUptoRow, standIns := [], harness := (true, "7bff735e09d2dbf7f7a4c069b98feb598d6b04adc7c55da19623feba0b97b217"), looks := true }, kinds := [], alts := [], laidByText := true, laidKinds := [.handle, .sentinel, .sentinel, .sentinel, .sentinel, .sentinel, .sentinel, .sentinel, .sentinel], laidTests := true, laidLooks := .later }
def SchemaLimitsUptoCardSaid : Prop := Claim7.holds Tryd.pinned (.plain (OpenSpec.upto schemaLimitsSpec)) schemaLimitsUptoCard
end Rows
end Go.Proofs.YtampkmmfkdekaaaDoor
