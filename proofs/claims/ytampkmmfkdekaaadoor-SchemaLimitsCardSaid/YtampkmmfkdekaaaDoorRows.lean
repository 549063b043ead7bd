/-
  NARROWER THAN 'FOR EVERY INPUT', by the rows' own cells (each row's printed sentence says how): SchemaKinds: laid · SchemaLimits: laid.
  DERIVED. THE GIVEN ROWS OF THIS SEAT. 2 by the template 'for every input the law returns true; each argument reads behind the call as it read before'; 0 by the template 'total and deterministic' (their statements: YtampkmmfkdekaaaDoorTotals.lean).
  GIVEN WITH THE SEED: the statements are not yours to turn. If you find one false, say at which input.
  Laid BY PROGRAM, IN A SANDBOX (cutbox-rows.mjs): the forced cells as the released guide's own fill.sh prints them over the translation 7469d04aa2d8f539… (all of the seat's roots in one cut). By AI agents, Wed Nov 11 2026. No macro, syntax, notation, axiom, sorry.
-/
import Derived.Test.YtampkmmfkdekaaaDoorChecked
import GoSem.Claim
import GoSem.ClaimJoined
import GoSem.ClaimMapViews
import Derived.JoinedTies
import Derived.KernelRfl
namespace Go.Proofs.YtampkmmfkdekaaaDoor
/- THE CELL 'sum', in the pinned program and in every row, IS THE sha256 OF THE DUMP (.gsa) THAT YtampkmmfkdekaaaDoorProg.lean LOADS. Nothing in Lean hashes anything: it is a label: what it is worth is what the hold of that sum in a sandbox is worth. -/
noncomputable def Tryd.pinned : Pinned := { name := "ytampkmmfkdekaaadoor", sum := "7469d04aa2d8f539e9df890d91dcbb6c4a3b8ed077f8b90b69af2dd0f64a15e8", checked := Tryd.checked }
namespace Rows
def none {H : Type} : Left H := { results := [], args := [] }

/- WHAT THE LISTED PACKAGE-LEVEL VARIABLES READ AS WHEN THE CALL BEGINS. Each datum BY PROGRAM (the guide's laid-datum.mjs) off the statement by which the dump's own 'gosem.cut.vars' lays the variable. In a bare row this is a premise. The card (YtampkmmfkdekaaaDoorCards.lean) ties it to the program's text. -/
def laid_errors_errorType {H : Type} : DataW H := .iface "internal/reflectlite.rtype" (.agg [.ptr (.lit (.string [101, 114, 114, 111, 114]))])
def laid_stillroom_schema_errMany {H : Type} : DataW H := .iface "*errors.errorString" (.ptr (.agg [.lit (.string [111, 110, 101, 32, 116, 97, 98, 108, 101, 32, 116, 111, 111, 32, 109, 97, 110, 121])]))
def laid_stillroom_schema_errWidth {H : Type} : DataW H := .iface "*errors.errorString" (.ptr (.agg [.lit (.string [110, 111, 32, 99, 111, 108, 117, 109, 110, 44, 32, 111, 114, 32, 116, 111, 111, 32, 109, 97, 110, 121])]))
def laid_stillroom_schema_errName {H : Type} : DataW H := .iface "*errors.errorString" (.ptr (.agg [.lit (.string [105, 116, 115, 32, 110, 97, 109, 101, 44, 32, 111, 114, 32, 97, 32, 99, 111, 108, 117, 109, 110, 39, 115, 44, 32, 105, 115, 32, 110, 111, 110, 101])]))
def laid_stillroom_schema_errKind {H : Type} : DataW H := .iface "*errors.errorString" (.ptr (.agg [.lit (.string [97, 32, 99, 111, 108, 117, 109, 110, 32, 111, 102, 32, 110, 111, 32, 107, 105, 110, 100])]))
def laid_stillroom_schema_errKeys {H : Type} : DataW H := .iface "*errors.errorString" (.ptr (.agg [.lit (.string [97, 32, 107, 101, 121, 32, 111, 102, 32, 110, 111, 32, 99, 111, 108, 117, 109, 110, 44, 32, 111, 114, 32, 111, 102, 32, 109, 111, 114, 101, 32, 116, 104, 97, 110, 32, 116, 104, 101, 114, 101, 32, 97, 114, 101])]))
def laid_stillroom_schema_errNull {H : Type} : DataW H := .iface "*errors.errorString" (.ptr (.agg [.lit (.string [97, 32, 99, 111, 108, 117, 109, 110, 32, 111, 102, 32, 116, 104, 101, 32, 107, 101, 121, 32, 109, 97, 121, 32, 98, 101, 32, 110, 117, 108, 108])]))
def laid_stillroom_schema_errTable {H : Type} : DataW H := .iface "*errors.errorString" (.ptr (.agg [.lit (.string [97, 32, 116, 97, 98, 108, 101, 32, 97, 104, 101, 97, 100, 32, 104, 97, 115, 32, 105, 116, 115, 32, 110, 97, 109, 101])]))
def laid_stillroom_schema_errTwice {H : Type} : DataW H := .iface "*errors.errorString" (.ptr (.agg [.lit (.string [116, 119, 111, 32, 99, 111, 108, 117, 109, 110, 115, 32, 111, 102, 32, 111, 110, 101, 32, 110, 97, 109, 101])]))

/-- 'stillroomlaw06.SchemaKinds': WHATEVER THE INPUT: true; the input reads as it did. -/
def schemaKindsSpec : ChangeSpec := { name := "schemaKinds", fn := fun _ => fun
  | [d1, d2, d3] => { results := [.lit (.bool true)], args := [d1, d2, d3] }
  | _ => none }
def schemaKindsRow : OpenClaim := { program := "ytampkmmfkdekaaadoor", sum := "7469d04aa2d8f539e9df890d91dcbb6c4a3b8ed077f8b90b69af2dd0f64a15e8", func := "stillroom/stillroomlaw06.SchemaKinds", spec := "schemaKinds", inPlace := ["internal/reflectlite.ValueOf", "(internal/reflectlite.Value).Type", "(internal/reflectlite.Value).IsNil", "internal/reflectlite.TypeOf", "(internal/reflectlite.Value).Elem", "(internal/reflectlite.Value).Set"], unfollowed := true, recurses := true, named := ["stillroom/schema.errMany", "stillroom/schema.errWidth", "stillroom/schema.errName", "stillroom/schema.errKeys", "stillroom/schema.errKind", "stillroom/schema.errNull", "stillroom/schema.errTable", "stillroom/schema.errTwice", "errors.errorType"], apart := false, laid := [("errors.errorType", laid_errors_errorType), ("stillroom/schema.errMany", laid_stillroom_schema_errMany), ("stillroom/schema.errWidth", laid_stillroom_schema_errWidth), ("stillroom/schema.errName", laid_stillroom_schema_errName), ("stillroom/schema.errKind", laid_stillroom_schema_errKind), ("stillroom/schema.errKeys", laid_stillroom_schema_errKeys), ("stillroom/schema.errNull", laid_stillroom_schema_errNull), ("stillroom/schema.errTable", laid_stillroom_schema_errTable), ("stillroom/schema.errTwice", laid_stillroom_schema_errTwice)] }
def SchemaKindsSaid : Prop := schemaKindsRow.holds Tryd.pinned (OpenSpec.ofChange schemaKindsSpec)

/-- ITS FALSE NEIGHBOUR: 'it returns false'. Refute it at one input. -/
def schemaKindsWrong : ChangeSpec := { name := "schemaKinds", fn := fun _ => fun
  | [d1, d2, d3] => { results := [.lit (.bool false)], args := [d1, d2, d3] }
  | _ => none }
def SchemaKindsWrongFalsely : Prop := schemaKindsRow.holds Tryd.pinned (OpenSpec.ofChange schemaKindsWrong)

/-- 'stillroomlaw06.SchemaLimits': WHATEVER THE INPUT: true; the input reads as it did. -/
def schemaLimitsSpec : ChangeSpec := { name := "schemaLimits", fn := fun _ => fun
  | [d1, d2, d3] => { results := [.lit (.bool true)], args := [d1, d2, d3] }
  | _ => none }
def schemaLimitsRow : OpenClaim := { program := "ytampkmmfkdekaaadoor", sum := "7469d04aa2d8f539e9df890d91dcbb6c4a3b8ed077f8b90b69af2dd0f64a15e8", func := "stillroom/stillroomlaw06.SchemaLimits", spec := "schemaLimits", inPlace := ["internal/reflectlite.ValueOf", "(internal/reflectlite.Value).Type", "(internal/reflectlite.Value).IsNil", "internal/reflectlite.TypeOf", "(internal/reflectlite.Value).Elem", "(internal/reflectlite.Value).Set"], unfollowed := true, recurses := true, named := ["stillroom/schema.errMany", "stillroom/schema.errWidth", "stillroom/schema.errName", "stillroom/schema.errKeys", "stillroom/schema.errKind", "stillroom/schema.errNull", "stillroom/schema.errTable", "stillroom/schema.errTwice", "errors.errorType"], apart := false, laid := [("errors.errorType", laid_errors_errorType), ("stillroom/schema.errMany", laid_stillroom_schema_errMany), ("stillroom/schema.errWidth", laid_stillroom_schema_errWidth), ("stillroom/schema.errName", laid_stillroom_schema_errName), ("stillroom/schema.errKind", laid_stillroom_schema_errKind), ("stillroom/schema.errKeys", laid_stillroom_schema_errKeys), ("stillroom/schema.errNull", laid_stillroom_schema_errNull), ("stillroom/schema.errTable", laid_stillroom_schema_errTable), ("stillroom/schema.errTwice", laid_stillroom_schema_errTwice)] }
def SchemaLimitsSaid : Prop := schemaLimitsRow.holds Tryd.pinned (OpenSpec.ofChange schemaLimitsSpec)

/-- ITS FALSE NEIGHBOUR: 'it returns false'. Refute it at one input. -/
def schemaLimitsWrong : ChangeSpec := { name := "schemaLimits", fn := fun _ => fun
  | [d1, d2, d3] => { results := [.lit (.bool false)], args := [d1, d2, d3] }
  | _ => none }
def SchemaLimitsWrongFalsely : Prop := schemaLimitsRow.holds Tryd.pinned (OpenSpec.ofChange schemaLimitsWrong)

/- THE SECOND FORM. 'bulk': how many values and letters a reading holds, each counted each time it is reached (what is shared counts as often as it is met; a slice's spare places count too). A statement '..UptoSaid' is the law's where the arguments, and the package variables that the reading takes, are together of bulk at most 1048576: NARROWER than '..Said'. Prove '..Said' where nothing that the law and all that it calls make is longer than what came in: it says more and counts as full. Else prove '..UptoSaid'. A law counts once. -/
mutual
def uptoBulk {H : Type} : DataW H → Nat
  | .lit (.string bytes) => bytes.length + 1
  | .lit _ => 1
  | .nil => 1
  | .ptr d => uptoBulk d + 1
  | .slice elems spare => uptoBulkAll elems + uptoBulkAll spare + 1
  | .agg parts => uptoBulkAll parts + 1
  | .iface _ d => uptoBulk d + 1
  | .map entries => uptoBulkEntries entries + 1
  | .held _ => 1
def uptoBulkAll {H : Type} : List (DataW H) → Nat
  | [] => 0
  | d :: r => uptoBulk d + uptoBulkAll r
def uptoBulkEntries {H : Type} : List (Lit × DataW H) → Nat
  | [] => 0
  | x :: r => uptoBulkEntry x + uptoBulkEntries r
def uptoBulkEntry {H : Type} : Lit × DataW H → Nat
  | (.string bytes, d) => bytes.length + uptoBulk d + 1
  | (_, d) => uptoBulk d + 1
 end
def uptoSmall : (H : Type) → List (DataW H) → Bool := fun _ ds => decide (uptoBulkAll ds ≤ 1048576)
def OpenSpec.upto (s : _root_.Go.ChangeSpec) : _root_.Go.OpenSpec := { _root_.Go.OpenSpec.ofChange s with cond := some uptoSmall }

/-- 'stillroomlaw06.SchemaKinds', WHERE WHAT IT READS IS OF BULK AT MOST 1048576: true; the input reads as it did. -/
def schemaKindsUptoRow : OpenClaim := { program := "ytampkmmfkdekaaadoor", sum := "7469d04aa2d8f539e9df890d91dcbb6c4a3b8ed077f8b90b69af2dd0f64a15e8", func := "stillroom/stillroomlaw06.SchemaKinds", spec := "schemaKinds", inPlace := ["internal/reflectlite.ValueOf", "(internal/reflectlite.Value).Type", "(internal/reflectlite.Value).IsNil", "internal/reflectlite.TypeOf", "(internal/reflectlite.Value).Elem", "(internal/reflectlite.Value).Set"], unfollowed := true, recurses := true, named := ["stillroom/schema.errMany", "stillroom/schema.errWidth", "stillroom/schema.errName", "stillroom/schema.errKeys", "stillroom/schema.errKind", "stillroom/schema.errNull", "stillroom/schema.errTable", "stillroom/schema.errTwice", "errors.errorType"], apart := false, laid := [("errors.errorType", laid_errors_errorType), ("stillroom/schema.errMany", laid_stillroom_schema_errMany), ("stillroom/schema.errWidth", laid_stillroom_schema_errWidth), ("stillroom/schema.errName", laid_stillroom_schema_errName), ("stillroom/schema.errKind", laid_stillroom_schema_errKind), ("stillroom/schema.errKeys", laid_stillroom_schema_errKeys), ("stillroom/schema.errNull", laid_stillroom_schema_errNull), ("stillroom/schema.errTable", laid_stillroom_schema_errTable), ("stillroom/schema.errTwice", laid_stillroom_schema_errTwice)], narrowed := true }
def SchemaKindsUptoSaid : Prop := schemaKindsUptoRow.holds Tryd.pinned (OpenSpec.upto schemaKindsSpec)

/-- 'stillroomlaw06.SchemaLimits', WHERE WHAT IT READS IS OF BULK AT MOST 1048576: true; the input reads as it did. -/
def schemaLimitsUptoRow : OpenClaim := { program := "ytampkmmfkdekaaadoor", sum := "7469d04aa2d8f539e9df890d91dcbb6c4a3b8ed077f8b90b69af2dd0f64a15e8", func := "stillroom/stillroomlaw06.SchemaLimits", spec := "schemaLimits", inPlace := ["internal/reflectlite.ValueOf", "(internal/reflectlite.Value).Type", "(internal/reflectlite.Value).IsNil", "internal/reflectlite.TypeOf", "(internal/reflectlite.Value).Elem", "(internal/reflectlite.Value).Set"], unfollowed := true, recurses := true, named := ["stillroom/schema.errMany", "stillroom/schema.errWidth", "stillroom/schema.errName", "stillroom/schema.errKeys", "stillroom/schema.errKind", "stillroom/schema.errNull", "stillroom/schema.errTable", "stillroom/schema.errTwice", "errors.errorType"], apart := false, laid := [("errors.errorType", laid_errors_errorType), ("stillroom/schema.errMany", laid_stillroom_schema_errMany), ("stillroom/schema.errWidth", laid_stillroom_schema_errWidth), ("stillroom/schema.errName", laid_stillroom_schema_errName), ("stillroom/schema.errKind", laid_stillroom_schema_errKind), ("stillroom/schema.errKeys", laid_stillroom_schema_errKeys), ("stillroom/schema.errNull", laid_stillroom_schema_errNull), ("stillroom/schema.errTable", laid_stillroom_schema_errTable), ("stillroom/schema.errTwice", laid_stillroom_schema_errTwice)], narrowed := true }
def SchemaLimitsUptoSaid : Prop := schemaLimitsUptoRow.holds Tryd.pinned (OpenSpec.upto schemaLimitsSpec)

end Rows
end Go.Proofs.YtampkmmfkdekaaaDoor
