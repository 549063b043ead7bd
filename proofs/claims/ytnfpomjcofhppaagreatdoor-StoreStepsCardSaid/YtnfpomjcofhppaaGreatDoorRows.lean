/-
  NARROWER THAN 'FOR EVERY INPUT', by the rows' own cells (each row's printed sentence says how): StoreSteps: laid.
  DERIVED. THE GIVEN ROWS OF THIS SEAT. 1 by the template 'for every input the law returns true; each argument reads behind the call as it read before'; 0 by the template 'total and deterministic' (their statements: YtnfpomjcofhppaaGreatDoorTotals.lean).
  GIVEN WITH THE SEED: the statements are not yours to turn. If you find one false, say at which input.
  Laid BY PROGRAM, IN A SANDBOX (cutbox-rows.mjs): the forced cells as the released guide's own fill.sh prints them over the translation be7ab063ce4c0052… (all of the seat's roots in one cut). By AI agents, Wed Nov 11 2026. No macro, syntax, notation, axiom, sorry.
-/
import Derived.Test.YtnfpomjcofhppaaGreatDoorChecked
import GoSem.Claim
import GoSem.ClaimJoined
import GoSem.ClaimMapViews
import Derived.JoinedTies
import Derived.KernelRfl
namespace Go.Proofs.YtnfpomjcofhppaaGreatDoor
/- THE CELL 'sum', in the pinned program and in every row, IS THE sha256 OF THE DUMP (.gsa) THAT YtnfpomjcofhppaaGreatDoorProg.lean LOADS. Nothing in Lean hashes anything: it is a label: what it is worth is what the hold of that sum in a sandbox is worth. -/
noncomputable def Tryz.pinned : Pinned := { name := "ytnfpomjcofhppaagreatdoor", sum := "be7ab063ce4c005274237da1e8cb578be4207d3952ab1d60d0b67305c5bd9045", checked := Tryz.checked }
namespace Rows
def none {H : Type} : Left H := { results := [], args := [] }

/- WHAT THE LISTED PACKAGE-LEVEL VARIABLES READ AS WHEN THE CALL BEGINS. Each datum BY PROGRAM (the guide's laid-datum.mjs) off the statement by which the dump's own 'gosem.cut.vars' lays the variable. In a bare row this is a premise. The card (YtnfpomjcofhppaaGreatDoorCards.lean) ties it to the program's text. -/
def laid_errors_errorType {H : Type} : DataW H := .iface "internal/reflectlite.rtype" (.agg [.ptr (.lit (.string [101, 114, 114, 111, 114]))])
def laid_stillroom_schema_errMany {H : Type} : DataW H := .iface "*errors.errorString" (.ptr (.agg [.lit (.string [111, 110, 101, 32, 116, 97, 98, 108, 101, 32, 116, 111, 111, 32, 109, 97, 110, 121])]))
def laid_stillroom_schema_errWidth {H : Type} : DataW H := .iface "*errors.errorString" (.ptr (.agg [.lit (.string [110, 111, 32, 99, 111, 108, 117, 109, 110, 44, 32, 111, 114, 32, 116, 111, 111, 32, 109, 97, 110, 121])]))
def laid_stillroom_schema_errName {H : Type} : DataW H := .iface "*errors.errorString" (.ptr (.agg [.lit (.string [105, 116, 115, 32, 110, 97, 109, 101, 44, 32, 111, 114, 32, 97, 32, 99, 111, 108, 117, 109, 110, 39, 115, 44, 32, 105, 115, 32, 110, 111, 110, 101])]))
def laid_stillroom_schema_errKind {H : Type} : DataW H := .iface "*errors.errorString" (.ptr (.agg [.lit (.string [97, 32, 99, 111, 108, 117, 109, 110, 32, 111, 102, 32, 110, 111, 32, 107, 105, 110, 100])]))
def laid_stillroom_schema_errKeys {H : Type} : DataW H := .iface "*errors.errorString" (.ptr (.agg [.lit (.string [97, 32, 107, 101, 121, 32, 111, 102, 32, 110, 111, 32, 99, 111, 108, 117, 109, 110, 44, 32, 111, 114, 32, 111, 102, 32, 109, 111, 114, 101, 32, 116, 104, 97, 110, 32, 116, 104, 101, 114, 101, 32, 97, 114, 101])]))
def laid_stillroom_schema_errNull {H : Type} : DataW H := .iface "*errors.errorString" (.ptr (.agg [.lit (.string [97, 32, 99, 111, 108, 117, 109, 110, 32, 111, 102, 32, 116, 104, 101, 32, 107, 101, 121, 32, 109, 97, 121, 32, 98, 101, 32, 110, 117, 108, 108])]))
def laid_stillroom_schema_errTable {H : Type} : DataW H := .iface "*errors.errorString" (.ptr (.agg [.lit (.string [97, 32, 116, 97, 98, 108, 101, 32, 97, 104, 101, 97, 100, 32, 104, 97, 115, 32, 105, 116, 115, 32, 110, 97, 109, 101])]))
def laid_stillroom_schema_errTwice {H : Type} : DataW H := .iface "*errors.errorString" (.ptr (.agg [.lit (.string [116, 119, 111, 32, 99, 111, 108, 117, 109, 110, 115, 32, 111, 102, 32, 111, 110, 101, 32, 110, 97, 109, 101])]))

/-- 'stillroomlaw09.StoreSteps': WHATEVER THE INPUT: true; the input reads as it did. -/
def storeStepsSpec : ChangeSpec := { name := "storeSteps", fn := fun _ => fun
  | [d1, d2] => { results := [.lit (.bool true)], args := [d1, d2] }
  | _ => none }
def storeStepsRow : OpenClaim := { program := "ytnfpomjcofhppaagreatdoor", sum := "be7ab063ce4c005274237da1e8cb578be4207d3952ab1d60d0b67305c5bd9045", func := "stillroom/stillroomlaw09.StoreSteps", spec := "storeSteps", inPlace := ["internal/reflectlite.ValueOf", "(internal/reflectlite.Value).Type", "(internal/reflectlite.Value).IsNil", "internal/reflectlite.TypeOf", "(internal/reflectlite.Value).Elem", "(internal/reflectlite.Value).Set", "internal/bytealg.abigen_runtime_cmpstring"], unfollowed := true, recurses := true, named := ["stillroom/schema.errMany", "stillroom/schema.errWidth", "stillroom/schema.errName", "stillroom/schema.errKeys", "stillroom/schema.errKind", "stillroom/schema.errNull", "stillroom/schema.errTable", "stillroom/schema.errTwice", "errors.errorType"], apart := false, laid := [("errors.errorType", laid_errors_errorType), ("stillroom/schema.errMany", laid_stillroom_schema_errMany), ("stillroom/schema.errWidth", laid_stillroom_schema_errWidth), ("stillroom/schema.errName", laid_stillroom_schema_errName), ("stillroom/schema.errKind", laid_stillroom_schema_errKind), ("stillroom/schema.errKeys", laid_stillroom_schema_errKeys), ("stillroom/schema.errNull", laid_stillroom_schema_errNull), ("stillroom/schema.errTable", laid_stillroom_schema_errTable), ("stillroom/schema.errTwice", laid_stillroom_schema_errTwice)] }
def StoreStepsSaid : Prop := storeStepsRow.holds Tryz.pinned (OpenSpec.ofChange storeStepsSpec)

/-- ITS FALSE NEIGHBOUR: 'it returns false'. Refute it at one input. -/
def storeStepsWrong : ChangeSpec := { name := "storeSteps", fn := fun _ => fun
  | [d1, d2] => { results := [.lit (.bool false)], args := [d1, d2] }
  | _ => none }
def StoreStepsWrongFalsely : Prop := storeStepsRow.holds Tryz.pinned (OpenSpec.ofChange storeStepsWrong)

/- THE SECOND FORM. 'bulk': how many values and letters a reading holds, each counted each time it is reached (what is shared counts as often as it is met; a slice's spare places count too). A statement '..UptoSaid' is the law's where the arguments, and the package variables that the reading takes, are together of bulk at most 1048576: NARROWER than '..Said'. Prove '..Said' where nothing that the law and all that it calls make is longer than what came in: it says more and counts as full. Else prove '..UptoSaid'. A law counts once. -/
mutual
def uptoBulk {H : Type} : DataW H → Nat
  | .lit (.string bytes) => bytes.length + 1
  | .lit _ => 1
  | .nil => 1
  | .ptr d => uptoBulk d + 1
  | .slice elems spare => uptoBulkAll elems + uptoBulkAll spare + 1
  | .agg parts => uptoBulkAll parts + 1
  | .iface _ d => uptoBulk d + 1
  | .map entries => uptoBulkEntries entries + 1
  | .held _ => 1
def uptoBulkAll {H : Type} : List (DataW H) → Nat
  | [] => 0
  | d :: r => uptoBulk d + uptoBulkAll r
def uptoBulkEntries {H : Type} : List (Lit × DataW H) → Nat
  | [] => 0
  | x :: r => uptoBulkEntry x + uptoBulkEntries r
def uptoBulkEntry {H : Type} : Lit × DataW H → Nat
  | (.string bytes, d) => bytes.length + uptoBulk d + 1
  | (_, d) => uptoBulk d + 1
 end
def uptoSmall : (H : Type) → List (DataW H) → Bool := fun _ ds => decide (uptoBulkAll ds ≤ 1048576)
def OpenSpec.upto (s : _root_.Go.ChangeSpec) : _root_.Go.OpenSpec := { _root_.Go.OpenSpec.ofChange s with cond := some uptoSmall }

/-- 'stillroomlaw09.StoreSteps', WHERE WHAT IT READS IS OF BULK AT MOST 1048576: true; the input reads as it did. -/
def storeStepsUptoRow : OpenClaim := { program := "ytnfpomjcofhppaagreatdoor", sum := "be7ab063ce4c005274237da1e8cb578be4207d3952ab1d60d0b67305c5bd9045", func := "stillroom/stillroomlaw09.StoreSteps", spec := "storeSteps", inPlace := ["internal/reflectlite.ValueOf", "(internal/reflectlite.Value).Type", "(internal/reflectlite.Value).IsNil", "internal/reflectlite.TypeOf", "(internal/reflectlite.Value).Elem", "(internal/reflectlite.Value).Set", "internal/bytealg.abigen_runtime_cmpstring"], unfollowed := true, recurses := true, named := ["stillroom/schema.errMany", "stillroom/schema.errWidth", "stillroom/schema.errName", "stillroom/schema.errKeys", "stillroom/schema.errKind", "stillroom/schema.errNull", "stillroom/schema.errTable", "stillroom/schema.errTwice", "errors.errorType"], apart := false, laid := [("errors.errorType", laid_errors_errorType), ("stillroom/schema.errMany", laid_stillroom_schema_errMany), ("stillroom/schema.errWidth", laid_stillroom_schema_errWidth), ("stillroom/schema.errName", laid_stillroom_schema_errName), ("stillroom/schema.errKind", laid_stillroom_schema_errKind), ("stillroom/schema.errKeys", laid_stillroom_schema_errKeys), ("stillroom/schema.errNull", laid_stillroom_schema_errNull), ("stillroom/schema.errTable", laid_stillroom_schema_errTable), ("stillroom/schema.errTwice", laid_stillroom_schema_errTwice)], narrowed := true }
def StoreStepsUptoSaid : Prop := storeStepsUptoRow.holds Tryz.pinned (OpenSpec.upto storeStepsSpec)

end Rows
end Go.Proofs.YtnfpomjcofhppaaGreatDoor
