/-
  No cell of these rows narrows 'for every input' (looked for: loops, veiled, ifaces, maps, wideKeys, modest, calm, conditions, laid).
  DERIVED. THE GIVEN ROWS OF THIS SEAT. 3 by the template 'for every input the law returns true; each argument reads behind the call as it read before'; 0 by the template 'total and deterministic' (their statements: YtfambadamebjjaaTotals.lean).
  GIVEN WITH THE SEED: the statements are not yours to turn. If you find one false, say at which input.
  Laid BY PROGRAM, IN A SANDBOX (cutbox-rows.mjs): the forced cells as the released guide's own fill.sh prints them over the translation 990f733fb2592c20… (all of the seat's roots in one cut). By AI agents, Wed Nov 11 2026. No macro, syntax, notation, axiom, sorry.
-/
import Derived.Test.YtfambadamebjjaaChecked
import GoSem.Claim
import GoSem.ClaimJoined
import GoSem.ClaimMapViews
import Derived.JoinedTies
import Derived.KernelRfl
namespace Go.Proofs.Ytfambadamebjjaa
/- THE CELL 'sum', in the pinned program and in every row, IS THE sha256 OF THE DUMP (.gsa) THAT YtfambadamebjjaaProg.lean LOADS. Nothing in Lean hashes anything: it is a label: what it is worth is what the hold of that sum in a sandbox is worth. -/
noncomputable def Try.pinned : Pinned := { name := "ytfambadamebjjaa", sum := "990f733fb2592c20d25590d7d2ef08aacdb6b259796ca3218e392ec39f1112b3", checked := Try.checked }
namespace Rows
def none {H : Type} : Left H := { results := [], args := [] }

/-- 'stillroomlaw13.SieveTruths': WHATEVER THE INPUT: true; the input reads as it did. -/
def sieveTruthsSpec : ChangeSpec := { name := "sieveTruths", fn := fun _ => fun
  | [d1, d2, d3] => { results := [.lit (.bool true)], args := [d1, d2, d3] }
  | _ => none }
def sieveTruthsRow : OpenClaim := { program := "ytfambadamebjjaa", sum := "990f733fb2592c20d25590d7d2ef08aacdb6b259796ca3218e392ec39f1112b3", func := "stillroom/stillroomlaw13.SieveTruths", spec := "sieveTruths", inPlace := ["internal/bytealg.abigen_runtime_cmpstring"], unfollowed := true, recurses := true, apart := false }
def SieveTruthsSaid : Prop := sieveTruthsRow.holds Try.pinned (OpenSpec.ofChange sieveTruthsSpec)

/-- ITS FALSE NEIGHBOUR: 'it returns false'. Refute it at one input. -/
def sieveTruthsWrong : ChangeSpec := { name := "sieveTruths", fn := fun _ => fun
  | [d1, d2, d3] => { results := [.lit (.bool false)], args := [d1, d2, d3] }
  | _ => none }
def SieveTruthsWrongFalsely : Prop := sieveTruthsRow.holds Try.pinned (OpenSpec.ofChange sieveTruthsWrong)

/-- 'stillroomlaw13.SieveNots': WHATEVER THE INPUT: true; the input reads as it did. -/
def sieveNotsSpec : ChangeSpec := { name := "sieveNots", fn := fun _ => fun
  | [d1, d2, d3] => { results := [.lit (.bool true)], args := [d1, d2, d3] }
  | _ => none }
def sieveNotsRow : OpenClaim := { program := "ytfambadamebjjaa", sum := "990f733fb2592c20d25590d7d2ef08aacdb6b259796ca3218e392ec39f1112b3", func := "stillroom/stillroomlaw13.SieveNots", spec := "sieveNots", inPlace := ["internal/bytealg.abigen_runtime_cmpstring"], unfollowed := true, recurses := true, apart := false }
def SieveNotsSaid : Prop := sieveNotsRow.holds Try.pinned (OpenSpec.ofChange sieveNotsSpec)

/-- ITS FALSE NEIGHBOUR: 'it returns false'. Refute it at one input. -/
def sieveNotsWrong : ChangeSpec := { name := "sieveNots", fn := fun _ => fun
  | [d1, d2, d3] => { results := [.lit (.bool false)], args := [d1, d2, d3] }
  | _ => none }
def SieveNotsWrongFalsely : Prop := sieveNotsRow.holds Try.pinned (OpenSpec.ofChange sieveNotsWrong)

/-- 'stillroomlaw13.SieveJoins': WHATEVER THE INPUT: true; the input reads as it did. -/
def sieveJoinsSpec : ChangeSpec := { name := "sieveJoins", fn := fun _ => fun
  | [d1, d2, d3] => { results := [.lit (.bool true)], args := [d1, d2, d3] }
  | _ => none }
def sieveJoinsRow : OpenClaim := { program := "ytfambadamebjjaa", sum := "990f733fb2592c20d25590d7d2ef08aacdb6b259796ca3218e392ec39f1112b3", func := "stillroom/stillroomlaw13.SieveJoins", spec := "sieveJoins", inPlace := ["internal/bytealg.abigen_runtime_cmpstring"], unfollowed := true, recurses := true, apart := false }
def SieveJoinsSaid : Prop := sieveJoinsRow.holds Try.pinned (OpenSpec.ofChange sieveJoinsSpec)

/-- ITS FALSE NEIGHBOUR: 'it returns false'. Refute it at one input. -/
def sieveJoinsWrong : ChangeSpec := { name := "sieveJoins", fn := fun _ => fun
  | [d1, d2, d3] => { results := [.lit (.bool false)], args := [d1, d2, d3] }
  | _ => none }
def SieveJoinsWrongFalsely : Prop := sieveJoinsRow.holds Try.pinned (OpenSpec.ofChange sieveJoinsWrong)

/- THE SECOND FORM. 'bulk': how many values and letters a reading holds, each counted each time it is reached (what is shared counts as often as it is met; a slice's spare places count too). A statement '..UptoSaid' is the law's where the arguments, and the package variables that the reading takes, are together of bulk at most 1048576: NARROWER than '..Said'. Prove '..Said' where nothing that the law and all that it calls make is longer than what came in: it says more and counts as full. Else prove '..UptoSaid'. A law counts once. -/
mutual
def uptoBulk {H : Type} : DataW H → Nat
  | .lit (.string bytes) => bytes.length + 1
  | .lit _ => 1
  | .nil => 1
  | .ptr d => uptoBulk d + 1
  | .slice elems spare => uptoBulkAll elems + uptoBulkAll spare + 1
  | .agg parts => uptoBulkAll parts + 1
  | .iface _ d => uptoBulk d + 1
  | .map entries => uptoBulkEntries entries + 1
  | .held _ => 1
def uptoBulkAll {H : Type} : List (DataW H) → Nat
  | [] => 0
  | d :: r => uptoBulk d + uptoBulkAll r
def uptoBulkEntries {H : Type} : List (Lit × DataW H) → Nat
  | [] => 0
  | x :: r => uptoBulkEntry x + uptoBulkEntries r
def uptoBulkEntry {H : Type} : Lit × DataW H → Nat
  | (.string bytes, d) => bytes.length + uptoBulk d + 1
  | (_, d) => uptoBulk d + 1
 end
def uptoSmall : (H : Type) → List (DataW H) → Bool := fun _ ds => decide (uptoBulkAll ds ≤ 1048576)
def OpenSpec.upto (s : _root_.Go.ChangeSpec) : _root_.Go.OpenSpec := { _root_.Go.OpenSpec.ofChange s with cond := some uptoSmall }

/-- 'stillroomlaw13.SieveTruths', WHERE WHAT IT READS IS OF BULK AT MOST 1048576: true; the input reads as it did. -/
def sieveTruthsUptoRow : OpenClaim := { program := "ytfambadamebjjaa", sum := "990f733fb2592c20d25590d7d2ef08aacdb6b259796ca3218e392ec39f1112b3", func := "stillroom/stillroomlaw13.SieveTruths", spec := "sieveTruths", inPlace := ["internal/bytealg.abigen_runtime_cmpstring"], unfollowed := true, recurses := true, apart := false, narrowed := true }
def SieveTruthsUptoSaid : Prop := sieveTruthsUptoRow.holds Try.pinned (OpenSpec.upto sieveTruthsSpec)

/-- 'stillroomlaw13.SieveNots', WHERE WHAT IT READS IS OF BULK AT MOST 1048576: true; the input reads as it did. -/
def sieveNotsUptoRow : OpenClaim := { program := "ytfambadamebjjaa", sum := "990f733fb2592c20d25590d7d2ef08aacdb6b259796ca3218e392ec39f1112b3", func := "stillroom/stillroomlaw13.SieveNots", spec := "sieveNots", inPlace := ["internal/bytealg.abigen_runtime_cmpstring"], unfollowed := true, recurses := true, apart := false, narrowed := true }
def SieveNotsUptoSaid : Prop := sieveNotsUptoRow.holds Try.pinned (OpenSpec.upto sieveNotsSpec)

/-- 'stillroomlaw13.SieveJoins', WHERE WHAT IT READS IS OF BULK AT MOST 1048576: true; the input reads as it did. -/
def sieveJoinsUptoRow : OpenClaim := { program := "ytfambadamebjjaa", sum := "990f733fb2592c20d25590d7d2ef08aacdb6b259796ca3218e392ec39f1112b3", func := "stillroom/stillroomlaw13.SieveJoins", spec := "sieveJoins", inPlace := ["internal/bytealg.abigen_runtime_cmpstring"], unfollowed := true, recurses := true, apart := false, narrowed := true }
def SieveJoinsUptoSaid : Prop := sieveJoinsUptoRow.holds Try.pinned (OpenSpec.upto sieveJoinsSpec)

end Rows
end Go.Proofs.Ytfambadamebjjaa
