/-
  No cell of these rows narrows 'for every input' (looked for: loops, veiled, ifaces, maps, wideKeys, modest, calm, conditions, laid).
  DERIVED. THE GIVEN ROWS OF THIS SEAT. 6 by the template 'for every input the law returns true; each argument reads behind the call as it read before'; 0 by the template 'total and deterministic' (their statements: YtmgddieadehmeaaTotals.lean).
  GIVEN WITH THE SEED: the statements are not yours to turn. If you find one false, say at which input.
  Laid BY PROGRAM, IN A SANDBOX (cutbox-rows.mjs): the forced cells as the released guide's own fill.sh prints them over the translation 4a6d185c1e4816aa… (all of the seat's roots in one cut). By AI agents, Wed Nov 11 2026. No macro, syntax, notation, axiom, sorry.
-/
import Derived.Test.YtmgddieadehmeaaChecked
import GoSem.Claim
import GoSem.ClaimJoined
import GoSem.ClaimMapViews
import Derived.JoinedTies
import Derived.KernelRfl
namespace Go.Proofs.Ytmgddieadehmeaa
/- THE CELL 'sum', in the pinned program and in every row, IS THE sha256 OF THE DUMP (.gsa) THAT YtmgddieadehmeaaProg.lean LOADS. Nothing in Lean hashes anything: it is a label: what it is worth is what the hold of that sum in a sandbox is worth. -/
noncomputable def Try.pinned : Pinned := { name := "ytmgddieadehmeaa", sum := "4a6d185c1e4816aa85356928b170fa60b4ff380de810fba42e1812190a0fc287", checked := Try.checked }
namespace Rows
def none {H : Type} : Left H := { results := [], args := [] }

/-- 'stillroomlaw02.LogicJoins': WHATEVER THE INPUT: true; the input reads as it did. -/
def logicJoinsSpec : ChangeSpec := { name := "logicJoins", fn := fun _ => fun
  | [d] => { results := [.lit (.bool true)], args := [d] }
  | _ => none }
def logicJoinsRow : OpenClaim := { program := "ytmgddieadehmeaa", sum := "4a6d185c1e4816aa85356928b170fa60b4ff380de810fba42e1812190a0fc287", func := "stillroom/stillroomlaw02.LogicJoins", spec := "logicJoins", inPlace := ["internal/bytealg.abigen_runtime_cmpstring"], apart := false }
def LogicJoinsSaid : Prop := logicJoinsRow.holds Try.pinned (OpenSpec.ofChange logicJoinsSpec)

/-- ITS FALSE NEIGHBOUR: 'it returns false'. Refute it at one input. -/
def logicJoinsWrong : ChangeSpec := { name := "logicJoins", fn := fun _ => fun
  | [d] => { results := [.lit (.bool false)], args := [d] }
  | _ => none }
def LogicJoinsWrongFalsely : Prop := logicJoinsRow.holds Try.pinned (OpenSpec.ofChange logicJoinsWrong)

/-- 'stillroomlaw02.LogicTurns': WHATEVER THE INPUT: true; the input reads as it did. -/
def logicTurnsSpec : ChangeSpec := { name := "logicTurns", fn := fun _ => fun
  | [d1, d2] => { results := [.lit (.bool true)], args := [d1, d2] }
  | _ => none }
def logicTurnsRow : OpenClaim := { program := "ytmgddieadehmeaa", sum := "4a6d185c1e4816aa85356928b170fa60b4ff380de810fba42e1812190a0fc287", func := "stillroom/stillroomlaw02.LogicTurns", spec := "logicTurns", inPlace := ["internal/bytealg.abigen_runtime_cmpstring"], apart := false }
def LogicTurnsSaid : Prop := logicTurnsRow.holds Try.pinned (OpenSpec.ofChange logicTurnsSpec)

/-- ITS FALSE NEIGHBOUR: 'it returns false'. Refute it at one input. -/
def logicTurnsWrong : ChangeSpec := { name := "logicTurns", fn := fun _ => fun
  | [d1, d2] => { results := [.lit (.bool false)], args := [d1, d2] }
  | _ => none }
def LogicTurnsWrongFalsely : Prop := logicTurnsRow.holds Try.pinned (OpenSpec.ofChange logicTurnsWrong)

/-- 'stillroomlaw02.LogicCompares': WHATEVER THE INPUT: true; the input reads as it did. -/
def logicComparesSpec : ChangeSpec := { name := "logicCompares", fn := fun _ => fun
  | [d1, d2, d3] => { results := [.lit (.bool true)], args := [d1, d2, d3] }
  | _ => none }
def logicComparesRow : OpenClaim := { program := "ytmgddieadehmeaa", sum := "4a6d185c1e4816aa85356928b170fa60b4ff380de810fba42e1812190a0fc287", func := "stillroom/stillroomlaw02.LogicCompares", spec := "logicCompares", inPlace := ["internal/bytealg.abigen_runtime_cmpstring"], apart := false }
def LogicComparesSaid : Prop := logicComparesRow.holds Try.pinned (OpenSpec.ofChange logicComparesSpec)

/-- ITS FALSE NEIGHBOUR: 'it returns false'. Refute it at one input. -/
def logicComparesWrong : ChangeSpec := { name := "logicCompares", fn := fun _ => fun
  | [d1, d2, d3] => { results := [.lit (.bool false)], args := [d1, d2, d3] }
  | _ => none }
def LogicComparesWrongFalsely : Prop := logicComparesRow.holds Try.pinned (OpenSpec.ofChange logicComparesWrong)

/-- 'stillroomlaw02.LogicRels': WHATEVER THE INPUT: true; the input reads as it did. -/
def logicRelsSpec : ChangeSpec := { name := "logicRels", fn := fun _ => fun
  | [d] => { results := [.lit (.bool true)], args := [d] }
  | _ => none }
def logicRelsRow : OpenClaim := { program := "ytmgddieadehmeaa", sum := "4a6d185c1e4816aa85356928b170fa60b4ff380de810fba42e1812190a0fc287", func := "stillroom/stillroomlaw02.LogicRels", spec := "logicRels", inPlace := ["internal/bytealg.abigen_runtime_cmpstring"], apart := false }
def LogicRelsSaid : Prop := logicRelsRow.holds Try.pinned (OpenSpec.ofChange logicRelsSpec)

/-- ITS FALSE NEIGHBOUR: 'it returns false'. Refute it at one input. -/
def logicRelsWrong : ChangeSpec := { name := "logicRels", fn := fun _ => fun
  | [d] => { results := [.lit (.bool false)], args := [d] }
  | _ => none }
def LogicRelsWrongFalsely : Prop := logicRelsRow.holds Try.pinned (OpenSpec.ofChange logicRelsWrong)

/-- 'stillroomlaw02.LogicOpposites': WHATEVER THE INPUT: true; the input reads as it did. -/
def logicOppositesSpec : ChangeSpec := { name := "logicOpposites", fn := fun _ => fun
  | [d1, d2] => { results := [.lit (.bool true)], args := [d1, d2] }
  | _ => none }
def logicOppositesRow : OpenClaim := { program := "ytmgddieadehmeaa", sum := "4a6d185c1e4816aa85356928b170fa60b4ff380de810fba42e1812190a0fc287", func := "stillroom/stillroomlaw02.LogicOpposites", spec := "logicOpposites", inPlace := ["internal/bytealg.abigen_runtime_cmpstring"], apart := false }
def LogicOppositesSaid : Prop := logicOppositesRow.holds Try.pinned (OpenSpec.ofChange logicOppositesSpec)

/-- ITS FALSE NEIGHBOUR: 'it returns false'. Refute it at one input. -/
def logicOppositesWrong : ChangeSpec := { name := "logicOpposites", fn := fun _ => fun
  | [d1, d2] => { results := [.lit (.bool false)], args := [d1, d2] }
  | _ => none }
def LogicOppositesWrongFalsely : Prop := logicOppositesRow.holds Try.pinned (OpenSpec.ofChange logicOppositesWrong)

/-- 'stillroomlaw02.LogicIn': WHATEVER THE INPUT: true; the input reads as it did. -/
def logicInSpec : ChangeSpec := { name := "logicIn", fn := fun _ => fun
  | [d1, d2] => { results := [.lit (.bool true)], args := [d1, d2] }
  | _ => none }
def logicInRow : OpenClaim := { program := "ytmgddieadehmeaa", sum := "4a6d185c1e4816aa85356928b170fa60b4ff380de810fba42e1812190a0fc287", func := "stillroom/stillroomlaw02.LogicIn", spec := "logicIn", inPlace := ["internal/bytealg.abigen_runtime_cmpstring"], apart := false }
def LogicInSaid : Prop := logicInRow.holds Try.pinned (OpenSpec.ofChange logicInSpec)

/-- ITS FALSE NEIGHBOUR: 'it returns false'. Refute it at one input. -/
def logicInWrong : ChangeSpec := { name := "logicIn", fn := fun _ => fun
  | [d1, d2] => { results := [.lit (.bool false)], args := [d1, d2] }
  | _ => none }
def LogicInWrongFalsely : Prop := logicInRow.holds Try.pinned (OpenSpec.ofChange logicInWrong)

/- THE SECOND FORM. 'bulk': how many values and letters a reading holds, each counted each time it is reached (what is shared counts as often as it is met; a slice's spare places count too). A statement '..UptoSaid' is the law's where the arguments, and the package variables that the reading takes, are together of bulk at most 1048576: NARROWER than '..Said'. Prove '..Said' where nothing that the law and all that it calls make is longer than what came in: it says more and counts as full. Else prove '..UptoSaid'. A law counts once. -/
mutual
def uptoBulk {H : Type} : DataW H → Nat
  | .lit (.string bytes) => bytes.length + 1
  | .lit _ => 1
  | .nil => 1
  | .ptr d => uptoBulk d + 1
  | .slice elems spare => uptoBulkAll elems + uptoBulkAll spare + 1
  | .agg parts => uptoBulkAll parts + 1
  | .iface _ d => uptoBulk d + 1
  | .map entries => uptoBulkEntries entries + 1
  | .held _ => 1
def uptoBulkAll {H : Type} : List (DataW H) → Nat
  | [] => 0
  | d :: r => uptoBulk d + uptoBulkAll r
def uptoBulkEntries {H : Type} : List (Lit × DataW H) → Nat
  | [] => 0
  | x :: r => uptoBulkEntry x + uptoBulkEntries r
def uptoBulkEntry {H : Type} : Lit × DataW H → Nat
  | (.string bytes, d) => bytes.length + uptoBulk d + 1
  | (_, d) => uptoBulk d + 1
 end
def uptoSmall : (H : Type) → List (DataW H) → Bool := fun _ ds => decide (uptoBulkAll ds ≤ 1048576)
def OpenSpec.upto (s : _root_.Go.ChangeSpec) : _root_.Go.OpenSpec := { _root_.Go.OpenSpec.ofChange s with cond := some uptoSmall }

/-- 'stillroomlaw02.LogicJoins', WHERE WHAT IT READS IS OF BULK AT MOST 1048576: true; the input reads as it did. -/
def logicJoinsUptoRow : OpenClaim := { program := "ytmgddieadehmeaa", sum := "4a6d185c1e4816aa85356928b170fa60b4ff380de810fba42e1812190a0fc287", func := "stillroom/stillroomlaw02.LogicJoins", spec := "logicJoins", inPlace := ["internal/bytealg.abigen_runtime_cmpstring"], apart := false, narrowed := true }
def LogicJoinsUptoSaid : Prop := logicJoinsUptoRow.holds Try.pinned (OpenSpec.upto logicJoinsSpec)

/-- 'stillroomlaw02.LogicTurns', WHERE WHAT IT READS IS OF BULK AT MOST 1048576: true; the input reads as it did. -/
def logicTurnsUptoRow : OpenClaim := { program := "ytmgddieadehmeaa", sum := "4a6d185c1e4816aa85356928b170fa60b4ff380de810fba42e1812190a0fc287", func := "stillroom/stillroomlaw02.LogicTurns", spec := "logicTurns", inPlace := ["internal/bytealg.abigen_runtime_cmpstring"], apart := false, narrowed := true }
def LogicTurnsUptoSaid : Prop := logicTurnsUptoRow.holds Try.pinned (OpenSpec.upto logicTurnsSpec)

/-- 'stillroomlaw02.LogicCompares', WHERE WHAT IT READS IS OF BULK AT MOST 1048576: true; the input reads as it did. -/
def logicComparesUptoRow : OpenClaim := { program := "ytmgddieadehmeaa", sum := "4a6d185c1e4816aa85356928b170fa60b4ff380de810fba42e1812190a0fc287", func := "stillroom/stillroomlaw02.LogicCompares", spec := "logicCompares", inPlace := ["internal/bytealg.abigen_runtime_cmpstring"], apart := false, narrowed := true }
def LogicComparesUptoSaid : Prop := logicComparesUptoRow.holds Try.pinned (OpenSpec.upto logicComparesSpec)

/-- 'stillroomlaw02.LogicRels', WHERE WHAT IT READS IS OF BULK AT MOST 1048576: true; the input reads as it did. -/
def logicRelsUptoRow : OpenClaim := { program := "ytmgddieadehmeaa", sum := "4a6d185c1e4816aa85356928b170fa60b4ff380de810fba42e1812190a0fc287", func := "stillroom/stillroomlaw02.LogicRels", spec := "logicRels", inPlace := ["internal/bytealg.abigen_runtime_cmpstring"], apart := false, narrowed := true }
def LogicRelsUptoSaid : Prop := logicRelsUptoRow.holds Try.pinned (OpenSpec.upto logicRelsSpec)

/-- 'stillroomlaw02.LogicOpposites', WHERE WHAT IT READS IS OF BULK AT MOST 1048576: true; the input reads as it did. -/
def logicOppositesUptoRow : OpenClaim := { program := "ytmgddieadehmeaa", sum := "4a6d185c1e4816aa85356928b170fa60b4ff380de810fba42e1812190a0fc287", func := "stillroom/stillroomlaw02.LogicOpposites", spec := "logicOpposites", inPlace := ["internal/bytealg.abigen_runtime_cmpstring"], apart := false, narrowed := true }
def LogicOppositesUptoSaid : Prop := logicOppositesUptoRow.holds Try.pinned (OpenSpec.upto logicOppositesSpec)

/-- 'stillroomlaw02.LogicIn', WHERE WHAT IT READS IS OF BULK AT MOST 1048576: true; the input reads as it did. -/
def logicInUptoRow : OpenClaim := { program := "ytmgddieadehmeaa", sum := "4a6d185c1e4816aa85356928b170fa60b4ff380de810fba42e1812190a0fc287", func := "stillroom/stillroomlaw02.LogicIn", spec := "logicIn", inPlace := ["internal/bytealg.abigen_runtime_cmpstring"], apart := false, narrowed := true }
def LogicInUptoSaid : Prop := logicInUptoRow.holds Try.pinned (OpenSpec.upto logicInSpec)

end Rows
end Go.Proofs.Ytmgddieadehmeaa
