/-
  NARROWER THAN 'FOR EVERY INPUT', by the rows' own cells (each row's printed sentence says how): CheckAlone: laid · CheckNames: laid · CheckCompares: laid.
  DERIVED. THE GIVEN ROWS OF THIS SEAT. 3 by the template 'for every input the law returns true; each argument reads behind the call as it read before'; 0 by the template 'total and deterministic' (their statements: YtjaclmoobfeikaaGreatDoorTotals.lean).
  GIVEN WITH THE SEED: the statements are not yours to turn. If you find one false, say at which input.
  Laid BY PROGRAM, IN A SANDBOX (cutbox-rows.mjs): the forced cells as the released guide's own fill.sh prints them over the translation c199128353184f5b… (all of the seat's roots in one cut). By AI agents, Wed Nov 11 2026. No macro, syntax, notation, axiom, sorry.
-/
import Derived.Test.YtjaclmoobfeikaaGreatDoorChecked
import GoSem.Claim
import GoSem.ClaimJoined
import GoSem.ClaimMapViews
import Derived.JoinedTies
import Derived.KernelRfl
namespace Go.Proofs.YtjaclmoobfeikaaGreatDoor
/- THE CELL 'sum', in the pinned program and in every row, IS THE sha256 OF THE DUMP (.gsa) THAT YtjaclmoobfeikaaGreatDoorProg.lean LOADS. Nothing in Lean hashes anything: it is a label: what it is worth is what the hold of that sum in a sandbox is worth. -/
noncomputable def Tryz.pinned : Pinned := { name := "ytjaclmoobfeikaagreatdoor", sum := "c199128353184f5ba9b085868cde5e363e2fe62013d4cee222443451683c7f31", checked := Tryz.checked }
namespace Rows
def none {H : Type} : Left H := { results := [], args := [] }

/- WHAT THE LISTED PACKAGE-LEVEL VARIABLES READ AS WHEN THE CALL BEGINS. Each datum BY PROGRAM (the guide's laid-datum.mjs) off the statement by which the dump's own 'gosem.cut.vars' lays the variable. In a bare row this is a premise. The card (YtjaclmoobfeikaaGreatDoorCards.lean) ties it to the program's text. -/
def laid_math_bits_deBruijn32tab {H : Type} : DataW H := .agg [.lit (.int .u8 0), .lit (.int .u8 1), .lit (.int .u8 28), .lit (.int .u8 2), .lit (.int .u8 29), .lit (.int .u8 14), .lit (.int .u8 24), .lit (.int .u8 3), .lit (.int .u8 30), .lit (.int .u8 22), .lit (.int .u8 20), .lit (.int .u8 15), .lit (.int .u8 25), .lit (.int .u8 17), .lit (.int .u8 4), .lit (.int .u8 8), .lit (.int .u8 31), .lit (.int .u8 27), .lit (.int .u8 13), .lit (.int .u8 23), .lit (.int .u8 21), .lit (.int .u8 19), .lit (.int .u8 16), .lit (.int .u8 7), .lit (.int .u8 26), .lit (.int .u8 12), .lit (.int .u8 18), .lit (.int .u8 6), .lit (.int .u8 11), .lit (.int .u8 5), .lit (.int .u8 10), .lit (.int .u8 9)]
def laid_math_bits_deBruijn64tab {H : Type} : DataW H := .agg [.lit (.int .u8 0), .lit (.int .u8 1), .lit (.int .u8 56), .lit (.int .u8 2), .lit (.int .u8 57), .lit (.int .u8 49), .lit (.int .u8 28), .lit (.int .u8 3), .lit (.int .u8 61), .lit (.int .u8 58), .lit (.int .u8 42), .lit (.int .u8 50), .lit (.int .u8 38), .lit (.int .u8 29), .lit (.int .u8 17), .lit (.int .u8 4), .lit (.int .u8 62), .lit (.int .u8 47), .lit (.int .u8 59), .lit (.int .u8 36), .lit (.int .u8 45), .lit (.int .u8 43), .lit (.int .u8 51), .lit (.int .u8 22), .lit (.int .u8 53), .lit (.int .u8 39), .lit (.int .u8 33), .lit (.int .u8 30), .lit (.int .u8 24), .lit (.int .u8 18), .lit (.int .u8 12), .lit (.int .u8 5), .lit (.int .u8 63), .lit (.int .u8 55), .lit (.int .u8 48), .lit (.int .u8 27), .lit (.int .u8 60), .lit (.int .u8 41), .lit (.int .u8 37), .lit (.int .u8 16), .lit (.int .u8 46), .lit (.int .u8 35), .lit (.int .u8 44), .lit (.int .u8 21), .lit (.int .u8 52), .lit (.int .u8 32), .lit (.int .u8 23), .lit (.int .u8 11), .lit (.int .u8 54), .lit (.int .u8 26), .lit (.int .u8 40), .lit (.int .u8 15), .lit (.int .u8 34), .lit (.int .u8 20), .lit (.int .u8 31), .lit (.int .u8 10), .lit (.int .u8 25), .lit (.int .u8 14), .lit (.int .u8 19), .lit (.int .u8 9), .lit (.int .u8 13), .lit (.int .u8 8), .lit (.int .u8 7), .lit (.int .u8 6)]
def laid_internal_strconv_uint64pow10 {H : Type} : DataW H := .agg [.lit (.int .u64 1), .lit (.int .u64 10), .lit (.int .u64 100), .lit (.int .u64 1000), .lit (.int .u64 10000), .lit (.int .u64 100000), .lit (.int .u64 1000000), .lit (.int .u64 10000000), .lit (.int .u64 100000000), .lit (.int .u64 1000000000), .lit (.int .u64 10000000000), .lit (.int .u64 100000000000), .lit (.int .u64 1000000000000), .lit (.int .u64 10000000000000), .lit (.int .u64 100000000000000), .lit (.int .u64 1000000000000000), .lit (.int .u64 10000000000000000), .lit (.int .u64 100000000000000000), .lit (.int .u64 1000000000000000000), .lit (.int .u64 10000000000000000000)]
def laid_errors_errorType {H : Type} : DataW H := .iface "internal/reflectlite.rtype" (.agg [.ptr (.lit (.string [101, 114, 114, 111, 114]))])
def laid_strconv_ErrRange {H : Type} : DataW H := .iface "*errors.errorString" (.ptr (.agg [.lit (.string [118, 97, 108, 117, 101, 32, 111, 117, 116, 32, 111, 102, 32, 114, 97, 110, 103, 101])]))
def laid_strconv_ErrSyntax {H : Type} : DataW H := .iface "*errors.errorString" (.ptr (.agg [.lit (.string [105, 110, 118, 97, 108, 105, 100, 32, 115, 121, 110, 116, 97, 120])]))
def laid_stillroom_check_errTable {H : Type} : DataW H := .iface "*errors.errorString" (.ptr (.agg [.lit (.string [110, 111, 32, 115, 117, 99, 104, 32, 116, 97, 98, 108, 101])]))
def laid_stillroom_check_errColumn {H : Type} : DataW H := .iface "*errors.errorString" (.ptr (.agg [.lit (.string [110, 111, 32, 115, 117, 99, 104, 32, 99, 111, 108, 117, 109, 110])]))
def laid_stillroom_check_errType {H : Type} : DataW H := .iface "*errors.errorString" (.ptr (.agg [.lit (.string [116, 121, 112, 101, 115, 32, 116, 104, 97, 116, 32, 99, 108, 97, 115, 104])]))
def laid_stillroom_check_errTwice {H : Type} : DataW H := .iface "*errors.errorString" (.ptr (.agg [.lit (.string [103, 114, 111, 117, 112, 101, 100, 32, 98, 121, 32, 97, 32, 99, 111, 108, 117, 109, 110, 32, 116, 119, 105, 99, 101])]))
def laid_stillroom_check_errGroup {H : Type} : DataW H := .iface "*errors.errorString" (.ptr (.agg [.lit (.string [110, 101, 105, 116, 104, 101, 114, 32, 103, 114, 111, 117, 112, 101, 100, 32, 110, 111, 114, 32, 97, 110, 32, 97, 103, 103, 114, 101, 103, 97, 116, 101])]))
def laid_stillroom_lex_errNone {H : Type} : DataW H := .iface "*errors.errorString" (.ptr (.agg [.lit (.string [110, 111, 32, 116, 111, 107, 101, 110])]))
def laid_stillroom_lex_errGreat {H : Type} : DataW H := .iface "*errors.errorString" (.ptr (.agg [.lit (.string [97, 32, 118, 97, 108, 117, 101, 32, 116, 104, 97, 116, 32, 105, 115, 32, 116, 111, 111, 32, 103, 114, 101, 97, 116, 44, 32, 111, 114, 32, 116, 111, 111, 32, 108, 111, 110, 103])]))
def laid_stillroom_lex_errMany {H : Type} : DataW H := .iface "*errors.errorString" (.ptr (.agg [.lit (.string [111, 110, 101, 32, 116, 111, 107, 101, 110, 32, 116, 111, 111, 32, 109, 97, 110, 121])]))
def laid_stillroom_lex_errLong {H : Type} : DataW H := .iface "*errors.errorString" (.ptr (.agg [.lit (.string [97, 32, 116, 101, 120, 116, 32, 116, 104, 97, 116, 32, 105, 115, 32, 116, 111, 111, 32, 108, 111, 110, 103])]))

/-- 'stillroomlaw12.CheckAlone': WHATEVER THE INPUT: true; the input reads as it did. -/
def checkAloneSpec : ChangeSpec := { name := "checkAlone", fn := fun _ => fun
  | [d1, d2, d3] => { results := [.lit (.bool true)], args := [d1, d2, d3] }
  | _ => none }
def checkAloneRow : OpenClaim := { program := "ytjaclmoobfeikaagreatdoor", sum := "c199128353184f5ba9b085868cde5e363e2fe62013d4cee222443451683c7f31", func := "stillroom/stillroomlaw12.CheckAlone", spec := "checkAlone", inPlace := ["internal/bytealg.IndexByteString", "internal/reflectlite.ValueOf", "(internal/reflectlite.Value).Type", "(internal/reflectlite.Value).IsNil", "internal/reflectlite.TypeOf", "(internal/reflectlite.Value).Elem", "(internal/reflectlite.Value).Set"], unfollowed := true, recurses := true, named := ["stillroom/lex.errLong", "stillroom/lex.errMany", "stillroom/lex.errGreat", "stillroom/lex.errNone", "strconv.ErrSyntax", "strconv.ErrRange", "internal/strconv.uint64pow10", "math/bits.deBruijn32tab", "math/bits.deBruijn64tab", "errors.errorType", "stillroom/check.errTable", "stillroom/check.errType", "stillroom/check.errColumn", "stillroom/check.errTwice", "stillroom/check.errGroup"], apart := false, laid := [("math/bits.deBruijn32tab", laid_math_bits_deBruijn32tab), ("math/bits.deBruijn64tab", laid_math_bits_deBruijn64tab), ("internal/strconv.uint64pow10", laid_internal_strconv_uint64pow10), ("errors.errorType", laid_errors_errorType), ("strconv.ErrRange", laid_strconv_ErrRange), ("strconv.ErrSyntax", laid_strconv_ErrSyntax), ("stillroom/check.errTable", laid_stillroom_check_errTable), ("stillroom/check.errColumn", laid_stillroom_check_errColumn), ("stillroom/check.errType", laid_stillroom_check_errType), ("stillroom/check.errTwice", laid_stillroom_check_errTwice), ("stillroom/check.errGroup", laid_stillroom_check_errGroup), ("stillroom/lex.errNone", laid_stillroom_lex_errNone), ("stillroom/lex.errGreat", laid_stillroom_lex_errGreat), ("stillroom/lex.errMany", laid_stillroom_lex_errMany), ("stillroom/lex.errLong", laid_stillroom_lex_errLong)] }
def CheckAloneSaid : Prop := checkAloneRow.holds Tryz.pinned (OpenSpec.ofChange checkAloneSpec)

/-- ITS FALSE NEIGHBOUR: 'it returns false'. Refute it at one input. -/
def checkAloneWrong : ChangeSpec := { name := "checkAlone", fn := fun _ => fun
  | [d1, d2, d3] => { results := [.lit (.bool false)], args := [d1, d2, d3] }
  | _ => none }
def CheckAloneWrongFalsely : Prop := checkAloneRow.holds Tryz.pinned (OpenSpec.ofChange checkAloneWrong)

/-- 'stillroomlaw12.CheckNames': WHATEVER THE INPUT: true; the input reads as it did. -/
def checkNamesSpec : ChangeSpec := { name := "checkNames", fn := fun _ => fun
  | [d] => { results := [.lit (.bool true)], args := [d] }
  | _ => none }
def checkNamesRow : OpenClaim := { program := "ytjaclmoobfeikaagreatdoor", sum := "c199128353184f5ba9b085868cde5e363e2fe62013d4cee222443451683c7f31", func := "stillroom/stillroomlaw12.CheckNames", spec := "checkNames", inPlace := ["internal/bytealg.IndexByteString", "internal/reflectlite.ValueOf", "(internal/reflectlite.Value).Type", "(internal/reflectlite.Value).IsNil", "internal/reflectlite.TypeOf", "(internal/reflectlite.Value).Elem", "(internal/reflectlite.Value).Set"], unfollowed := true, recurses := true, named := ["stillroom/lex.errLong", "stillroom/lex.errMany", "stillroom/lex.errGreat", "stillroom/lex.errNone", "strconv.ErrSyntax", "strconv.ErrRange", "internal/strconv.uint64pow10", "math/bits.deBruijn32tab", "math/bits.deBruijn64tab", "errors.errorType", "stillroom/check.errTable", "stillroom/check.errType", "stillroom/check.errColumn", "stillroom/check.errTwice", "stillroom/check.errGroup"], apart := false, laid := [("math/bits.deBruijn32tab", laid_math_bits_deBruijn32tab), ("math/bits.deBruijn64tab", laid_math_bits_deBruijn64tab), ("internal/strconv.uint64pow10", laid_internal_strconv_uint64pow10), ("errors.errorType", laid_errors_errorType), ("strconv.ErrRange", laid_strconv_ErrRange), ("strconv.ErrSyntax", laid_strconv_ErrSyntax), ("stillroom/check.errTable", laid_stillroom_check_errTable), ("stillroom/check.errColumn", laid_stillroom_check_errColumn), ("stillroom/check.errType", laid_stillroom_check_errType), ("stillroom/check.errTwice", laid_stillroom_check_errTwice), ("stillroom/check.errGroup", laid_stillroom_check_errGroup), ("stillroom/lex.errNone", laid_stillroom_lex_errNone), ("stillroom/lex.errGreat", laid_stillroom_lex_errGreat), ("stillroom/lex.errMany", laid_stillroom_lex_errMany), ("stillroom/lex.errLong", laid_stillroom_lex_errLong)] }
def CheckNamesSaid : Prop := checkNamesRow.holds Tryz.pinned (OpenSpec.ofChange checkNamesSpec)

/-- ITS FALSE NEIGHBOUR: 'it returns false'. Refute it at one input. -/
def checkNamesWrong : ChangeSpec := { name := "checkNames", fn := fun _ => fun
  | [d] => { results := [.lit (.bool false)], args := [d] }
  | _ => none }
def CheckNamesWrongFalsely : Prop := checkNamesRow.holds Tryz.pinned (OpenSpec.ofChange checkNamesWrong)

/-- 'stillroomlaw12.CheckCompares': WHATEVER THE INPUT: true; the input reads as it did. -/
def checkComparesSpec : ChangeSpec := { name := "checkCompares", fn := fun _ => fun
  | [d1, d2, d3] => { results := [.lit (.bool true)], args := [d1, d2, d3] }
  | _ => none }
def checkComparesRow : OpenClaim := { program := "ytjaclmoobfeikaagreatdoor", sum := "c199128353184f5ba9b085868cde5e363e2fe62013d4cee222443451683c7f31", func := "stillroom/stillroomlaw12.CheckCompares", spec := "checkCompares", inPlace := ["internal/bytealg.IndexByteString", "internal/reflectlite.ValueOf", "(internal/reflectlite.Value).Type", "(internal/reflectlite.Value).IsNil", "internal/reflectlite.TypeOf", "(internal/reflectlite.Value).Elem", "(internal/reflectlite.Value).Set"], unfollowed := true, recurses := true, named := ["stillroom/lex.errLong", "stillroom/lex.errMany", "stillroom/lex.errGreat", "stillroom/lex.errNone", "strconv.ErrSyntax", "strconv.ErrRange", "internal/strconv.uint64pow10", "math/bits.deBruijn32tab", "math/bits.deBruijn64tab", "errors.errorType", "stillroom/check.errTable", "stillroom/check.errType", "stillroom/check.errColumn", "stillroom/check.errTwice", "stillroom/check.errGroup"], apart := false, laid := [("math/bits.deBruijn32tab", laid_math_bits_deBruijn32tab), ("math/bits.deBruijn64tab", laid_math_bits_deBruijn64tab), ("internal/strconv.uint64pow10", laid_internal_strconv_uint64pow10), ("errors.errorType", laid_errors_errorType), ("strconv.ErrRange", laid_strconv_ErrRange), ("strconv.ErrSyntax", laid_strconv_ErrSyntax), ("stillroom/check.errTable", laid_stillroom_check_errTable), ("stillroom/check.errColumn", laid_stillroom_check_errColumn), ("stillroom/check.errType", laid_stillroom_check_errType), ("stillroom/check.errTwice", laid_stillroom_check_errTwice), ("stillroom/check.errGroup", laid_stillroom_check_errGroup), ("stillroom/lex.errNone", laid_stillroom_lex_errNone), ("stillroom/lex.errGreat", laid_stillroom_lex_errGreat), ("stillroom/lex.errMany", laid_stillroom_lex_errMany), ("stillroom/lex.errLong", laid_stillroom_lex_errLong)] }
def CheckComparesSaid : Prop := checkComparesRow.holds Tryz.pinned (OpenSpec.ofChange checkComparesSpec)

/-- ITS FALSE NEIGHBOUR: 'it returns false'. Refute it at one input. -/
def checkComparesWrong : ChangeSpec := { name := "checkCompares", fn := fun _ => fun
  | [d1, d2, d3] => { results := [.lit (.bool false)], args := [d1, d2, d3] }
  | _ => none }
def CheckComparesWrongFalsely : Prop := checkComparesRow.holds Tryz.pinned (OpenSpec.ofChange checkComparesWrong)

/- THE SECOND FORM. 'bulk': how many values and letters a reading holds, each counted each time it is reached (what is shared counts as often as it is met; a slice's spare places count too). A statement '..UptoSaid' is the law's where the arguments, and the package variables that the reading takes, are together of bulk at most 1048576: NARROWER than '..Said'. Prove '..Said' where nothing that the law and all that it calls make is longer than what came in: it says more and counts as full. Else prove '..UptoSaid'. A law counts once. -/
mutual
def uptoBulk {H : Type} : DataW H → Nat
  | .lit (.string bytes) => bytes.length + 1
  | .lit _ => 1
  | .nil => 1
  | .ptr d => uptoBulk d + 1
  | .slice elems spare => uptoBulkAll elems + uptoBulkAll spare + 1
  | .agg parts => uptoBulkAll parts + 1
  | .iface _ d => uptoBulk d + 1
  | .map entries => uptoBulkEntries entries + 1
  | .held _ => 1
def uptoBulkAll {H : Type} : List (DataW H) → Nat
  | [] => 0
  | d :: r => uptoBulk d + uptoBulkAll r
def uptoBulkEntries {H : Type} : List (Lit × DataW H) → Nat
  | [] => 0
  | x :: r => uptoBulkEntry x + uptoBulkEntries r
def uptoBulkEntry {H : Type} : Lit × DataW H → Nat
  | (.string bytes, d) => bytes.length + uptoBulk d + 1
  | (_, d) => uptoBulk d + 1
 end
def uptoSmall : (H : Type) → List (DataW H) → Bool := fun _ ds => decide (uptoBulkAll ds ≤ 1048576)
def OpenSpec.upto (s : _root_.Go.ChangeSpec) : _root_.Go.OpenSpec := { _root_.Go.OpenSpec.ofChange s with cond := some uptoSmall }

/-- 'stillroomlaw12.CheckAlone', WHERE WHAT IT READS IS OF BULK AT MOST 1048576: true; the input reads as it did. -/
def checkAloneUptoRow : OpenClaim := { program := "ytjaclmoobfeikaagreatdoor", sum := "c199128353184f5ba9b085868cde5e363e2fe62013d4cee222443451683c7f31", func := "stillroom/stillroomlaw12.CheckAlone", spec := "checkAlone", inPlace := ["internal/bytealg.IndexByteString", "internal/reflectlite.ValueOf", "(internal/reflectlite.Value).Type", "(internal/reflectlite.Value).IsNil", "internal/reflectlite.TypeOf", "(internal/reflectlite.Value).Elem", "(internal/reflectlite.Value).Set"], unfollowed := true, recurses := true, named := ["stillroom/lex.errLong", "stillroom/lex.errMany", "stillroom/lex.errGreat", "stillroom/lex.errNone", "strconv.ErrSyntax", "strconv.ErrRange", "internal/strconv.uint64pow10", "math/bits.deBruijn32tab", "math/bits.deBruijn64tab", "errors.errorType", "stillroom/check.errTable", "stillroom/check.errType", "stillroom/check.errColumn", "stillroom/check.errTwice", "stillroom/check.errGroup"], apart := false, laid := [("math/bits.deBruijn32tab", laid_math_bits_deBruijn32tab), ("math/bits.deBruijn64tab", laid_math_bits_deBruijn64tab), ("internal/strconv.uint64pow10", laid_internal_strconv_uint64pow10), ("errors.errorType", laid_errors_errorType), ("strconv.ErrRange", laid_strconv_ErrRange), ("strconv.ErrSyntax", laid_strconv_ErrSyntax), ("stillroom/check.errTable", laid_stillroom_check_errTable), ("stillroom/check.errColumn", laid_stillroom_check_errColumn), ("stillroom/check.errType", laid_stillroom_check_errType), ("stillroom/check.errTwice", laid_stillroom_check_errTwice), ("stillroom/check.errGroup", laid_stillroom_check_errGroup), ("stillroom/lex.errNone", laid_stillroom_lex_errNone), ("stillroom/lex.errGreat", laid_stillroom_lex_errGreat), ("stillroom/lex.errMany", laid_stillroom_lex_errMany), ("stillroom/lex.errLong", laid_stillroom_lex_errLong)], narrowed := true }
def CheckAloneUptoSaid : Prop := checkAloneUptoRow.holds Tryz.pinned (OpenSpec.upto checkAloneSpec)

/-- 'stillroomlaw12.CheckNames', WHERE WHAT IT READS IS OF BULK AT MOST 1048576: true; the input reads as it did. -/
def checkNamesUptoRow : OpenClaim := { program := "ytjaclmoobfeikaagreatdoor", sum := "c199128353184f5ba9b085868cde5e363e2fe62013d4cee222443451683c7f31", func := "stillroom/stillroomlaw12.CheckNames", spec := "checkNames", inPlace := ["internal/bytealg.IndexByteString", "internal/reflectlite.ValueOf", "(internal/reflectlite.Value).Type", "(internal/reflectlite.Value).IsNil", "internal/reflectlite.TypeOf", "(internal/reflectlite.Value).Elem", "(internal/reflectlite.Value).Set"], unfollowed := true, recurses := true, named := ["stillroom/lex.errLong", "stillroom/lex.errMany", "stillroom/lex.errGreat", "stillroom/lex.errNone", "strconv.ErrSyntax", "strconv.ErrRange", "internal/strconv.uint64pow10", "math/bits.deBruijn32tab", "math/bits.deBruijn64tab", "errors.errorType", "stillroom/check.errTable", "stillroom/check.errType", "stillroom/check.errColumn", "stillroom/check.errTwice", "stillroom/check.errGroup"], apart := false, laid := [("math/bits.deBruijn32tab", laid_math_bits_deBruijn32tab), ("math/bits.deBruijn64tab", laid_math_bits_deBruijn64tab), ("internal/strconv.uint64pow10", laid_internal_strconv_uint64pow10), ("errors.errorType", laid_errors_errorType), ("strconv.ErrRange", laid_strconv_ErrRange), ("strconv.ErrSyntax", laid_strconv_ErrSyntax), ("stillroom/check.errTable", laid_stillroom_check_errTable), ("stillroom/check.errColumn", laid_stillroom_check_errColumn), ("stillroom/check.errType", laid_stillroom_check_errType), ("stillroom/check.errTwice", laid_stillroom_check_errTwice), ("stillroom/check.errGroup", laid_stillroom_check_errGroup), ("stillroom/lex.errNone", laid_stillroom_lex_errNone), ("stillroom/lex.errGreat", laid_stillroom_lex_errGreat), ("stillroom/lex.errMany", laid_stillroom_lex_errMany), ("stillroom/lex.errLong", laid_stillroom_lex_errLong)], narrowed := true }
def CheckNamesUptoSaid : Prop := checkNamesUptoRow.holds Tryz.pinned (OpenSpec.upto checkNamesSpec)

/-- 'stillroomlaw12.CheckCompares', WHERE WHAT IT READS IS OF BULK AT MOST 1048576: true; the input reads as it did. -/
def checkComparesUptoRow : OpenClaim := { program := "ytjaclmoobfeikaagreatdoor", sum := "c199128353184f5ba9b085868cde5e363e2fe62013d4cee222443451683c7f31", func := "stillroom/stillroomlaw12.CheckCompares", spec := "checkCompares", inPlace := ["internal/bytealg.IndexByteString", "internal/reflectlite.ValueOf", "(internal/reflectlite.Value).Type", "(internal/reflectlite.Value).IsNil", "internal/reflectlite.TypeOf", "(internal/reflectlite.Value).Elem", "(internal/reflectlite.Value).Set"], unfollowed := true, recurses := true, named := ["stillroom/lex.errLong", "stillroom/lex.errMany", "stillroom/lex.errGreat", "stillroom/lex.errNone", "strconv.ErrSyntax", "strconv.ErrRange", "internal/strconv.uint64pow10", "math/bits.deBruijn32tab", "math/bits.deBruijn64tab", "errors.errorType", "stillroom/check.errTable", "stillroom/check.errType", "stillroom/check.errColumn", "stillroom/check.errTwice", "stillroom/check.errGroup"], apart := false, laid := [("math/bits.deBruijn32tab", laid_math_bits_deBruijn32tab), ("math/bits.deBruijn64tab", laid_math_bits_deBruijn64tab), ("internal/strconv.uint64pow10", laid_internal_strconv_uint64pow10), ("errors.errorType", laid_errors_errorType), ("strconv.ErrRange", laid_strconv_ErrRange), ("strconv.ErrSyntax", laid_strconv_ErrSyntax), ("stillroom/check.errTable", laid_stillroom_check_errTable), ("stillroom/check.errColumn", laid_stillroom_check_errColumn), ("stillroom/check.errType", laid_stillroom_check_errType), ("stillroom/check.errTwice", laid_stillroom_check_errTwice), ("stillroom/check.errGroup", laid_stillroom_check_errGroup), ("stillroom/lex.errNone", laid_stillroom_lex_errNone), ("stillroom/lex.errGreat", laid_stillroom_lex_errGreat), ("stillroom/lex.errMany", laid_stillroom_lex_errMany), ("stillroom/lex.errLong", laid_stillroom_lex_errLong)], narrowed := true }
def CheckComparesUptoSaid : Prop := checkComparesUptoRow.holds Tryz.pinned (OpenSpec.upto checkComparesSpec)

end Rows
end Go.Proofs.YtjaclmoobfeikaaGreatDoor
