/-
  NARROWER THAN 'FOR EVERY INPUT', by the rows' own cells (each row's printed sentence says how): WideTexts: laid · CodecReads: laid · CodecOne: laid · FrameWrites: laid · FrameReads: laid · FrameSplits: laid · FrameLists: laid · FrameTurned: laid · FrameCut: laid · FrameGreat: laid.
  DERIVED. THE GIVEN ROWS OF THIS SEAT. 10 by the template 'for every input the law returns true; each argument reads behind the call as it read before'; 0 by the template 'total and deterministic' (their statements: YthdaibmminibhaaDoorTotals.lean).
  GIVEN WITH THE SEED: the statements are not yours to turn. If you find one false, say at which input.
  Laid BY PROGRAM, IN A SANDBOX (cutbox-rows.mjs): the forced cells as the released guide's own fill.sh prints them over the translation 924ee9331ef6be2f… (all of the seat's roots in one cut). By AI agents, Wed Nov 11 2026. No macro, syntax, notation, axiom, sorry.
-/
import Derived.Test.YthdaibmminibhaaDoorChecked
import GoSem.Claim
import GoSem.ClaimJoined
import GoSem.ClaimMapViews
import Derived.JoinedTies
import Derived.KernelRfl
namespace Go.Proofs.YthdaibmminibhaaDoor
/- THE CELL 'sum', in the pinned program and in every row, IS THE sha256 OF THE DUMP (.gsa) THAT YthdaibmminibhaaDoorProg.lean LOADS. Nothing in Lean hashes anything: it is a label: what it is worth is what the hold of that sum in a sandbox is worth. -/
noncomputable def Tryd.pinned : Pinned := { name := "ythdaibmminibhaadoor", sum := "924ee9331ef6be2fd008a160731d83c7b69a45a629552f52bd3230832ea01771", checked := Tryd.checked }
namespace Rows
def none {H : Type} : Left H := { results := [], args := [] }

/- WHAT THE LISTED PACKAGE-LEVEL VARIABLES READ AS WHEN THE CALL BEGINS. Each datum BY PROGRAM (the guide's laid-datum.mjs) off the statement by which the dump's own 'gosem.cut.vars' lays the variable. In a bare row this is a premise. The card (YthdaibmminibhaaDoorCards.lean) ties it to the program's text. -/
def laid_math_bits_deBruijn32tab {H : Type} : DataW H := .agg [.lit (.int .u8 0), .lit (.int .u8 1), .lit (.int .u8 28), .lit (.int .u8 2), .lit (.int .u8 29), .lit (.int .u8 14), .lit (.int .u8 24), .lit (.int .u8 3), .lit (.int .u8 30), .lit (.int .u8 22), .lit (.int .u8 20), .lit (.int .u8 15), .lit (.int .u8 25), .lit (.int .u8 17), .lit (.int .u8 4), .lit (.int .u8 8), .lit (.int .u8 31), .lit (.int .u8 27), .lit (.int .u8 13), .lit (.int .u8 23), .lit (.int .u8 21), .lit (.int .u8 19), .lit (.int .u8 16), .lit (.int .u8 7), .lit (.int .u8 26), .lit (.int .u8 12), .lit (.int .u8 18), .lit (.int .u8 6), .lit (.int .u8 11), .lit (.int .u8 5), .lit (.int .u8 10), .lit (.int .u8 9)]
def laid_math_bits_deBruijn64tab {H : Type} : DataW H := .agg [.lit (.int .u8 0), .lit (.int .u8 1), .lit (.int .u8 56), .lit (.int .u8 2), .lit (.int .u8 57), .lit (.int .u8 49), .lit (.int .u8 28), .lit (.int .u8 3), .lit (.int .u8 61), .lit (.int .u8 58), .lit (.int .u8 42), .lit (.int .u8 50), .lit (.int .u8 38), .lit (.int .u8 29), .lit (.int .u8 17), .lit (.int .u8 4), .lit (.int .u8 62), .lit (.int .u8 47), .lit (.int .u8 59), .lit (.int .u8 36), .lit (.int .u8 45), .lit (.int .u8 43), .lit (.int .u8 51), .lit (.int .u8 22), .lit (.int .u8 53), .lit (.int .u8 39), .lit (.int .u8 33), .lit (.int .u8 30), .lit (.int .u8 24), .lit (.int .u8 18), .lit (.int .u8 12), .lit (.int .u8 5), .lit (.int .u8 63), .lit (.int .u8 55), .lit (.int .u8 48), .lit (.int .u8 27), .lit (.int .u8 60), .lit (.int .u8 41), .lit (.int .u8 37), .lit (.int .u8 16), .lit (.int .u8 46), .lit (.int .u8 35), .lit (.int .u8 44), .lit (.int .u8 21), .lit (.int .u8 52), .lit (.int .u8 32), .lit (.int .u8 23), .lit (.int .u8 11), .lit (.int .u8 54), .lit (.int .u8 26), .lit (.int .u8 40), .lit (.int .u8 15), .lit (.int .u8 34), .lit (.int .u8 20), .lit (.int .u8 31), .lit (.int .u8 10), .lit (.int .u8 25), .lit (.int .u8 14), .lit (.int .u8 19), .lit (.int .u8 9), .lit (.int .u8 13), .lit (.int .u8 8), .lit (.int .u8 7), .lit (.int .u8 6)]
def laid_internal_strconv_uint64pow10 {H : Type} : DataW H := .agg [.lit (.int .u64 1), .lit (.int .u64 10), .lit (.int .u64 100), .lit (.int .u64 1000), .lit (.int .u64 10000), .lit (.int .u64 100000), .lit (.int .u64 1000000), .lit (.int .u64 10000000), .lit (.int .u64 100000000), .lit (.int .u64 1000000000), .lit (.int .u64 10000000000), .lit (.int .u64 100000000000), .lit (.int .u64 1000000000000), .lit (.int .u64 10000000000000), .lit (.int .u64 100000000000000), .lit (.int .u64 1000000000000000), .lit (.int .u64 10000000000000000), .lit (.int .u64 100000000000000000), .lit (.int .u64 1000000000000000000), .lit (.int .u64 10000000000000000000)]
def laid_errors_errorType {H : Type} : DataW H := .iface "internal/reflectlite.rtype" (.agg [.ptr (.lit (.string [101, 114, 114, 111, 114]))])
def laid_stillroom_codec_errCut {H : Type} : DataW H := .iface "*errors.errorString" (.ptr (.agg [.lit (.string [116, 104, 101, 32, 98, 121, 116, 101, 115, 32, 101, 110, 100, 32, 116, 111, 111, 32, 115, 111, 111, 110])]))
def laid_stillroom_codec_errLoose {H : Type} : DataW H := .iface "*errors.errorString" (.ptr (.agg [.lit (.string [97, 32, 110, 117, 109, 98, 101, 114, 32, 105, 110, 32, 109, 111, 114, 101, 32, 98, 121, 116, 101, 115, 32, 116, 104, 97, 110, 32, 105, 116, 32, 110, 101, 101, 100, 115])]))
def laid_stillroom_codec_errWide {H : Type} : DataW H := .iface "*errors.errorString" (.ptr (.agg [.lit (.string [97, 32, 110, 117, 109, 98, 101, 114, 32, 111, 102, 32, 109, 111, 114, 101, 32, 116, 104, 97, 110, 32, 54, 52, 32, 98, 105, 116, 115])]))
def laid_stillroom_codec_errHead {H : Type} : DataW H := .iface "*errors.errorString" (.ptr (.agg [.lit (.string [110, 111, 32, 118, 97, 108, 117, 101, 32, 98, 101, 103, 105, 110, 115, 32, 115, 111])]))
def laid_stillroom_codec_errMany {H : Type} : DataW H := .iface "*errors.errorString" (.ptr (.agg [.lit (.string [109, 111, 114, 101, 32, 116, 104, 97, 110, 32, 116, 104, 101, 114, 101, 32, 109, 97, 121, 32, 98, 101])]))
def laid_stillroom_frame_errSum {H : Type} : DataW H := .iface "*errors.errorString" (.ptr (.agg [.lit (.string [97, 110, 111, 116, 104, 101, 114, 32, 115, 117, 109])]))
def laid_stillroom_frame_errHead {H : Type} : DataW H := .iface "*errors.errorString" (.ptr (.agg [.lit (.string [110, 111, 32, 102, 114, 97, 109, 101, 32, 98, 101, 103, 105, 110, 115, 32, 115, 111])]))
def laid_stillroom_frame_errGreat {H : Type} : DataW H := .iface "*errors.errorString" (.ptr (.agg [.lit (.string [109, 111, 114, 101, 32, 98, 121, 116, 101, 115, 32, 116, 104, 97, 110, 32, 97, 32, 102, 114, 97, 109, 101, 32, 109, 97, 121, 32, 104, 97, 118, 101])]))
def laid_stillroom_frame_errShort {H : Type} : DataW H := .iface "*errors.errorString" (.ptr (.agg [.lit (.string [116, 104, 101, 32, 98, 121, 116, 101, 115, 32, 101, 110, 100, 32, 116, 111, 111, 32, 115, 111, 111, 110])]))
def laid_stillroom_frame_errMore {H : Type} : DataW H := .iface "*errors.errorString" (.ptr (.agg [.lit (.string [98, 121, 116, 101, 115, 32, 98, 101, 104, 105, 110, 100, 32, 116, 104, 101, 32, 102, 114, 97, 109, 101])]))
def laid_stillroom_frame_turns {H : Type} : DataW H := .agg [.lit (.int .u32 0), .lit (.int .u32 498536548), .lit (.int .u32 997073096), .lit (.int .u32 651767980), .lit (.int .u32 1994146192), .lit (.int .u32 1802195444), .lit (.int .u32 1303535960), .lit (.int .u32 1342533948), .lit (.int .u32 3988292384), .lit (.int .u32 4027552580), .lit (.int .u32 3604390888), .lit (.int .u32 3412177804), .lit (.int .u32 2607071920), .lit (.int .u32 2262029012), .lit (.int .u32 2685067896), .lit (.int .u32 3183342108)]

/-- 'stillroomlaw03.WideTexts': WHATEVER THE INPUT: true; the input reads as it did. -/
def wideTextsSpec : ChangeSpec := { name := "wideTexts", fn := fun _ => fun
  | [d] => { results := [.lit (.bool true)], args := [d] }
  | _ => none }
def wideTextsRow : OpenClaim := { program := "ythdaibmminibhaadoor", sum := "924ee9331ef6be2fd008a160731d83c7b69a45a629552f52bd3230832ea01771", func := "stillroom/stillroomlaw03.WideTexts", spec := "wideTexts", inPlace := ["math/bits.Add64", "math/bits.Sub64", "internal/abi.NoEscape", "internal/bytealg.MakeNoZero"], recurses := true, named := ["math/bits.divideError", "math/bits.overflowError", "internal/strconv.uint64pow10", "math/bits.deBruijn32tab", "math/bits.deBruijn64tab"], apart := false, laid := [("math/bits.deBruijn32tab", laid_math_bits_deBruijn32tab), ("math/bits.deBruijn64tab", laid_math_bits_deBruijn64tab), ("internal/strconv.uint64pow10", laid_internal_strconv_uint64pow10)] }
def WideTextsSaid : Prop := wideTextsRow.holds Tryd.pinned (OpenSpec.ofChange wideTextsSpec)

/-- ITS FALSE NEIGHBOUR: 'it returns false'. Refute it at one input. -/
def wideTextsWrong : ChangeSpec := { name := "wideTexts", fn := fun _ => fun
  | [d] => { results := [.lit (.bool false)], args := [d] }
  | _ => none }
def WideTextsWrongFalsely : Prop := wideTextsRow.holds Tryd.pinned (OpenSpec.ofChange wideTextsWrong)

/-- 'stillroomlaw04.CodecReads': WHATEVER THE INPUT: true; the input reads as it did. -/
def codecReadsSpec : ChangeSpec := { name := "codecReads", fn := fun _ => fun
  | [d] => { results := [.lit (.bool true)], args := [d] }
  | _ => none }
def codecReadsRow : OpenClaim := { program := "ythdaibmminibhaadoor", sum := "924ee9331ef6be2fd008a160731d83c7b69a45a629552f52bd3230832ea01771", func := "stillroom/stillroomlaw04.CodecReads", spec := "codecReads", inPlace := ["internal/reflectlite.ValueOf", "(internal/reflectlite.Value).Type", "(internal/reflectlite.Value).IsNil", "internal/reflectlite.TypeOf", "(internal/reflectlite.Value).Elem", "(internal/reflectlite.Value).Set"], unfollowed := true, recurses := true, named := ["errors.errorType", "stillroom/codec.errLoose", "stillroom/codec.errWide", "stillroom/codec.errCut", "stillroom/codec.errHead", "stillroom/codec.errMany"], apart := false, laid := [("errors.errorType", laid_errors_errorType), ("stillroom/codec.errCut", laid_stillroom_codec_errCut), ("stillroom/codec.errLoose", laid_stillroom_codec_errLoose), ("stillroom/codec.errWide", laid_stillroom_codec_errWide), ("stillroom/codec.errHead", laid_stillroom_codec_errHead), ("stillroom/codec.errMany", laid_stillroom_codec_errMany)] }
def CodecReadsSaid : Prop := codecReadsRow.holds Tryd.pinned (OpenSpec.ofChange codecReadsSpec)

/-- ITS FALSE NEIGHBOUR: 'it returns false'. Refute it at one input. -/
def codecReadsWrong : ChangeSpec := { name := "codecReads", fn := fun _ => fun
  | [d] => { results := [.lit (.bool false)], args := [d] }
  | _ => none }
def CodecReadsWrongFalsely : Prop := codecReadsRow.holds Tryd.pinned (OpenSpec.ofChange codecReadsWrong)

/-- 'stillroomlaw04.CodecOne': WHATEVER THE INPUT: true; the input reads as it did. -/
def codecOneSpec : ChangeSpec := { name := "codecOne", fn := fun _ => fun
  | [d] => { results := [.lit (.bool true)], args := [d] }
  | _ => none }
def codecOneRow : OpenClaim := { program := "ythdaibmminibhaadoor", sum := "924ee9331ef6be2fd008a160731d83c7b69a45a629552f52bd3230832ea01771", func := "stillroom/stillroomlaw04.CodecOne", spec := "codecOne", inPlace := ["internal/reflectlite.ValueOf", "(internal/reflectlite.Value).Type", "(internal/reflectlite.Value).IsNil", "internal/reflectlite.TypeOf", "(internal/reflectlite.Value).Elem", "(internal/reflectlite.Value).Set"], unfollowed := true, recurses := true, named := ["errors.errorType", "stillroom/codec.errMany", "stillroom/codec.errLoose", "stillroom/codec.errWide", "stillroom/codec.errCut", "stillroom/codec.errHead"], apart := false, laid := [("errors.errorType", laid_errors_errorType), ("stillroom/codec.errCut", laid_stillroom_codec_errCut), ("stillroom/codec.errLoose", laid_stillroom_codec_errLoose), ("stillroom/codec.errWide", laid_stillroom_codec_errWide), ("stillroom/codec.errHead", laid_stillroom_codec_errHead), ("stillroom/codec.errMany", laid_stillroom_codec_errMany)] }
def CodecOneSaid : Prop := codecOneRow.holds Tryd.pinned (OpenSpec.ofChange codecOneSpec)

/-- ITS FALSE NEIGHBOUR: 'it returns false'. Refute it at one input. -/
def codecOneWrong : ChangeSpec := { name := "codecOne", fn := fun _ => fun
  | [d] => { results := [.lit (.bool false)], args := [d] }
  | _ => none }
def CodecOneWrongFalsely : Prop := codecOneRow.holds Tryd.pinned (OpenSpec.ofChange codecOneWrong)

/-- 'stillroomlaw05.FrameWrites': WHATEVER THE INPUT: true; the input reads as it did. -/
def frameWritesSpec : ChangeSpec := { name := "frameWrites", fn := fun _ => fun
  | [d] => { results := [.lit (.bool true)], args := [d] }
  | _ => none }
def frameWritesRow : OpenClaim := { program := "ythdaibmminibhaadoor", sum := "924ee9331ef6be2fd008a160731d83c7b69a45a629552f52bd3230832ea01771", func := "stillroom/stillroomlaw05.FrameWrites", spec := "frameWrites", inPlace := ["internal/reflectlite.ValueOf", "(internal/reflectlite.Value).Type", "(internal/reflectlite.Value).IsNil", "internal/reflectlite.TypeOf", "(internal/reflectlite.Value).Elem", "(internal/reflectlite.Value).Set"], unfollowed := true, recurses := true, named := ["stillroom/frame.errGreat", "stillroom/frame.turns", "errors.errorType", "stillroom/frame.errMore", "stillroom/frame.errShort", "stillroom/frame.errHead", "stillroom/codec.errLoose", "stillroom/codec.errWide", "stillroom/codec.errCut", "stillroom/frame.errSum"], apart := false, laid := [("errors.errorType", laid_errors_errorType), ("stillroom/codec.errCut", laid_stillroom_codec_errCut), ("stillroom/codec.errLoose", laid_stillroom_codec_errLoose), ("stillroom/codec.errWide", laid_stillroom_codec_errWide), ("stillroom/frame.errSum", laid_stillroom_frame_errSum), ("stillroom/frame.errHead", laid_stillroom_frame_errHead), ("stillroom/frame.errGreat", laid_stillroom_frame_errGreat), ("stillroom/frame.errShort", laid_stillroom_frame_errShort), ("stillroom/frame.errMore", laid_stillroom_frame_errMore), ("stillroom/frame.turns", laid_stillroom_frame_turns)] }
def FrameWritesSaid : Prop := frameWritesRow.holds Tryd.pinned (OpenSpec.ofChange frameWritesSpec)

/-- ITS FALSE NEIGHBOUR: 'it returns false'. Refute it at one input. -/
def frameWritesWrong : ChangeSpec := { name := "frameWrites", fn := fun _ => fun
  | [d] => { results := [.lit (.bool false)], args := [d] }
  | _ => none }
def FrameWritesWrongFalsely : Prop := frameWritesRow.holds Tryd.pinned (OpenSpec.ofChange frameWritesWrong)

/-- 'stillroomlaw05.FrameReads': WHATEVER THE INPUT: true; the input reads as it did. -/
def frameReadsSpec : ChangeSpec := { name := "frameReads", fn := fun _ => fun
  | [d] => { results := [.lit (.bool true)], args := [d] }
  | _ => none }
def frameReadsRow : OpenClaim := { program := "ythdaibmminibhaadoor", sum := "924ee9331ef6be2fd008a160731d83c7b69a45a629552f52bd3230832ea01771", func := "stillroom/stillroomlaw05.FrameReads", spec := "frameReads", inPlace := ["internal/reflectlite.ValueOf", "(internal/reflectlite.Value).Type", "(internal/reflectlite.Value).IsNil", "internal/reflectlite.TypeOf", "(internal/reflectlite.Value).Elem", "(internal/reflectlite.Value).Set"], unfollowed := true, recurses := true, named := ["stillroom/frame.errGreat", "stillroom/frame.turns", "errors.errorType", "stillroom/frame.errMore", "stillroom/frame.errShort", "stillroom/frame.errHead", "stillroom/codec.errLoose", "stillroom/codec.errWide", "stillroom/codec.errCut", "stillroom/frame.errSum"], apart := false, laid := [("errors.errorType", laid_errors_errorType), ("stillroom/codec.errCut", laid_stillroom_codec_errCut), ("stillroom/codec.errLoose", laid_stillroom_codec_errLoose), ("stillroom/codec.errWide", laid_stillroom_codec_errWide), ("stillroom/frame.errSum", laid_stillroom_frame_errSum), ("stillroom/frame.errHead", laid_stillroom_frame_errHead), ("stillroom/frame.errGreat", laid_stillroom_frame_errGreat), ("stillroom/frame.errShort", laid_stillroom_frame_errShort), ("stillroom/frame.errMore", laid_stillroom_frame_errMore), ("stillroom/frame.turns", laid_stillroom_frame_turns)] }
def FrameReadsSaid : Prop := frameReadsRow.holds Tryd.pinned (OpenSpec.ofChange frameReadsSpec)

/-- ITS FALSE NEIGHBOUR: 'it returns false'. Refute it at one input. -/
def frameReadsWrong : ChangeSpec := { name := "frameReads", fn := fun _ => fun
  | [d] => { results := [.lit (.bool false)], args := [d] }
  | _ => none }
def FrameReadsWrongFalsely : Prop := frameReadsRow.holds Tryd.pinned (OpenSpec.ofChange frameReadsWrong)

/-- 'stillroomlaw05.FrameSplits': WHATEVER THE INPUT: true; the input reads as it did. -/
def frameSplitsSpec : ChangeSpec := { name := "frameSplits", fn := fun _ => fun
  | [d] => { results := [.lit (.bool true)], args := [d] }
  | _ => none }
def frameSplitsRow : OpenClaim := { program := "ythdaibmminibhaadoor", sum := "924ee9331ef6be2fd008a160731d83c7b69a45a629552f52bd3230832ea01771", func := "stillroom/stillroomlaw05.FrameSplits", spec := "frameSplits", inPlace := ["internal/reflectlite.ValueOf", "(internal/reflectlite.Value).Type", "(internal/reflectlite.Value).IsNil", "internal/reflectlite.TypeOf", "(internal/reflectlite.Value).Elem", "(internal/reflectlite.Value).Set"], unfollowed := true, recurses := true, named := ["stillroom/frame.errGreat", "stillroom/frame.turns", "errors.errorType", "stillroom/frame.errShort", "stillroom/frame.errHead", "stillroom/codec.errLoose", "stillroom/codec.errWide", "stillroom/codec.errCut", "stillroom/frame.errSum"], apart := false, laid := [("errors.errorType", laid_errors_errorType), ("stillroom/codec.errCut", laid_stillroom_codec_errCut), ("stillroom/codec.errLoose", laid_stillroom_codec_errLoose), ("stillroom/codec.errWide", laid_stillroom_codec_errWide), ("stillroom/frame.errSum", laid_stillroom_frame_errSum), ("stillroom/frame.errHead", laid_stillroom_frame_errHead), ("stillroom/frame.errGreat", laid_stillroom_frame_errGreat), ("stillroom/frame.errShort", laid_stillroom_frame_errShort), ("stillroom/frame.turns", laid_stillroom_frame_turns)] }
def FrameSplitsSaid : Prop := frameSplitsRow.holds Tryd.pinned (OpenSpec.ofChange frameSplitsSpec)

/-- ITS FALSE NEIGHBOUR: 'it returns false'. Refute it at one input. -/
def frameSplitsWrong : ChangeSpec := { name := "frameSplits", fn := fun _ => fun
  | [d] => { results := [.lit (.bool false)], args := [d] }
  | _ => none }
def FrameSplitsWrongFalsely : Prop := frameSplitsRow.holds Tryd.pinned (OpenSpec.ofChange frameSplitsWrong)

/-- 'stillroomlaw05.FrameLists': WHATEVER THE INPUT: true; the input reads as it did. -/
def frameListsSpec : ChangeSpec := { name := "frameLists", fn := fun _ => fun
  | [d1, d2] => { results := [.lit (.bool true)], args := [d1, d2] }
  | _ => none }
def frameListsRow : OpenClaim := { program := "ythdaibmminibhaadoor", sum := "924ee9331ef6be2fd008a160731d83c7b69a45a629552f52bd3230832ea01771", func := "stillroom/stillroomlaw05.FrameLists", spec := "frameLists", inPlace := ["internal/reflectlite.ValueOf", "(internal/reflectlite.Value).Type", "(internal/reflectlite.Value).IsNil", "internal/reflectlite.TypeOf", "(internal/reflectlite.Value).Elem", "(internal/reflectlite.Value).Set"], unfollowed := true, recurses := true, named := ["stillroom/frame.errGreat", "stillroom/frame.turns", "errors.errorType", "stillroom/frame.errShort", "stillroom/frame.errHead", "stillroom/codec.errLoose", "stillroom/codec.errWide", "stillroom/codec.errCut", "stillroom/frame.errSum"], apart := false, laid := [("errors.errorType", laid_errors_errorType), ("stillroom/codec.errCut", laid_stillroom_codec_errCut), ("stillroom/codec.errLoose", laid_stillroom_codec_errLoose), ("stillroom/codec.errWide", laid_stillroom_codec_errWide), ("stillroom/frame.errSum", laid_stillroom_frame_errSum), ("stillroom/frame.errHead", laid_stillroom_frame_errHead), ("stillroom/frame.errGreat", laid_stillroom_frame_errGreat), ("stillroom/frame.errShort", laid_stillroom_frame_errShort), ("stillroom/frame.turns", laid_stillroom_frame_turns)] }
def FrameListsSaid : Prop := frameListsRow.holds Tryd.pinned (OpenSpec.ofChange frameListsSpec)

/-- ITS FALSE NEIGHBOUR: 'it returns false'. Refute it at one input. -/
def frameListsWrong : ChangeSpec := { name := "frameLists", fn := fun _ => fun
  | [d1, d2] => { results := [.lit (.bool false)], args := [d1, d2] }
  | _ => none }
def FrameListsWrongFalsely : Prop := frameListsRow.holds Tryd.pinned (OpenSpec.ofChange frameListsWrong)

/-- 'stillroomlaw05.FrameTurned': WHATEVER THE INPUT: true; the input reads as it did. -/
def frameTurnedSpec : ChangeSpec := { name := "frameTurned", fn := fun _ => fun
  | [d1, d2, d3] => { results := [.lit (.bool true)], args := [d1, d2, d3] }
  | _ => none }
def frameTurnedRow : OpenClaim := { program := "ythdaibmminibhaadoor", sum := "924ee9331ef6be2fd008a160731d83c7b69a45a629552f52bd3230832ea01771", func := "stillroom/stillroomlaw05.FrameTurned", spec := "frameTurned", inPlace := ["internal/reflectlite.ValueOf", "(internal/reflectlite.Value).Type", "(internal/reflectlite.Value).IsNil", "internal/reflectlite.TypeOf", "(internal/reflectlite.Value).Elem", "(internal/reflectlite.Value).Set"], unfollowed := true, recurses := true, named := ["stillroom/frame.errGreat", "stillroom/frame.turns", "errors.errorType", "stillroom/frame.errMore", "stillroom/frame.errShort", "stillroom/frame.errHead", "stillroom/codec.errLoose", "stillroom/codec.errWide", "stillroom/codec.errCut", "stillroom/frame.errSum"], apart := false, laid := [("errors.errorType", laid_errors_errorType), ("stillroom/codec.errCut", laid_stillroom_codec_errCut), ("stillroom/codec.errLoose", laid_stillroom_codec_errLoose), ("stillroom/codec.errWide", laid_stillroom_codec_errWide), ("stillroom/frame.errSum", laid_stillroom_frame_errSum), ("stillroom/frame.errHead", laid_stillroom_frame_errHead), ("stillroom/frame.errGreat", laid_stillroom_frame_errGreat), ("stillroom/frame.errShort", laid_stillroom_frame_errShort), ("stillroom/frame.errMore", laid_stillroom_frame_errMore), ("stillroom/frame.turns", laid_stillroom_frame_turns)] }
def FrameTurnedSaid : Prop := frameTurnedRow.holds Tryd.pinned (OpenSpec.ofChange frameTurnedSpec)

/-- ITS FALSE NEIGHBOUR: 'it returns false'. Refute it at one input. -/
def frameTurnedWrong : ChangeSpec := { name := "frameTurned", fn := fun _ => fun
  | [d1, d2, d3] => { results := [.lit (.bool false)], args := [d1, d2, d3] }
  | _ => none }
def FrameTurnedWrongFalsely : Prop := frameTurnedRow.holds Tryd.pinned (OpenSpec.ofChange frameTurnedWrong)

/-- 'stillroomlaw05.FrameCut': WHATEVER THE INPUT: true; the input reads as it did. -/
def frameCutSpec : ChangeSpec := { name := "frameCut", fn := fun _ => fun
  | [d1, d2, d3] => { results := [.lit (.bool true)], args := [d1, d2, d3] }
  | _ => none }
def frameCutRow : OpenClaim := { program := "ythdaibmminibhaadoor", sum := "924ee9331ef6be2fd008a160731d83c7b69a45a629552f52bd3230832ea01771", func := "stillroom/stillroomlaw05.FrameCut", spec := "frameCut", inPlace := ["internal/reflectlite.ValueOf", "(internal/reflectlite.Value).Type", "(internal/reflectlite.Value).IsNil", "internal/reflectlite.TypeOf", "(internal/reflectlite.Value).Elem", "(internal/reflectlite.Value).Set"], unfollowed := true, recurses := true, named := ["stillroom/frame.errGreat", "stillroom/frame.turns", "errors.errorType", "stillroom/frame.errMore", "stillroom/frame.errShort", "stillroom/frame.errHead", "stillroom/codec.errLoose", "stillroom/codec.errWide", "stillroom/codec.errCut", "stillroom/frame.errSum"], apart := false, laid := [("errors.errorType", laid_errors_errorType), ("stillroom/codec.errCut", laid_stillroom_codec_errCut), ("stillroom/codec.errLoose", laid_stillroom_codec_errLoose), ("stillroom/codec.errWide", laid_stillroom_codec_errWide), ("stillroom/frame.errSum", laid_stillroom_frame_errSum), ("stillroom/frame.errHead", laid_stillroom_frame_errHead), ("stillroom/frame.errGreat", laid_stillroom_frame_errGreat), ("stillroom/frame.errShort", laid_stillroom_frame_errShort), ("stillroom/frame.errMore", laid_stillroom_frame_errMore), ("stillroom/frame.turns", laid_stillroom_frame_turns)] }
def FrameCutSaid : Prop := frameCutRow.holds Tryd.pinned (OpenSpec.ofChange frameCutSpec)

/-- ITS FALSE NEIGHBOUR: 'it returns false'. Refute it at one input. -/
def frameCutWrong : ChangeSpec := { name := "frameCut", fn := fun _ => fun
  | [d1, d2, d3] => { results := [.lit (.bool false)], args := [d1, d2, d3] }
  | _ => none }
def FrameCutWrongFalsely : Prop := frameCutRow.holds Tryd.pinned (OpenSpec.ofChange frameCutWrong)

/-- 'stillroomlaw05.FrameGreat': WHATEVER THE INPUT: true; the input reads as it did. -/
def frameGreatSpec : ChangeSpec := { name := "frameGreat", fn := fun _ => fun
  | [d] => { results := [.lit (.bool true)], args := [d] }
  | _ => none }
def frameGreatRow : OpenClaim := { program := "ythdaibmminibhaadoor", sum := "924ee9331ef6be2fd008a160731d83c7b69a45a629552f52bd3230832ea01771", func := "stillroom/stillroomlaw05.FrameGreat", spec := "frameGreat", inPlace := ["internal/reflectlite.ValueOf", "(internal/reflectlite.Value).Type", "(internal/reflectlite.Value).IsNil", "internal/reflectlite.TypeOf", "(internal/reflectlite.Value).Elem", "(internal/reflectlite.Value).Set"], unfollowed := true, recurses := true, named := ["stillroom/frame.errGreat", "stillroom/frame.turns", "errors.errorType", "stillroom/frame.errMore", "stillroom/frame.errShort", "stillroom/frame.errHead", "stillroom/codec.errLoose", "stillroom/codec.errWide", "stillroom/codec.errCut", "stillroom/frame.errSum"], apart := false, laid := [("errors.errorType", laid_errors_errorType), ("stillroom/codec.errCut", laid_stillroom_codec_errCut), ("stillroom/codec.errLoose", laid_stillroom_codec_errLoose), ("stillroom/codec.errWide", laid_stillroom_codec_errWide), ("stillroom/frame.errSum", laid_stillroom_frame_errSum), ("stillroom/frame.errHead", laid_stillroom_frame_errHead), ("stillroom/frame.errGreat", laid_stillroom_frame_errGreat), ("stillroom/frame.errShort", laid_stillroom_frame_errShort), ("stillroom/frame.errMore", laid_stillroom_frame_errMore), ("stillroom/frame.turns", laid_stillroom_frame_turns)] }
def FrameGreatSaid : Prop := frameGreatRow.holds Tryd.pinned (OpenSpec.ofChange frameGreatSpec)

/-- ITS FALSE NEIGHBOUR: 'it returns false'. Refute it at one input. -/
def frameGreatWrong : ChangeSpec := { name := "frameGreat", fn := fun _ => fun
  | [d] => { results := [.lit (.bool false)], args := [d] }
  | _ => none }
def FrameGreatWrongFalsely : Prop := frameGreatRow.holds Tryd.pinned (OpenSpec.ofChange frameGreatWrong)

/- THE SECOND FORM. 'bulk': how many values and letters a reading holds, each counted each time it is reached (what is shared counts as often as it is met; a slice's spare places count too). A statement '..UptoSaid' is the law's where the arguments, and the package variables that the reading takes, are together of bulk at most 1048576: NARROWER than '..Said'. Prove '..Said' where nothing that the law and all that it calls make is longer than what came in: it says more and counts as full. Else prove '..UptoSaid'. A law counts once. -/
mutual
def uptoBulk {H : Type} : DataW H → Nat
  | .lit (.string bytes) => bytes.length + 1
  | .lit _ => 1
  | .nil => 1
  | .ptr d => uptoBulk d + 1
  | .slice elems spare => uptoBulkAll elems + uptoBulkAll spare + 1
  | .agg parts => uptoBulkAll parts + 1
  | .iface _ d => uptoBulk d + 1
  | .map entries => uptoBulkEntries entries + 1
  | .held _ => 1
def uptoBulkAll {H : Type} : List (DataW H) → Nat
  | [] => 0
  | d :: r => uptoBulk d + uptoBulkAll r
def uptoBulkEntries {H : Type} : List (Lit × DataW H) → Nat
  | [] => 0
  | x :: r => uptoBulkEntry x + uptoBulkEntries r
def uptoBulkEntry {H : Type} : Lit × DataW H → Nat
  | (.string bytes, d) => bytes.length + uptoBulk d + 1
  | (_, d) => uptoBulk d + 1
 end
def uptoSmall : (H : Type) → List (DataW H) → Bool := fun _ ds => decide (uptoBulkAll ds ≤ 1048576)
def OpenSpec.upto (s : _root_.Go.ChangeSpec) : _root_.Go.OpenSpec := { _root_.Go.OpenSpec.ofChange s with cond := some uptoSmall }

/-- 'stillroomlaw03.WideTexts', WHERE WHAT IT READS IS OF BULK AT MOST 1048576: true; the input reads as it did. -/
def wideTextsUptoRow : OpenClaim := { program := "ythdaibmminibhaadoor", sum := "924ee9331ef6be2fd008a160731d83c7b69a45a629552f52bd3230832ea01771", func := "stillroom/stillroomlaw03.WideTexts", spec := "wideTexts", inPlace := ["math/bits.Add64", "math/bits.Sub64", "internal/abi.NoEscape", "internal/bytealg.MakeNoZero"], recurses := true, named := ["math/bits.divideError", "math/bits.overflowError", "internal/strconv.uint64pow10", "math/bits.deBruijn32tab", "math/bits.deBruijn64tab"], apart := false, laid := [("math/bits.deBruijn32tab", laid_math_bits_deBruijn32tab), ("math/bits.deBruijn64tab", laid_math_bits_deBruijn64tab), ("internal/strconv.uint64pow10", laid_internal_strconv_uint64pow10)], narrowed := true }
def WideTextsUptoSaid : Prop := wideTextsUptoRow.holds Tryd.pinned (OpenSpec.upto wideTextsSpec)

/-- 'stillroomlaw04.CodecReads', WHERE WHAT IT READS IS OF BULK AT MOST 1048576: true; the input reads as it did. -/
def codecReadsUptoRow : OpenClaim := { program := "ythdaibmminibhaadoor", sum := "924ee9331ef6be2fd008a160731d83c7b69a45a629552f52bd3230832ea01771", func := "stillroom/stillroomlaw04.CodecReads", spec := "codecReads", inPlace := ["internal/reflectlite.ValueOf", "(internal/reflectlite.Value).Type", "(internal/reflectlite.Value).IsNil", "internal/reflectlite.TypeOf", "(internal/reflectlite.Value).Elem", "(internal/reflectlite.Value).Set"], unfollowed := true, recurses := true, named := ["errors.errorType", "stillroom/codec.errLoose", "stillroom/codec.errWide", "stillroom/codec.errCut", "stillroom/codec.errHead", "stillroom/codec.errMany"], apart := false, laid := [("errors.errorType", laid_errors_errorType), ("stillroom/codec.errCut", laid_stillroom_codec_errCut), ("stillroom/codec.errLoose", laid_stillroom_codec_errLoose), ("stillroom/codec.errWide", laid_stillroom_codec_errWide), ("stillroom/codec.errHead", laid_stillroom_codec_errHead), ("stillroom/codec.errMany", laid_stillroom_codec_errMany)], narrowed := true }
def CodecReadsUptoSaid : Prop := codecReadsUptoRow.holds Tryd.pinned (OpenSpec.upto codecReadsSpec)

/-- 'stillroomlaw04.CodecOne', WHERE WHAT IT READS IS OF BULK AT MOST 1048576: true; the input reads as it did. -/
def codecOneUptoRow : OpenClaim := { program := "ythdaibmminibhaadoor", sum := "924ee9331ef6be2fd008a160731d83c7b69a45a629552f52bd3230832ea01771", func := "stillroom/stillroomlaw04.CodecOne", spec := "codecOne", inPlace := ["internal/reflectlite.ValueOf", "(internal/reflectlite.Value).Type", "(internal/reflectlite.Value).IsNil", "internal/reflectlite.TypeOf", "(internal/reflectlite.Value).Elem", "(internal/reflectlite.Value).Set"], unfollowed := true, recurses := true, named := ["errors.errorType", "stillroom/codec.errMany", "stillroom/codec.errLoose", "stillroom/codec.errWide", "stillroom/codec.errCut", "stillroom/codec.errHead"], apart := false, laid := [("errors.errorType", laid_errors_errorType), ("stillroom/codec.errCut", laid_stillroom_codec_errCut), ("stillroom/codec.errLoose", laid_stillroom_codec_errLoose), ("stillroom/codec.errWide", laid_stillroom_codec_errWide), ("stillroom/codec.errHead", laid_stillroom_codec_errHead), ("stillroom/codec.errMany", laid_stillroom_codec_errMany)], narrowed := true }
def CodecOneUptoSaid : Prop := codecOneUptoRow.holds Tryd.pinned (OpenSpec.upto codecOneSpec)

/-- 'stillroomlaw05.FrameWrites', WHERE WHAT IT READS IS OF BULK AT MOST 1048576: true; the input reads as it did. -/
def frameWritesUptoRow : OpenClaim := { program := "ythdaibmminibhaadoor", sum := "924ee9331ef6be2fd008a160731d83c7b69a45a629552f52bd3230832ea01771", func := "stillroom/stillroomlaw05.FrameWrites", spec := "frameWrites", inPlace := ["internal/reflectlite.ValueOf", "(internal/reflectlite.Value).Type", "(internal/reflectlite.Value).IsNil", "internal/reflectlite.TypeOf", "(internal/reflectlite.Value).Elem", "(internal/reflectlite.Value).Set"], unfollowed := true, recurses := true, named := ["stillroom/frame.errGreat", "stillroom/frame.turns", "errors.errorType", "stillroom/frame.errMore", "stillroom/frame.errShort", "stillroom/frame.errHead", "stillroom/codec.errLoose", "stillroom/codec.errWide", "stillroom/codec.errCut", "stillroom/frame.errSum"], apart := false, laid := [("errors.errorType", laid_errors_errorType), ("stillroom/codec.errCut", laid_stillroom_codec_errCut), ("stillroom/codec.errLoose", laid_stillroom_codec_errLoose), ("stillroom/codec.errWide", laid_stillroom_codec_errWide), ("stillroom/frame.errSum", laid_stillroom_frame_errSum), ("stillroom/frame.errHead", laid_stillroom_frame_errHead), ("stillroom/frame.errGreat", laid_stillroom_frame_errGreat), ("stillroom/frame.errShort", laid_stillroom_frame_errShort), ("stillroom/frame.errMore", laid_stillroom_frame_errMore), ("stillroom/frame.turns", laid_stillroom_frame_turns)], narrowed := true }
def FrameWritesUptoSaid : Prop := frameWritesUptoRow.holds Tryd.pinned (OpenSpec.upto frameWritesSpec)

/-- 'stillroomlaw05.FrameReads', WHERE WHAT IT READS IS OF BULK AT MOST 1048576: true; the input reads as it did. -/
def frameReadsUptoRow : OpenClaim := { program := "ythdaibmminibhaadoor", sum := "924ee9331ef6be2fd008a160731d83c7b69a45a629552f52bd3230832ea01771", func := "stillroom/stillroomlaw05.FrameReads", spec := "frameReads", inPlace := ["internal/reflectlite.ValueOf", "(internal/reflectlite.Value).Type", "(internal/reflectlite.Value).IsNil", "internal/reflectlite.TypeOf", "(internal/reflectlite.Value).Elem", "(internal/reflectlite.Value).Set"], unfollowed := true, recurses := true, named := ["stillroom/frame.errGreat", "stillroom/frame.turns", "errors.errorType", "stillroom/frame.errMore", "stillroom/frame.errShort", "stillroom/frame.errHead", "stillroom/codec.errLoose", "stillroom/codec.errWide", "stillroom/codec.errCut", "stillroom/frame.errSum"], apart := false, laid := [("errors.errorType", laid_errors_errorType), ("stillroom/codec.errCut", laid_stillroom_codec_errCut), ("stillroom/codec.errLoose", laid_stillroom_codec_errLoose), ("stillroom/codec.errWide", laid_stillroom_codec_errWide), ("stillroom/frame.errSum", laid_stillroom_frame_errSum), ("stillroom/frame.errHead", laid_stillroom_frame_errHead), ("stillroom/frame.errGreat", laid_stillroom_frame_errGreat), ("stillroom/frame.errShort", laid_stillroom_frame_errShort), ("stillroom/frame.errMore", laid_stillroom_frame_errMore), ("stillroom/frame.turns", laid_stillroom_frame_turns)], narrowed := true }
def FrameReadsUptoSaid : Prop := frameReadsUptoRow.holds Tryd.pinned (OpenSpec.upto frameReadsSpec)

/-- 'stillroomlaw05.FrameSplits', WHERE WHAT IT READS IS OF BULK AT MOST 1048576: true; the input reads as it did. -/
def frameSplitsUptoRow : OpenClaim := { program := "ythdaibmminibhaadoor", sum := "924ee9331ef6be2fd008a160731d83c7b69a45a629552f52bd3230832ea01771", func := "stillroom/stillroomlaw05.FrameSplits", spec := "frameSplits", inPlace := ["internal/reflectlite.ValueOf", "(internal/reflectlite.Value).Type", "(internal/reflectlite.Value).IsNil", "internal/reflectlite.TypeOf", "(internal/reflectlite.Value).Elem", "(internal/reflectlite.Value).Set"], unfollowed := true, recurses := true, named := ["stillroom/frame.errGreat", "stillroom/frame.turns", "errors.errorType", "stillroom/frame.errShort", "stillroom/frame.errHead", "stillroom/codec.errLoose", "stillroom/codec.errWide", "stillroom/codec.errCut", "stillroom/frame.errSum"], apart := false, laid := [("errors.errorType", laid_errors_errorType), ("stillroom/codec.errCut", laid_stillroom_codec_errCut), ("stillroom/codec.errLoose", laid_stillroom_codec_errLoose), ("stillroom/codec.errWide", laid_stillroom_codec_errWide), ("stillroom/frame.errSum", laid_stillroom_frame_errSum), ("stillroom/frame.errHead", laid_stillroom_frame_errHead), ("stillroom/frame.errGreat", laid_stillroom_frame_errGreat), ("stillroom/frame.errShort", laid_stillroom_frame_errShort), ("stillroom/frame.turns", laid_stillroom_frame_turns)], narrowed := true }
def FrameSplitsUptoSaid : Prop := frameSplitsUptoRow.holds Tryd.pinned (OpenSpec.upto frameSplitsSpec)

/-- 'stillroomlaw05.FrameLists', WHERE WHAT IT READS IS OF BULK AT MOST 1048576: true; the input reads as it did. -/
def frameListsUptoRow : OpenClaim := { program := "ythdaibmminibhaadoor", sum := "924ee9331ef6be2fd008a160731d83c7b69a45a629552f52bd3230832ea01771", func := "stillroom/stillroomlaw05.FrameLists", spec := "frameLists", inPlace := ["internal/reflectlite.ValueOf", "(internal/reflectlite.Value).Type", "(internal/reflectlite.Value).IsNil", "internal/reflectlite.TypeOf", "(internal/reflectlite.Value).Elem", "(internal/reflectlite.Value).Set"], unfollowed := true, recurses := true, named := ["stillroom/frame.errGreat", "stillroom/frame.turns", "errors.errorType", "stillroom/frame.errShort", "stillroom/frame.errHead", "stillroom/codec.errLoose", "stillroom/codec.errWide", "stillroom/codec.errCut", "stillroom/frame.errSum"], apart := false, laid := [("errors.errorType", laid_errors_errorType), ("stillroom/codec.errCut", laid_stillroom_codec_errCut), ("stillroom/codec.errLoose", laid_stillroom_codec_errLoose), ("stillroom/codec.errWide", laid_stillroom_codec_errWide), ("stillroom/frame.errSum", laid_stillroom_frame_errSum), ("stillroom/frame.errHead", laid_stillroom_frame_errHead), ("stillroom/frame.errGreat", laid_stillroom_frame_errGreat), ("stillroom/frame.errShort", laid_stillroom_frame_errShort), ("stillroom/frame.turns", laid_stillroom_frame_turns)], narrowed := true }
def FrameListsUptoSaid : Prop := frameListsUptoRow.holds Tryd.pinned (OpenSpec.upto frameListsSpec)

/-- 'stillroomlaw05.FrameTurned', WHERE WHAT IT READS IS OF BULK AT MOST 1048576: true; the input reads as it did. -/
def frameTurnedUptoRow : OpenClaim := { program := "ythdaibmminibhaadoor", sum := "924ee9331ef6be2fd008a160731d83c7b69a45a629552f52bd3230832ea01771", func := "stillroom/stillroomlaw05.FrameTurned", spec := "frameTurned", inPlace := ["internal/reflectlite.ValueOf", "(internal/reflectlite.Value).Type", "(internal/reflectlite.Value).IsNil", "internal/reflectlite.TypeOf", "(internal/reflectlite.Value).Elem", "(internal/reflectlite.Value).Set"], unfollowed := true, recurses := true, named := ["stillroom/frame.errGreat", "stillroom/frame.turns", "errors.errorType", "stillroom/frame.errMore", "stillroom/frame.errShort", "stillroom/frame.errHead", "stillroom/codec.errLoose", "stillroom/codec.errWide", "stillroom/codec.errCut", "stillroom/frame.errSum"], apart := false, laid := [("errors.errorType", laid_errors_errorType), ("stillroom/codec.errCut", laid_stillroom_codec_errCut), ("stillroom/codec.errLoose", laid_stillroom_codec_errLoose), ("stillroom/codec.errWide", laid_stillroom_codec_errWide), ("stillroom/frame.errSum", laid_stillroom_frame_errSum), ("stillroom/frame.errHead", laid_stillroom_frame_errHead), ("stillroom/frame.errGreat", laid_stillroom_frame_errGreat), ("stillroom/frame.errShort", laid_stillroom_frame_errShort), ("stillroom/frame.errMore", laid_stillroom_frame_errMore), ("stillroom/frame.turns", laid_stillroom_frame_turns)], narrowed := true }
def FrameTurnedUptoSaid : Prop := frameTurnedUptoRow.holds Tryd.pinned (OpenSpec.upto frameTurnedSpec)

/-- 'stillroomlaw05.FrameCut', WHERE WHAT IT READS IS OF BULK AT MOST 1048576: true; the input reads as it did. -/
def frameCutUptoRow : OpenClaim := { program := "ythdaibmminibhaadoor", sum := "924ee9331ef6be2fd008a160731d83c7b69a45a629552f52bd3230832ea01771", func := "stillroom/stillroomlaw05.FrameCut", spec := "frameCut", inPlace := ["internal/reflectlite.ValueOf", "(internal/reflectlite.Value).Type", "(internal/reflectlite.Value).IsNil", "internal/reflectlite.TypeOf", "(internal/reflectlite.Value).Elem", "(internal/reflectlite.Value).Set"], unfollowed := true, recurses := true, named := ["stillroom/frame.errGreat", "stillroom/frame.turns", "errors.errorType", "stillroom/frame.errMore", "stillroom/frame.errShort", "stillroom/frame.errHead", "stillroom/codec.errLoose", "stillroom/codec.errWide", "stillroom/codec.errCut", "stillroom/frame.errSum"], apart := false, laid := [("errors.errorType", laid_errors_errorType), ("stillroom/codec.errCut", laid_stillroom_codec_errCut), ("stillroom/codec.errLoose", laid_stillroom_codec_errLoose), ("stillroom/codec.errWide", laid_stillroom_codec_errWide), ("stillroom/frame.errSum", laid_stillroom_frame_errSum), ("stillroom/frame.errHead", laid_stillroom_frame_errHead), ("stillroom/frame.errGreat", laid_stillroom_frame_errGreat), ("stillroom/frame.errShort", laid_stillroom_frame_errShort), ("stillroom/frame.errMore", laid_stillroom_frame_errMore), ("stillroom/frame.turns", laid_stillroom_frame_turns)], narrowed := true }
def FrameCutUptoSaid : Prop := frameCutUptoRow.holds Tryd.pinned (OpenSpec.upto frameCutSpec)

/-- 'stillroomlaw05.FrameGreat', WHERE WHAT IT READS IS OF BULK AT MOST 1048576: true; the input reads as it did. -/
def frameGreatUptoRow : OpenClaim := { program := "ythdaibmminibhaadoor", sum := "924ee9331ef6be2fd008a160731d83c7b69a45a629552f52bd3230832ea01771", func := "stillroom/stillroomlaw05.FrameGreat", spec := "frameGreat", inPlace := ["internal/reflectlite.ValueOf", "(internal/reflectlite.Value).Type", "(internal/reflectlite.Value).IsNil", "internal/reflectlite.TypeOf", "(internal/reflectlite.Value).Elem", "(internal/reflectlite.Value).Set"], unfollowed := true, recurses := true, named := ["stillroom/frame.errGreat", "stillroom/frame.turns", "errors.errorType", "stillroom/frame.errMore", "stillroom/frame.errShort", "stillroom/frame.errHead", "stillroom/codec.errLoose", "stillroom/codec.errWide", "stillroom/codec.errCut", "stillroom/frame.errSum"], apart := false, laid := [("errors.errorType", laid_errors_errorType), ("stillroom/codec.errCut", laid_stillroom_codec_errCut), ("stillroom/codec.errLoose", laid_stillroom_codec_errLoose), ("stillroom/codec.errWide", laid_stillroom_codec_errWide), ("stillroom/frame.errSum", laid_stillroom_frame_errSum), ("stillroom/frame.errHead", laid_stillroom_frame_errHead), ("stillroom/frame.errGreat", laid_stillroom_frame_errGreat), ("stillroom/frame.errShort", laid_stillroom_frame_errShort), ("stillroom/frame.errMore", laid_stillroom_frame_errMore), ("stillroom/frame.turns", laid_stillroom_frame_turns)], narrowed := true }
def FrameGreatUptoSaid : Prop := frameGreatUptoRow.holds Tryd.pinned (OpenSpec.upto frameGreatSpec)

end Rows
end Go.Proofs.YthdaibmminibhaaDoor
