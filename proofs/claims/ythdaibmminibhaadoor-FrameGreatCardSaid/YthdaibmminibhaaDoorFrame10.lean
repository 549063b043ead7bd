/- What the cards over frames' reading side share: what their ten listed variables give (nine of them where no bytes may stand behind). -/
import Derived.Test.YthdaibmminibhaaDoorFrame5
import Derived.Test.YthdaibmminibhaaDoorCut5
namespace Go.Proofs.YthdaibmminibhaaDoor
open Go.ChangeShapes Go.WideShapes Go.ChangeAt Go.RowKit Go.Joins Go.Deep

theorem sentinel_at {n : String} {text : List UInt8} {r : List (String × DataW Unit)} {W : World} {g : Nat} (h : laidMet Tryd.prog ((n, .iface "*errors.errorString" (.ptr (.agg [.lit (.string text)]))) :: r) W) (hg : Tryd.prog.globalNamed n = some g) (ht : (Tryd.prog.globals[g]?).map (·.type) = some 114) :
    ∃ p, W.cell? ⟨g, 0, none⟩ = some (.iface 223 (.pointer (some p))) := by
  obtain ⟨a, s, hv, _⟩ := laid_sentinel h hg ht Tryd.underlying114 row_err Tryd.underlying223 Tryd.underlying241 rfl rfl Tryd.underlying9 (by kernel_rfl) (by kernel_rfl)
  exact ⟨a, by simpa using World.var?_cell hg hv 0⟩
/-! ### nine -/
def tail8 : List (String × DataW Unit) := [("stillroom/codec.errCut", Rows.laid_stillroom_codec_errCut), ("stillroom/codec.errLoose", Rows.laid_stillroom_codec_errLoose), ("stillroom/codec.errWide", Rows.laid_stillroom_codec_errWide), ("stillroom/frame.errSum", Rows.laid_stillroom_frame_errSum), ("stillroom/frame.errHead", Rows.laid_stillroom_frame_errHead), ("stillroom/frame.errGreat", Rows.laid_stillroom_frame_errGreat), ("stillroom/frame.errShort", Rows.laid_stillroom_frame_errShort), ("stillroom/frame.turns", Rows.laid_stillroom_frame_turns)]
def laid9 : List (String × DataW Unit) := ("errors.errorType", Rows.laid_errors_errorType) :: tail8
theorem door_met9 (os : Os) (args : Array Value) : laidMetH Tryd.prog laid9 ((World.doorLaid Tryd.prog 400 os).forCall (fun _ _ => 0) ⟨#[], args, []⟩).memory :=
  laidMetH_of_parts3 (fuel := 8) (laidMet_of_run' 8 (by kernel_rfl) (by kernel_rfl)) (by kernel_rfl) (by kernel_rfl)
theorem split9 {W : World} (h : laidMetH Tryd.prog laid9 W) : laidMet Tryd.prog tail8 W ∧ handlesMet Tryd.prog [("errors.errorType", Rows.laid_errors_errorType)] W := h
theorem errT_of9 {W : World} (h : laidMetH Tryd.prog laid9 W) : ErrT W.heap.size W := handle_of (split9 h).2 (by simp)
theorem sent_of9 {W : World} (h : laidMetH Tryd.prog laid9 W) : Sent3 W.heap.size W := by
  have h5 := (split9 h).1
  exact ⟨sentinel_of h5 (by kernel_rfl) (by kernel_rfl), sentinel_of h5.tail (by kernel_rfl) (by kernel_rfl), sentinel_of h5.tail.tail (by kernel_rfl) (by kernel_rfl), trivial⟩
theorem sentF_of9 {W : World} (h : laidMetH Tryd.prog laid9 W) : SentF W := by
  have h5 := (split9 h).1.tail.tail.tail
  exact ⟨(sentinel_of h5.tail.tail (by kernel_rfl) (by kernel_rfl)).2, (sentinel_of h5.tail.tail.tail (by kernel_rfl) (by kernel_rfl)).2, (sentinel_of h5.tail (by kernel_rfl) (by kernel_rfl)).2, sentinel_at h5 (by kernel_rfl) (by kernel_rfl)⟩
theorem turns_of9 {W : World} (h : laidMetH Tryd.prog laid9 W) : Turns W := turns_of_laid (split9 h).1.tail.tail.tail.tail.tail.tail.tail
/-! ### ten -/
def tail9 : List (String × DataW Unit) := [("stillroom/codec.errCut", Rows.laid_stillroom_codec_errCut), ("stillroom/codec.errLoose", Rows.laid_stillroom_codec_errLoose), ("stillroom/codec.errWide", Rows.laid_stillroom_codec_errWide), ("stillroom/frame.errSum", Rows.laid_stillroom_frame_errSum), ("stillroom/frame.errHead", Rows.laid_stillroom_frame_errHead), ("stillroom/frame.errGreat", Rows.laid_stillroom_frame_errGreat), ("stillroom/frame.errShort", Rows.laid_stillroom_frame_errShort), ("stillroom/frame.errMore", Rows.laid_stillroom_frame_errMore), ("stillroom/frame.turns", Rows.laid_stillroom_frame_turns)]
def laid10 : List (String × DataW Unit) := ("errors.errorType", Rows.laid_errors_errorType) :: tail9
theorem door_met10 (os : Os) (args : Array Value) : laidMetH Tryd.prog laid10 ((World.doorLaid Tryd.prog 400 os).forCall (fun _ _ => 0) ⟨#[], args, []⟩).memory :=
  laidMetH_of_parts3 (fuel := 8) (laidMet_of_run' 8 (by kernel_rfl) (by kernel_rfl)) (by kernel_rfl) (by kernel_rfl)
theorem split10 {W : World} (h : laidMetH Tryd.prog laid10 W) : laidMet Tryd.prog tail9 W ∧ handlesMet Tryd.prog [("errors.errorType", Rows.laid_errors_errorType)] W := h
theorem errT_of10 {W : World} (h : laidMetH Tryd.prog laid10 W) : ErrT W.heap.size W := handle_of (split10 h).2 (by simp)
theorem sent_of10 {W : World} (h : laidMetH Tryd.prog laid10 W) : Sent3 W.heap.size W := by
  have h5 := (split10 h).1
  exact ⟨sentinel_of h5 (by kernel_rfl) (by kernel_rfl), sentinel_of h5.tail (by kernel_rfl) (by kernel_rfl), sentinel_of h5.tail.tail (by kernel_rfl) (by kernel_rfl), trivial⟩
theorem sentF_of10 {W : World} (h : laidMetH Tryd.prog laid10 W) : SentF W := by
  have h5 := (split10 h).1.tail.tail.tail
  exact ⟨(sentinel_of h5.tail.tail (by kernel_rfl) (by kernel_rfl)).2, (sentinel_of h5.tail.tail.tail (by kernel_rfl) (by kernel_rfl)).2, (sentinel_of h5.tail (by kernel_rfl) (by kernel_rfl)).2, sentinel_at h5 (by kernel_rfl) (by kernel_rfl)⟩
theorem sentM_of10 {W : World} (h : laidMetH Tryd.prog laid10 W) : SentM W :=
  (sentinel_of (split10 h).1.tail.tail.tail.tail.tail.tail.tail (by kernel_rfl) (by kernel_rfl)).2
theorem turns_of10 {W : World} (h : laidMetH Tryd.prog laid10 W) : Turns W := turns_of_laid (split10 h).1.tail.tail.tail.tail.tail.tail.tail.tail
theorem env_of10 {W : World} (h : laidMetH Tryd.prog laid10 W) {a : Option Addr} {l : List UInt8} {cap : Nat} (hb : BAt W.heap.size W a l) (hc : l.length ≤ cap) (hm : cap ≤ 9223372036854775807) : Env3 W.heap.size W a l cap := ⟨hb, hc, hm, sent_of10 h, errT_of10 h, Nat.le_refl _⟩
theorem env_of9 {W : World} (h : laidMetH Tryd.prog laid9 W) {a : Option Addr} {l : List UInt8} {cap : Nat} (hb : BAt W.heap.size W a l) (hc : l.length ≤ cap) (hm : cap ≤ 9223372036854775807) : Env3 W.heap.size W a l cap := ⟨hb, hc, hm, sent_of9 h, errT_of9 h, Nat.le_refl _⟩
end Go.Proofs.YthdaibmminibhaaDoor
