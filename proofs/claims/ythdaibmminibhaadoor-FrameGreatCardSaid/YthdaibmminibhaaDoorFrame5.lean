/- What the cards over frames share: what their listed variables give. -/
import Derived.Test.YthdaibmminibhaaDoorFrame6
import Derived.Test.YthdaibmminibhaaDoorSum5
namespace Go.Proofs.YthdaibmminibhaaDoor
open Go.ChangeShapes Go.WideShapes Go.ChangeAt Go.RowKit Go.Joins Go.Deep

theorem turns_of_laid {W : World} {r : List (String × DataW Unit)} (h : laidMet Tryd.prog (("stillroom/frame.turns", Rows.laid_stillroom_frame_turns) :: r) W) : Turns W := by
  have ht : Lib.TabIs Tryd.prog W "stillroom/frame.turns" .u32 turnsL := Lib.tabIs_of_head (g := 4) (t := 160) (e := 82) (n := 16) (by kernel_rfl) (by kernel_rfl) Tryd.underlying160 Tryd.underlying82 (by kernel_rfl) (by kernel_rfl) h
  intro i hi
  have := ht.cell (g := 4) (by kernel_rfl) i (by exact hi)
  have e : ∀ j : Fin 16, turnsL.getD j.val 0 = (Crc.tblW j.val : Int) := by decide
  have e2 := e ⟨i, hi⟩
  simp only at e2
  rw [this, e2]
def laid3s : List (String × DataW Unit) := [("errors.errorType", Rows.laid_errors_errorType), ("stillroom/frame.errGreat", Rows.laid_stillroom_frame_errGreat), ("stillroom/frame.turns", Rows.laid_stillroom_frame_turns)]
theorem door_met3s (os : Os) (args : Array Value) : laidMetH Tryd.prog laid3s ((World.doorLaid Tryd.prog 400 os).forCall (fun _ _ => 0) ⟨#[], args, []⟩).memory :=
  laidMetH_of_parts3 (fuel := 8) (laidMet_of_run' 8 (by kernel_rfl) (by kernel_rfl)) (by kernel_rfl) (by kernel_rfl)
theorem split3s {W : World} (h : laidMetH Tryd.prog laid3s W) : laidMet Tryd.prog [("stillroom/frame.errGreat", Rows.laid_stillroom_frame_errGreat), ("stillroom/frame.turns", Rows.laid_stillroom_frame_turns)] W ∧ handlesMet Tryd.prog [("errors.errorType", Rows.laid_errors_errorType)] W := h
theorem turns_of3s {W : World} (h : laidMetH Tryd.prog laid3s W) : Turns W := turns_of_laid (split3s h).1.tail
end Go.Proofs.YthdaibmminibhaaDoor
