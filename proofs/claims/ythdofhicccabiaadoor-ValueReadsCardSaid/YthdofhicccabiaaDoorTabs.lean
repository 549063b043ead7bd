/- Out of the rows' listed variables: the table of powers of ten is as the library lays it. -/
import Derived.Test.YthdofhicccabiaaDoorFrame
import Derived.Test.YthdofhicccabiaaDoorText
namespace Go.Proofs.YthdofhicccabiaaDoor
open Go.RowKit

theorem tab10_of_laid {W : World} {r : List (String × DataW Unit)} (h : laidMet Tryd.prog (("internal/strconv.uint64pow10", Rows.laid_internal_strconv_uint64pow10) :: r) W) : Tab10 W :=
  Lib.tabIs_of_head (g := 1) (t := 98) (e := 57) (n := 20) (by kernel_rfl) (by kernel_rfl) Tryd.underlying98 Tryd.underlying57 (by kernel_rfl) (by kernel_rfl) h
theorem tab10_of3 {W : World} (h : laidMetH Tryd.prog laid3 W) : Tab10 W := by
  rw [MakeChecks.laidMetH_plain _ _ _ (by kernel_rfl)] at h
  exact tab10_of_laid h.tail.tail
end Go.Proofs.YthdofhicccabiaaDoor
