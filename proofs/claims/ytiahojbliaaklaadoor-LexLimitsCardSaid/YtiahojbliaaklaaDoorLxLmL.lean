/- The law LexLimits, in the row's words. -/
import Derived.Test.YtiahojbliaaklaaDoorLxLm
import Derived.Test.YtiahojbliaaklaaDoorFrameL
namespace Go.Proofs.YtiahojbliaaklaaDoor
open Go.RowKit
theorem LexLimits_any (x y : Int) (W : World) (hL : laidMetH Tryd.prog laid10x W) : Calls Tryd.prog 7 #[.int .i64 x, .int .i64 y] W fun e w' => e = .returned (.bool true) ∧ Below W.heap.size W w' := by
  obtain ⟨n, g, m, l, hE⟩ := lxEnv_of hL
  exact (LexLimits_walk _ n g m l x y W hE).mono fun _ _ ⟨he, hg⟩ => ⟨he, below_grownL hg⟩
end Go.Proofs.YtiahojbliaaklaaDoor
