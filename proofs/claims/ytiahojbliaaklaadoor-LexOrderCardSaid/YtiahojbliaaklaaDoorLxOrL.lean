/- The law LexOrder, in the row's words. -/
import Derived.Test.YtiahojbliaaklaaDoorLxOr
import Derived.Test.YtiahojbliaaklaaDoorFrameL
namespace Go.Proofs.YtiahojbliaaklaaDoor
open Go.RowKit
theorem LexOrder_any (s : ByteArray) (W : World) (hL : laidMetH Tryd.prog laid10x W) : Calls Tryd.prog 4 #[.string s] W fun e w' => e = .returned (.bool true) ∧ Below W.heap.size W w' := by
  obtain ⟨n, g, m, l, hE⟩ := lxEnv_of hL
  exact (LexOrder_walk _ n g m l s W hE).mono fun _ _ ⟨he, hg⟩ => ⟨he, below_grownL hg⟩
end Go.Proofs.YtiahojbliaaklaaDoor
