/- The contract of the document's Text. -/
import Derived.Test.YtjgpflodbloneaaDoorRefTextP
import Derived.Test.YtjgpflodbloneaaDoorRefTextN
namespace Go.Proofs.YtjgpflodbloneaaDoor
open Go.RowKit

theorem refText_any (x : BitVec 128) (w : World) : Calls Tryd.prog 7 #[.agg (wArr x)] w fun e w' => e = .returned (.string ⟨(textB x).toArray⟩) ∧ Below w.heap.size w w' := by
  unfold textB
  have hb : x.getLsbD 127 = decide (x.toInt < 0) := by
    have : x.msb = decide (x.toInt < 0) := BitVec.msb_eq_toInt
    rw [← this, BitVec.msb_eq_getLsbD_last]
  by_cases hx : x.toInt < 0
  · rw [if_pos hx]
    have hs := neg_small x hx
    exact refText_neg x w (by rw [hb, decide_eq_true hx]) (-x) rfl (dig_len 127 (-x).toNat (by omega)).2
  · rw [if_neg hx]
    have hs := pos_small x hx
    exact refText_pos x w (by rw [hb, decide_eq_false hx]) (dig_len 127 x.toNat (by omega)).2
end Go.Proofs.YtjgpflodbloneaaDoor
