/- The law WideTexts walked. -/
import Derived.Test.YtjgpflodbloneaaDoorAwake3
import Derived.Test.YtjgpflodbloneaaDoorRefTextA
import Derived.Deep.RegionWith
namespace Go.Proofs.YtjgpflodbloneaaDoor
open Go.RowKit

def StW (w W : World) (h : Int) (l : Nat) : Prop := Below w.heap.size w W ∧ w.heap.size + 1 ≤ W.heap.size ∧ W.cell? ⟨w.heap.size, 0, none⟩ = some (.int .i64 h) ∧ W.cell? ⟨w.heap.size, 1, none⟩ = some (.int .u64 l)
theorem StW.step {w W W' : World} {h : Int} {l : Nat} (S : StW w W h l) (hb : Below W.heap.size W W') : StW w W' h l :=
  ⟨S.1.trans (hb.mono (by have := S.2.1; omega)), Nat.le_trans S.2.1 hb.size, (hb.cell (p := ⟨w.heap.size, 0, none⟩) S.2.1).trans S.2.2.1, (hb.cell (p := ⟨w.heap.size, 1, none⟩) S.2.1).trans S.2.2.2⟩
theorem StW.drew {w W : World} {h : Int} {l : Nat} (S : StW w W h l) : StW w W.drew h l := ⟨S.1.drew, S.2.1, S.2.2.1, S.2.2.2⟩
theorem StW.below {w W : World} {h : Int} {l : Nat} (S : StW w W h l) : Below w.heap.size w W := S.1
set_option maxRecDepth 100000 in
set_option maxHeartbeats 6400000 in
theorem texts3_gen (xh : Int) (xl : Nat) (bx : Array Value) (t : ByteArray) (w : World)
    (HW : Hid (∀ w, TabW w → Calls Tryd.prog 5 #[] w fun e w' => e = .returned (.bool true) ∧ Below w.heap.size w w')) (htab : TabW w)
    (HX : Hid (∀ w, TabW w → Calls Tryd.prog 6 #[.agg #[.int .i64 xh, .int .u64 xl]] w fun e w' => e = .returned (.string t) ∧ Below w.heap.size w w'))
    (HB : Hid (∀ w, Calls Tryd.prog 8 #[.agg #[.int .i64 xh, .int .u64 xl]] w fun e w' => e = .returned (.agg bx) ∧ Below w.heap.size w w'))
    (HR : Hid (∀ w, Calls Tryd.prog 7 #[.agg bx] w fun e w' => e = .returned (.string t) ∧ Below w.heap.size w w')) :
    Calls Tryd.prog 3 #[.agg #[.int .i64 xh, .int .u64 xl]] w fun e w' => e = .returned (.bool true) ∧ Below w.heap.size w w' := by
  have HT := Lib.hid htab
  clear htab
  have ST : Hid (StW w (w.alloc (.cells #[.int .i64 xh, .int .u64 xl] 24)) xh xl) := by
    have K0 := box2_new w (.int .i64 xh) (.int .u64 xl) 24
    exact Lib.hid ⟨(Below.refl _ _).alloc (Nat.le_refl _) _, by simp, K0.1, K0.2⟩
  go_enter Tryd.func3, Tryd.ntmps3
  go_wp2_with fail
  go_region_with (first
    | (go_at_call 5; (with_reducible refine (HW.out _ (HT.out.keep (by first | exact ST.out.below | exact ST.out.drew.below))).mono ?_); rintro e w1 ⟨rfl, hb⟩; replace ST := Lib.hid (show StW w w1 xh xl by first | exact ST.out.step hb | exact ST.out.drew.step hb); obtain ⟨_, _, c0, c1⟩ := ST.out; clear hb)
    | (go_at_call 6; (with_reducible refine (HX.out _ (HT.out.keep (by first | exact ST.out.below | exact ST.out.drew.below))).mono ?_); rintro e w1 ⟨rfl, hb⟩; replace ST := Lib.hid (show StW w w1 xh xl by first | exact ST.out.step hb | exact ST.out.drew.step hb); obtain ⟨_, _, c0, c1⟩ := ST.out; clear hb)
    | (go_at_call 8; (with_reducible refine (HB.out _).mono ?_); rintro e w1 ⟨rfl, hb⟩; replace ST := Lib.hid (show StW w w1 xh xl by first | exact ST.out.step hb | exact ST.out.drew.step hb); obtain ⟨_, _, c0, c1⟩ := ST.out; clear hb)
    | (go_at_call 7; (with_reducible refine (HR.out _).mono ?_); rintro e w1 ⟨rfl, hb⟩; replace ST := Lib.hid (show StW w w1 xh xl by first | exact ST.out.step hb | exact ST.out.drew.step hb); obtain ⟨_, _, c0, c1⟩ := ST.out; clear hb))
  all_goals
    go_wp2_with fail
    go_ret
    exact ⟨ret_bool (by simp), ST.out.below⟩
theorem WideTexts_any (x : BitVec 128) (w : World) (htab : TabW w) :
    Calls Tryd.prog 3 #[.agg #[.int .i64 (hiB x), .int .u64 (loB x)]] w fun e w' => e = .returned (.bool true) ∧ Below w.heap.size w w' :=
  texts3_gen (hiB x) (loB x) (wArr x) ⟨(textB x).toArray⟩ w (Lib.hid awake_any) htab (Lib.hid fun w ht => text_any x w ht) (Lib.hid fun w => bits_any x w) (Lib.hid fun w => refText_any x w)
end Go.Proofs.YtjgpflodbloneaaDoor
