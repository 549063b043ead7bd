/- The fixed fact with which each statement begins is true, at whatever memory; and the contract of value.Text at a text of at most 60 bytes. -/
import Derived.Test.YthdofhicccabiaaDoorOps
import Derived.Test.YthdofhicccabiaaDoorOrd
import Derived.Test.YthdofhicccabiaaDoorQuote
namespace Go.Proofs.YthdofhicccabiaaDoor
open Go.RowKit

set_option maxHeartbeats 400000 in
theorem textText_any (n : Int) (s : ByteArray) (w : World) (hs : s.size ≤ 60) :
    Calls Tryd.prog 25 #[.agg #[.int .i64 3, .int .i64 n, .string s]] w fun e w' => e = .returned (.string ⟨(39 :: (qs s.data.toList ++ [39])).toArray⟩) ∧ Below w.heap.size w w' := by
  go_enter Tryd.func25, Tryd.ntmps25
  go_wp2_with (go_at_call 43; refine (quote_any _ _ hs).mono ?_; rintro e w1 ⟨rfl, hb⟩)
  go_ret
  exact ⟨rfl, ((Below.refl _ _).alloc (Nat.le_refl _) _).trans (hb.mono (by simp))⟩

theorem textAwake (w : World) :
    Calls Tryd.prog 25 #[.agg #[.int .i64 3, .int .i64 0, .string ⟨#[97, 39, 10]⟩]] w fun e w' => e = .returned (.string ⟨#[39, 97, 39, 39, 92, 48, 97, 39]⟩) ∧ Below w.heap.size w w' :=
  (textText_any 0 ⟨#[97, 39, 10]⟩ w (by decide)).mono fun _ _ ⟨he, hw⟩ => ⟨by
    rw [he]
    exact congrArg (fun l : List UInt8 => Ending.returned (.string ⟨l.toArray⟩)) (show (39 :: (qs [97, 39, 10] ++ [39])) = [39, 97, 39, 39, 92, 48, 97, 39] by decide +kernel), hw⟩

theorem compareAwake (w : World) :
    Calls Tryd.prog 13 #[.agg #[.int .i64 1, .int .i64 1, .string ⟨#[]⟩], vi 0] w fun e w' => e = .returned (.int .i64 (-1)) ∧ Below w.heap.size w w' :=
  (compare_any 1 1 ⟨#[]⟩ 2 0 ⟨#[]⟩ w).mono fun _ _ ⟨he, hw⟩ => ⟨by rw [he]; rfl, hw⟩

set_option maxHeartbeats 400000 in
theorem awake_any (w : World) :
    Calls Tryd.prog 10 #[] w fun e w' => e = .returned (.bool true) ∧ Below w.heap.size w w' := by
  go_enter Tryd.func10, Tryd.ntmps10
  go_wp2_with (first | (go_at_call 20; refine (refInt_any _ _).mono ?_; rintro e w' ⟨rfl, rfl⟩) | (go_at_call 21; refine (Add_over 9223372036854775807 1 _ (by decide) (by decide) (by decide)).mono ?_; rintro e w1 ⟨rfl, hb1⟩) | (go_at_call 25; refine (textAwake _).mono ?_; rintro e w2 ⟨rfl, hb2⟩) | (go_at_call 13; refine (compareAwake _).mono ?_; rintro e w3 ⟨rfl, hb3⟩))
  go_ret
  have s1 := hb1.size
  have s2 := hb2.size
  have s3 := hb3.size
  simp only [World.size_alloc] at s1 s2 s3
  exact ⟨rfl, (((((below2 w _ _).trans (hb1.mono (by simp; omega))).alloc (by omega) _).trans (hb2.mono (by simp; omega))).alloc (by omega) _).trans (hb3.mono (by simp; omega))⟩
end Go.Proofs.YthdofhicccabiaaDoor
