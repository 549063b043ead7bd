/- The fixed fact with which each statement of wide begins. -/
import Derived.Test.YtjgpflodbloneaaDoorDigits
import Derived.Test.YtjgpflodbloneaaDoorTotal
namespace Go.Proofs.YtjgpflodbloneaaDoor
open Go.RowKit

theorem ints_new3 (w : World) (x y z : Int) (T : TypeId) : IntsAt (w.alloc (.cells #[.int .i64 x, .int .i64 y, .int .i64 z] T)) (some ⟨w.heap.size, 0, none⟩) [x, y, z] := by
  refine ⟨by simp, .inr ⟨w.heap.size, 0, rfl, by simp, fun i hi => ?_⟩⟩
  have e := heap_alloc_new w (.cells #[.int .i64 x, .int .i64 y, .int .i64 z] T)
  rw [cell_of_row _ _ _ _ _ _ e]
  match i, hi with
  | 0, _ => rfl
  | 1, _ => rfl
  | 2, _ => rfl
theorem ints_new2 (w : World) (x y : Int) (T : TypeId) : IntsAt (w.alloc (.cells #[.int .i64 x, .int .i64 y] T)) (some ⟨w.heap.size, 0, none⟩) [x, y] := by
  refine ⟨by simp, .inr ⟨w.heap.size, 0, rfl, by simp, fun i hi => ?_⟩⟩
  have e := heap_alloc_new w (.cells #[.int .i64 x, .int .i64 y] T)
  rw [cell_of_row _ _ _ _ _ _ e]
  match i, hi with
  | 0, _ => rfl
  | 1, _ => rfl
theorem sum3 : sumL [9223372036854775807, 1, -1] = BitVec.ofInt 128 9223372036854775807 := by decide
theorem sum2h : hiB (sumL [9223372036854775807, 9223372036854775807]) = 0 := by decide
theorem sum2l : loB (sumL [9223372036854775807, 9223372036854775807]) = 18446744073709551614 := by decide
theorem fit3 : fitB (sumL [9223372036854775807, 1, -1]) = true := by decide
theorem int3 : (sumL [9223372036854775807, 1, -1]).toInt = 9223372036854775807 := by decide
theorem text2 : (⟨(Lib.decDigits 18446744073709551614).toArray⟩ : ByteArray) = ⟨#[49, 56, 52, 52, 54, 55, 52, 52, 48, 55, 51, 55, 48, 57, 53, 53, 49, 54, 49, 52]⟩ := by
  simp [Lib.decDigits]
set_option maxRecDepth 100000 in
set_option maxHeartbeats 1600000 in
/-- The fact, whatever numbers stand for the sums. -/
theorem awake_gen (h : Int) (u : Nat) (g : Int) (l : Nat) (w : World)
    (H3 : Hid (∀ w : World, Calls Tryd.prog 17 #[.slice (some ⟨w.heap.size, 0, none⟩) 3 3] (w.alloc (.cells #[.int .i64 9223372036854775807, .int .i64 1, .int .i64 (-1)] 3)) fun e w' => e = .returned (.agg #[.int .i64 h, .int .u64 u]) ∧ Below (w.heap.size + 1) (w.alloc (.cells #[.int .i64 9223372036854775807, .int .i64 1, .int .i64 (-1)] 3)) w'))
    (HI : Hid (∀ w : World, Calls Tryd.prog 16 #[.agg #[.int .i64 h, .int .u64 u]] w fun e w' => e = .returned (.tuple #[.int .i64 9223372036854775807, .int .i64 0]) ∧ Below w.heap.size w w'))
    (H2 : Hid (∀ w : World, Calls Tryd.prog 17 #[.slice (some ⟨w.heap.size, 0, none⟩) 2 2] (w.alloc (.cells #[.int .i64 9223372036854775807, .int .i64 9223372036854775807] 3)) fun e w' => e = .returned (.agg #[.int .i64 g, .int .u64 l]) ∧ Below (w.heap.size + 1) (w.alloc (.cells #[.int .i64 9223372036854775807, .int .i64 9223372036854775807] 3)) w'))
    (HX : Hid (∀ w : World, TabW w → Calls Tryd.prog 6 #[.agg #[.int .i64 g, .int .u64 l]] w fun e w' => e = .returned (.string ⟨#[49, 56, 52, 52, 54, 55, 52, 52, 48, 55, 51, 55, 48, 57, 53, 53, 49, 54, 49, 52]⟩) ∧ Below w.heap.size w w')) (htab : TabW w) :
    Calls Tryd.prog 5 #[] w fun e w' => e = .returned (.bool true) ∧ Below w.heap.size w w' := by
  have HT := Lib.hid htab
  clear htab
  go_enter Tryd.func5, Tryd.ntmps5
  go_wp2_with fail
  refine (H3.out _).mono ?_
  rintro e w1 ⟨rfl, hb1⟩
  have B1 := Lib.hid (((Below.refl w.heap.size w).alloc (Nat.le_refl _) (.cells #[.int .i64 9223372036854775807, .int .i64 1, .int .i64 (-1)] 3)).trans (hb1.mono (by omega)))
  have S1 : w.heap.size + 1 ≤ w1.heap.size := by have := hb1.size; simpa using this
  clear hb1
  go_wp2_with fail
  refine (HI.out _).mono ?_
  rintro e w2 ⟨rfl, hb2⟩
  have B2 := Lib.hid (B1.out.trans (hb2.mono (by omega)))
  have S2 : w.heap.size + 1 ≤ w2.heap.size := by have := hb2.size; omega
  clear hb2
  go_wp2_with fail
  refine (H2.out _).mono ?_
  rintro e w3 ⟨rfl, hb3⟩
  have B3 := Lib.hid ((B2.out.alloc (by omega) (.cells #[.int .i64 9223372036854775807, .int .i64 9223372036854775807] 3)).trans (hb3.mono (by omega)))
  have S3 : w.heap.size + 1 ≤ w3.heap.size := by have := hb3.size; simp at this; omega
  clear hb3
  go_wp2_with fail
  refine (HX.out _ (HT.out.keep B3.out)).mono ?_
  rintro e w4 ⟨rfl, hb4⟩
  go_wp2_with fail
  go_ret
  exact ⟨rfl, B3.out.trans (hb4.mono (by omega))⟩
theorem awake_any (w : World) (htab : TabW w) :
    Calls Tryd.prog 5 #[] w fun e w' => e = .returned (.bool true) ∧ Below w.heap.size w w' := by
  refine awake_gen (hiB (sumL [9223372036854775807, 1, -1])) (loB (sumL [9223372036854775807, 1, -1])) (hiB (sumL [9223372036854775807, 9223372036854775807])) (loB (sumL [9223372036854775807, 9223372036854775807])) w (Lib.hid fun w => ?_) (Lib.hid fun w => ?_) (Lib.hid fun w => ?_) (Lib.hid fun w ht => ?_) htab
  · have := total_any (some ⟨w.heap.size, 0, none⟩) 3 [9223372036854775807, 1, -1] _ (ints_new3 w 9223372036854775807 1 (-1) 3) (by intro n hn; simp at hn; omega)
    simp only [World.size_alloc, List.length_cons, List.length_nil] at this
    exact this
  · have := int_any (sumL [9223372036854775807, 1, -1]) w fit3
    rwa [int3] at this
  · have := total_any (some ⟨w.heap.size, 0, none⟩) 2 [9223372036854775807, 9223372036854775807] _ (ints_new2 w 9223372036854775807 9223372036854775807 3) (by intro n hn; simp at hn; omega)
    simp only [World.size_alloc, List.length_cons, List.length_nil] at this
    exact this
  · have := text_low 18446744073709551614 w (by decide) ht
    rw [sum2h, sum2l]
    rwa [text2] at this
end Go.Proofs.YtjgpflodbloneaaDoor
