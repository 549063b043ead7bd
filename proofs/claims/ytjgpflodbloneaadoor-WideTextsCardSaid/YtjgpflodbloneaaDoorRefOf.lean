/- The contract of the document's Of. -/
import Derived.Test.YtjgpflodbloneaaDoorRefAdd
namespace Go.Proofs.YtjgpflodbloneaaDoor
open Go.RowKit

set_option maxHeartbeats 800000 in
theorem refOf_any (n : Int) (w : World) (h0 : -9223372036854775808 ≤ n) (h1 : n ≤ 9223372036854775807) :
    Calls Tryd.prog 42 #[.int .i64 n] w fun e w' => e = .returned (.agg (wArr (BitVec.ofInt 128 n))) ∧ Below w.heap.size w w' := by
  have hw : IntKind.u64.wrap n = ((hN n : Nat) : Int) := by unfold hN; simp [IntKind.wrap, IntKind.signed, IntKind.bits]; omega
  have HR := BArr.zero w
  by_cases hn : n < 0
  · have HB := Lib.hid (fun w => refBits_any (-1) (hN n) w (hN_lt n))
    rw [ofInt_neg n h0 hn] at HB
    generalize hN n = hu at *
    generalize BitVec.ofInt 128 n = x at *
    go_enter Tryd.func42, Tryd.ntmps42
    go_wp2_with fail
    refine (HB.out _).mono ?_
    rintro e w1 ⟨rfl, hb⟩
    have HR1 := HR.keep hb
    go_wp2_with (refine wpList_store_row rfl 29 _ _ rfl w.heap.size (wArr x) rfl rfl 29 (fArr fun _ => false) HR1 (by rw [wArr, fArr_size]; kernel_rfl) (by rw [wArr, fArr_size, fArr_size]) (fArr_one _) ?_)
    have HR2 := setRow_heap w1 w.heap.size (fArr fun _ => false) (wArr x) _ (0, 0) HR1
    exact bodyPost_ret (v := .agg (wArr x)) (results_cell_row rfl _ _ w.heap.size _ _ (0, 0) _ rfl HR2 Tryd.underlying29 rfl (by rw [wArr, fArr_size]; kernel_rfl)) rfl ⟨rfl, below_setRow (((Below.refl _ _).alloc (Nat.le_refl _) _).trans (hb.mono (by simp))) (Nat.le_refl _)⟩
  · have HB := Lib.hid (fun w => refBits_any 0 (hN n) w (hN_lt n))
    rw [ofInt_pos n (by omega) h1] at HB
    have hn' : 0 ≤ n := by omega
    generalize hN n = hu at *
    generalize BitVec.ofInt 128 n = x at *
    go_enter Tryd.func42, Tryd.ntmps42
    go_wp2_with fail
    refine (HB.out _).mono ?_
    rintro e w1 ⟨rfl, hb⟩
    have HR1 := HR.keep hb
    go_wp2_with (refine wpList_store_row rfl 29 _ _ rfl w.heap.size (wArr x) rfl rfl 29 (fArr fun _ => false) HR1 (by rw [wArr, fArr_size]; kernel_rfl) (by rw [wArr, fArr_size, fArr_size]) (fArr_one _) ?_)
    have HR2 := setRow_heap w1 w.heap.size (fArr fun _ => false) (wArr x) _ (0, 0) HR1
    exact bodyPost_ret (v := .agg (wArr x)) (results_cell_row rfl _ _ w.heap.size _ _ (0, 0) _ rfl HR2 Tryd.underlying29 rfl (by rw [wArr, fArr_size]; kernel_rfl)) rfl ⟨rfl, below_setRow (((Below.refl _ _).alloc (Nat.le_refl _) _).trans (hb.mono (by simp))) (Nat.le_refl _)⟩
end Go.Proofs.YtjgpflodbloneaaDoor
