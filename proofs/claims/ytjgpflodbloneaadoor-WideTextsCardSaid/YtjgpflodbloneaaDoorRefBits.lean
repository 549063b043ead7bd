/- The contract of the document's Bits. -/
import Derived.Test.YtjgpflodbloneaaDoorBitsM
namespace Go.Proofs.YtjgpflodbloneaaDoor
open Go.RowKit

theorem wZero_one : Tryd.zeroCells29.all (·.oneCell') = true := by kernel_rfl
theorem wZero : Tryd.zeroCells29 = fArr (fun _ => false) := by kernel_rfl
theorem wZero_size : Tryd.zeroCells29.size = 128 := by kernel_rfl
theorem BArr.of {w : World} {g : Nat} {f f' : Nat → Bool} (h : BArr w g f) (e : fArr f = fArr f') : BArr w g f' := by unfold BArr at *; rw [← e]; exact h
/-- What the round of a loop knows: what was there stays, and the result's block and the work's block. -/
def Two (w wr : World) (c : Nat) (r g : Nat) (f : Nat → Bool) : Prop := Below w.heap.size w wr ∧ w.heap.size + c ≤ wr.heap.size ∧ BArr wr r (fun _ => false) ∧ BArr wr g f

theorem below_setRow {w w1 : World} {B g : Nat} {cs : Array Value} (h : Below B w w1) (hg : B ≤ g) : Below B w (w1.setRow g cs) :=
  ⟨h.os, h.tape, h.output, by simp; exact h.size, fun k hk => (setRow_other w1 g k cs (by omega)).trans (h.block k hk)⟩
theorem below_setCell {w w1 : World} {B g i : Nat} {v : Value} (h : Below B w w1) (hg : B ≤ g) : Below B w (w1.setCell ⟨g, i, none⟩ v) :=
  h.setCell hg _
theorem start2 (w : World) : Two w (((w.alloc (.cells Tryd.zeroCells29 29)).alloc (.cells Tryd.zeroCells29 29)).setRow (w.heap.size + 1) Tryd.zeroCells29) 2 w.heap.size (w.heap.size + 1) (fun _ => false) := by
  have h0 := heap_alloc2_old w (.cells Tryd.zeroCells29 29) (.cells Tryd.zeroCells29 29)
  have h1 := heap_alloc2_new w (.cells Tryd.zeroCells29 29) (.cells Tryd.zeroCells29 29)
  refine ⟨?_, by simp, ?_, ?_⟩
  · exact below_setRow ((((Below.refl _ _).alloc (Nat.le_refl _) _).alloc (by simp) _)) (by simp)
  · unfold BArr
    rw [← wZero, setRow_other _ _ _ _ (by omega)]
    exact h0
  · unfold BArr
    rw [← wZero]
    exact setRow_heap _ _ _ _ _ _ h1
theorem Two.set {w wr : World} {c r g : Nat} {f : Nat → Bool} (h : Two w wr c r g f) (hr : r ≠ g) (hg : w.heap.size ≤ g) {i : Nat} (hi : i < 128) (b : Bool) : Two w (wr.setCell ⟨g, i, none⟩ (.bool b)) c r g (fun j => if j = i then b else f j) :=
  ⟨h.1.setCell hg _, by simpa using h.2.1, h.2.2.1.set_other hr _ _, h.2.2.2.set hi b⟩
theorem Two.of {w wr : World} {c r g : Nat} {f f' : Nat → Bool} (h : Two w wr c r g f) (e : fArr f = fArr f') : Two w wr c r g f' := ⟨h.1, h.2.1, h.2.2.1, h.2.2.2.of e⟩

theorem bit_int {a n k : Nat} (h : a = n / 2 ^ k) : ((a : Int) % 2 == 1) = n.testBit k := by
  rw [bit_div, ← h, Bool.eq_iff_iff]
  simp
  omega
set_option maxHeartbeats 1600000 in
theorem refBits_any (h : Int) (l : Nat) (w : World) (hl : l < 18446744073709551616) :
    Calls Tryd.prog 23 #[.int .i64 h, .int .u64 l] w fun e w' => e = .returned (.agg (wArr (mkB h l))) ∧ Below w.heap.size w w' := by
  have hw : IntKind.u64.wrap h = ((hN h : Nat) : Int) := by unfold hN; simp [IntKind.wrap, IntKind.signed, IntKind.bits]; omega
  have HE := Lib.hid (bF_end h l hl)
  have hu1 := hN_lt h
  generalize hN h = hu at *
  go_enter Tryd.func23, Tryd.ntmps23
  go_wp2_with (refine wpList_store_row rfl 29 _ _ rfl (w.heap.size + 1) Tryd.zeroCells29 rfl rfl 29 Tryd.zeroCells29 (heap_alloc2_new _ _ _) (by kernel_rfl) rfl wZero_one ?_)
  clear hw
  go_loopw [1, 6, 7] (fun l' h' i wr => ∃ k a b : Nat, k ≤ 64 ∧ i = .int .i64 k ∧ l' = .int .u64 a ∧ h' = .int .u64 b ∧ a < 18446744073709551616 ∧ b < 18446744073709551616 ∧ Hid (a = l / 2 ^ k) ∧ Hid (b = hu / 2 ^ k) ∧ Hid (Two w wr 2 w.heap.size (w.heap.size + 1) (bF l hu k))) (fun _ _ i _ => 64 - (intOf i).toNat)
  case atStart => exact ⟨0, l, hu, by omega, rfl, rfl, rfl, hl, hu1, Lib.hid (by simp), Lib.hid (by simp), Lib.hid ((start2 w).of (bF_zero _ _).symm)⟩
  case round =>
    obtain ⟨k, a, b, hk, rfl, rfl, rfl, ha, hb, Ha, Hb, K⟩ := hrel
    by_cases hlt : k < 64
    · have c1 := K.out.2.2.2.cell (i := k) (by omega)
      have c2 := K.out.2.2.2.cell (i := 64 + k) (by omega)
      have f1 := K.out.2.2.2.frozen k
      have f2 := K.out.2.2.2.frozen (64 + k)
      generalize bF l hu k k = o1 at *
      generalize bF l hu k (64 + k) = o2 at *
      go_wp2
      go_roundw
      case rel =>
        refine ⟨k + 1, a / 2, b / 2, by omega, by go_num, by go_num, by go_num, by omega, by omega, Lib.hid (by rw [Ha.out, div_step]), Lib.hid (by rw [Hb.out, div_step]), Lib.hid ?_⟩
        have T := ((K.out.set (by omega) (by omega) (i := k) (by omega) ((a : Int) % 2 == 1)).set (by omega) (by omega) (i := 64 + k) (by omega) ((b : Int) % 2 == 1)).of (bF_step l hu k hlt (bit_int Ha.out) (bit_int Hb.out))
        exact T
      case measure => simp [intOf]; omega
    · obtain rfl : k = 64 := by omega
      have HB := K.out.2.2.2
      have HR := K.out.2.2.1
      go_wp2_with (first | (refine wpList_load_row rfl 29 _ rfl (w.heap.size + 1) rfl 29 (fArr (bF l hu 64)) (0, 0) _ HB Tryd.underlying29 rfl (by rw [fArr_size]; kernel_rfl) ?_) | (refine wpList_store_row rfl 29 _ _ rfl w.heap.size (fArr (bF l hu 64)) rfl rfl 29 (fArr fun _ => false) HR (by rw [fArr_size]; kernel_rfl) (by rw [fArr_size, fArr_size]) (fArr_one _) ?_))
      have HR2 := setRow_heap wr w.heap.size (fArr fun _ => false) (fArr (bF l hu 64)) _ (0, 0) HR
      refine bodyPost_ret (v := .agg (wArr (mkB h l))) (by rw [← HE.out]; exact results_cell_row rfl _ _ w.heap.size _ _ (0, 0) _ rfl HR2 Tryd.underlying29 rfl (by rw [fArr_size]; kernel_rfl)) rfl ⟨rfl, below_setRow K.out.1 (Nat.le_refl _)⟩
end Go.Proofs.YtjgpflodbloneaaDoor
