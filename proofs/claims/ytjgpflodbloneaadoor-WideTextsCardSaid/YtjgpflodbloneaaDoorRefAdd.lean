/- The contract of the document's Add. -/
import Derived.Test.YtjgpflodbloneaaDoorRefBits
import Derived.Test.YtjgpflodbloneaaDoorRefM
namespace Go.Proofs.YtjgpflodbloneaaDoor
open Go.RowKit

/-- What a round of Add knows. -/
def Four (w wr : World) (x y : BitVec 128) (f : Nat → Bool) : Prop := Below w.heap.size w wr ∧ w.heap.size + 4 ≤ wr.heap.size ∧ BArr wr w.heap.size (fun i => x.getLsbD i) ∧ BArr wr (w.heap.size + 1) (fun i => y.getLsbD i) ∧ BArr wr (w.heap.size + 1 + 1) (fun _ => false) ∧ BArr wr (w.heap.size + 1 + 1 + 1) f
theorem BArr.setRow_other {w : World} {g g' : Nat} {f : Nat → Bool} (h : BArr w g f) (hn : g ≠ g') (cs : Array Value) : BArr (w.setRow g' cs) g f := by
  unfold BArr
  rw [Go.setRow_other w g' g cs hn]; exact h
theorem BArr.setRow {w : World} {g : Nat} {f : Nat → Bool} (h : BArr w g f) (f' : Nat → Bool) : BArr (w.setRow g (fArr f')) g f' :=
  setRow_heap w g _ _ _ _ h
theorem BArr.alloc {w : World} {g : Nat} {f : Nat → Bool} (h : BArr w g f) (o : Obj) : BArr (w.alloc o) g f := by
  unfold BArr
  rw [heap_alloc_old _ _ h.lt]; exact h
theorem BArr.zero (w : World) : BArr (w.alloc (.cells Tryd.zeroCells29 29)) w.heap.size (fun _ => false) := by
  unfold BArr; rw [← wZero]; exact heap_alloc_new w _
theorem start4 (w : World) (x y : BitVec 128) : Four w (((((w.alloc (.cells (wArr x) 29)).alloc (.cells (wArr y) 29)).alloc (.cells Tryd.zeroCells29 29)).alloc (.cells Tryd.zeroCells29 29)).setRow (w.heap.size + 1 + 1 + 1) Tryd.zeroCells29) x y (fun _ => false) := by
  have a1 := BArr.new w (fun i => x.getLsbD i)
  have a2 := BArr.new (w.alloc (.cells (wArr x) 29)) (fun i => y.getLsbD i)
  have a3 := BArr.zero ((w.alloc (.cells (wArr x) 29)).alloc (.cells (wArr y) 29))
  have a4 := BArr.zero (((w.alloc (.cells (wArr x) 29)).alloc (.cells (wArr y) 29)).alloc (.cells Tryd.zeroCells29 29))
  simp only [World.size_alloc] at a2 a3 a4
  refine ⟨?_, by simp, ?_, ?_, ?_, ?_⟩
  · exact below_setRow (((((Below.refl _ _).alloc (Nat.le_refl _) _).alloc (by simp) _).alloc (by simp; omega) _).alloc (by simp; omega) _) (by omega)
  · exact (((a1.alloc _).alloc _).alloc _).setRow_other (by omega) _
  · exact ((a2.alloc _).alloc _).setRow_other (by omega) _
  · exact (a3.alloc _).setRow_other (by omega) _
  · rw [wZero] at *
    exact a4.setRow _
theorem Four.set {w wr : World} {x y : BitVec 128} {f : Nat → Bool} (h : Four w wr x y f) {i : Nat} (hi : i < 128) (b : Bool) : Four w (wr.setCell ⟨w.heap.size + 1 + 1 + 1, i, none⟩ (.bool b)) x y (fun j => if j = i then b else f j) :=
  ⟨h.1.setCell (by show w.heap.size ≤ w.heap.size + 1 + 1 + 1; omega) _, by simpa using h.2.1, h.2.2.1.set_other (by omega) _ _, h.2.2.2.1.set_other (by omega) _ _, h.2.2.2.2.1.set_other (by omega) _ _, h.2.2.2.2.2.set hi b⟩
theorem Four.of {w wr : World} {x y : BitVec 128} {f f' : Nat → Bool} (h : Four w wr x y f) (e : fArr f = fArr f') : Four w wr x y f' := ⟨h.1, h.2.1, h.2.2.1, h.2.2.2.1, h.2.2.2.2.1, h.2.2.2.2.2.of e⟩

theorem heap4 (w : World) (A B C D : Obj) : ((((w.alloc A).alloc B).alloc C).alloc D).heap[w.heap.size + 1 + 1 + 1]? = some D := by
  have := heap_alloc_new (((w.alloc A).alloc B).alloc C) D
  simpa only [World.size_alloc] using this
theorem heap3 (w : World) (A B C : Obj) : (((w.alloc A).alloc B).alloc C).heap[w.heap.size + 1 + 1]? = some C := by
  have := heap_alloc_new ((w.alloc A).alloc B) C
  simpa only [World.size_alloc] using this
set_option maxRecDepth 100000 in
set_option maxHeartbeats 1600000 in
theorem refAdd_any (x y : BitVec 128) (w : World) :
    Calls Tryd.prog 41 #[.agg (wArr x), .agg (wArr y)] w fun e w' => e = .returned (.agg (wArr (x + y))) ∧ Below w.heap.size w w' := by
  go_enter Tryd.func41, Tryd.ntmps41
  go_wp2_with (refine wpList_store_row (o := ⟨none, .store 29 (.tmp 5) (.tmp 9), _, _, _, _⟩) rfl 29 _ _ rfl (w.heap.size + 1 + 1 + 1) Tryd.zeroCells29 rfl rfl 29 Tryd.zeroCells29 (heap4 _ _ _ _ _) (by kernel_rfl) rfl wZero_one ?_)
  go_loopw [6, 10] (fun c i wr => ∃ k : Nat, k ≤ 128 ∧ i = .int .i64 k ∧ c = .bool (cF x y k) ∧ Hid (Four w wr x y (aF x y k))) (fun _ i _ => 128 - (intOf i).toNat)
  case atStart =>
    have K := Lib.hid ((start4 w x y).of (aF_zero x y).symm)
    refine ⟨0, by omega, rfl, by rw [cF_zero], ?_⟩
    exact K
  case round =>
    obtain ⟨k, hk, rfl, rfl, K⟩ := hrel
    by_cases hlt : k < 128
    · have c1 := K.out.2.2.1.cell (i := k) hlt
      have c2 := K.out.2.2.2.1.cell (i := k) hlt
      have c3 := K.out.2.2.2.2.2.cell (i := k) hlt
      have f3 := K.out.2.2.2.2.2.frozen k
      have HC := Lib.hid (cF_step x y k)
      have HA := Lib.hid (fun b => aF_step x y k hlt (b := b))
      generalize aF x y k k = o1 at c3
      generalize hbx : x.getLsbD k = bx at *
      generalize hby : y.getLsbD k = bY at *
      generalize hcc : cF x y k = cc at *
      clear hbx hby hcc
      cases bx <;> cases bY <;> cases cc
      all_goals
        go_wp2
        go_roundw
        case rel => exact ⟨k + 1, by omega, by go_num, by rw [HC.out]; rfl, Lib.hid ((K.out.set hlt _).of (HA.out _ rfl))⟩
        case measure => simp [intOf]; omega
    · obtain rfl : k = 128 := by omega
      have HB := K.out.2.2.2.2.2
      have HR := K.out.2.2.2.2.1
      go_wp2_with (first | (refine wpList_load_row rfl 29 _ rfl (w.heap.size + 1 + 1 + 1) rfl 29 (fArr (aF x y 128)) (0, 0) _ HB Tryd.underlying29 rfl (by rw [fArr_size]; kernel_rfl) ?_) | (refine wpList_store_row rfl 29 _ _ rfl (w.heap.size + 1 + 1) (fArr (aF x y 128)) rfl rfl 29 (fArr fun _ => false) HR (by rw [fArr_size]; kernel_rfl) (by rw [fArr_size, fArr_size]) (fArr_one _) ?_))
      have HR2 := setRow_heap wr (w.heap.size + 1 + 1) (fArr fun _ => false) (fArr (aF x y 128)) _ (0, 0) HR
      refine bodyPost_ret (v := .agg (wArr (x + y))) (by rw [← aF_end]; exact results_cell_row rfl _ _ (w.heap.size + 1 + 1) _ _ (0, 0) _ rfl HR2 Tryd.underlying29 rfl (by rw [fArr_size]; kernel_rfl)) rfl ⟨rfl, below_setRow K.out.1 (by omega)⟩
end Go.Proofs.YtjgpflodbloneaaDoor
