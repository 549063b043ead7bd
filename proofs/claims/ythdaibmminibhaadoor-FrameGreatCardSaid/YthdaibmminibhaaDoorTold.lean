/- Contracts of frame's told at its errors. -/
import Derived.Test.YthdaibmminibhaaDoorAsM
import Derived.Test.YthdaibmminibhaaDoorCut5
namespace Go.Proofs.YthdaibmminibhaaDoor
open Go.RowKit

theorem cell_set_same {w : World} {b o : Nat} {v u : Value} (h : w.cell? ⟨b, o, none⟩ = some u) : (w.setCell ⟨b, o, none⟩ v).cell? ⟨b, o, none⟩ = some v := by
  unfold World.cell? at h ⊢
  simp only [World.setCell, Array.getElem?_modify]
  cases hh : w.heap[b]? with
  | none => rw [hh] at h; cases h
  | some x =>
    rw [hh] at h
    cases x with
    | cells c e f =>
      simp at h ⊢
      have hlt : o < c.size := by
        rcases Nat.lt_or_ge o c.size with h' | h'
        · exact h'
        · rw [Array.getElem?_eq_none h'] at h; cases h
      simp [hlt]
    | _ => cases h
set_option maxHeartbeats 1600000 in
theorem told_len (G : Nat) (n : Int) (t : TypeId) (q : Value) (w : World) (hE : ErrT G w) :
    Calls Tryd.prog 67 #[.iface 131 (.agg #[.int .i64 n, .iface t q])] w fun e w' => e = .returned (.int .i64 n) ∧ w.grownBy w' none := by
  obtain ⟨c0, c1, f0, f1⟩ := box2_cells w (.int .i64 0) .nilIface 131
  have HA := Lib.hid (as_hitL n t q w.heap.size G _ _ (w.alloc (.cells #[.int .i64 0, .nilIface] 131)) (hE.alloc _) c0 c1 f0 f1)
  have HC0 := Lib.hid c0
  clear c0 c1 f0 f1 hE
  go_enter Tryd.func67, Tryd.ntmps67
  go_wp2_with fail
  refine HA.out.mono ?_
  rintro e w1 ⟨rfl, w4, hg, rfl⟩
  have hc : ((w4.setCell ⟨w.heap.size, 0, none⟩ (.int .i64 n)).setCell ⟨w.heap.size, 1, none⟩ (.iface t q)).cell? ⟨w.heap.size, 0, none⟩ = some (.int .i64 n) := by
    rw [World.cell?_setCell_other _ ⟨w.heap.size, 1, none⟩ ⟨w.heap.size, 0, none⟩ _ (by simp)]
    exact cell_set_same (hg.cell HC0.out (by simp))
  have HG : Hid (w.grownBy ((w4.setCell ⟨w.heap.size, 0, none⟩ (.int .i64 n)).setCell ⟨w.heap.size, 1, none⟩ (.iface t q)) none) := Lib.hid (grown_new (grown_new ((World.grownBy_alloc _ _ _).trans hg) (Nat.le_refl _) _ _) (Nat.le_refl _) _ _)
  clear hg
  generalize (w4.setCell ⟨w.heap.size, 0, none⟩ (.int .i64 n)).setCell ⟨w.heap.size, 1, none⟩ (.iface t q) = W at *
  go_wp2_with fail
  go_ret
  exact ⟨rfl, HG.out⟩
set_option maxHeartbeats 1600000 in
theorem told_sum (G : Nat) (s : Addr) (w : World) (hE : ErrT G w) :
    Calls Tryd.prog 67 #[.iface 223 (.pointer (some s))] w fun e w' => e = .returned (.int .i64 4) ∧ w.grownBy w' none := by
  have HA := Lib.hid (as_missL s w.heap.size G (w.alloc (.cells #[.int .i64 0, .nilIface] 131)) (hE.alloc _))
  clear hE
  go_enter Tryd.func67, Tryd.ntmps67
  go_wp2_with fail
  refine HA.out.mono ?_
  rintro e w1 ⟨rfl, hg⟩
  have HG := Lib.hid ((World.grownBy_alloc w (.cells #[.int .i64 0, .nilIface] 131) none).trans hg)
  clear hg
  go_wp2_with fail
  go_ret
  exact ⟨rfl, HG.out⟩
end Go.Proofs.YthdaibmminibhaaDoor
