/- The contract of the document's Compare. -/
import Derived.Test.YtiahfdlmjfpglaaDoorRefAdd
import Derived.Deep.QuietTactic
import Derived.BigQuiet
import Derived.WalkSmall
namespace Go.Proofs.YtiahfdlmjfpglaaDoor
open Go.RowKit

theorem start_cmp (w : World) (x y : BitVec 128) : BArr ((w.alloc (.cells (wArr x) 27)).alloc (.cells (wArr y) 27)) w.heap.size (fun i => x.getLsbD i) ∧ BArr ((w.alloc (.cells (wArr x) 27)).alloc (.cells (wArr y) 27)) (w.heap.size + 1) (fun i => y.getLsbD i) := by
  have a1 := BArr.new w (fun i => x.getLsbD i)
  have a2 := BArr.new (w.alloc (.cells (wArr x) 27)) (fun i => y.getLsbD i)
  simp only [World.size_alloc] at a2
  exact ⟨a1.alloc _, a2⟩

set_option maxRecDepth 100000 in
set_option maxHeartbeats 1600000 in
theorem refCompare_any (x y : BitVec 128) (w : World) :
    Calls Tryd.prog 16 #[.agg (wArr x), .agg (wArr y)] w fun e w' => e = .returned (.int .i64 (cmpI x.toInt y.toInt)) ∧ Below w.heap.size w w' := by
  have B := start_cmp w x y
  have c1 := B.1.cell (i := 127) (by omega)
  have c2 := B.2.cell (i := 127) (by omega)
  have hbel : Hid (Below w.heap.size w ((w.alloc (.cells (wArr x) 27)).alloc (.cells (wArr y) 27))) := Lib.hid (((Below.refl _ _).alloc (Nat.le_refl _) _).alloc (by simp) _)
  have HB := Lib.hid B
  clear B
  generalize hbx : x.getLsbD 127 = bx at *
  generalize hby : y.getLsbD 127 = bY at *
  have Hx := Lib.hid hbx
  have Hy := Lib.hid hby
  clear hbx hby
  generalize hc : cmpI x.toInt y.toInt = c at *
  have HC := Lib.hid hc
  clear hc
  by_cases hne : bx = bY
  · subst hne
    have Hxy : Hid (x.getLsbD 127 = y.getLsbD 127) := Lib.hid (by rw [Hx.out, Hy.out])
    have e1 : (bx == bx) = true := by simp
    go_enter Tryd.func16, Tryd.ntmps16
    go_wp2_with fail
    clear c1 c2 e1
    go_loopw [5] (fun i wr => ∃ k : Nat, k ≤ 127 ∧ i = .int .i64 ((k : Int) - 1) ∧ Hid (sameFrom x y k) ∧ Hid (BArr wr w.heap.size (fun i => x.getLsbD i) ∧ BArr wr (w.heap.size + 1) (fun i => y.getLsbD i) ∧ Below w.heap.size w wr)) (fun i _ => (intOf i + 1).toNat)
    case atStart => exact ⟨127, by omega, rfl, Lib.hid (same_top Hxy.out), Lib.hid ⟨HB.out.1, HB.out.2, hbel.out⟩⟩
    case round =>
      obtain ⟨k, hk, rfl, HS, K⟩ := hrel
      by_cases hlt : 0 < k
      · obtain ⟨k, rfl⟩ : ∃ j, k = j + 1 := ⟨k - 1, by omega⟩
        have e1 : ((k + 1 : Nat) : Int) - 1 = k := by omega
        rw [e1] at *
        clear e1
        have hk' : k < 128 := by omega
        have c1 := K.out.1.cell (i := k) hk'
        have c2 := K.out.2.1.cell (i := k) hk'
        generalize hbx : x.getLsbD k = bx at *
        generalize hby : y.getLsbD k = bY at *
        have Gx := Lib.hid hbx
        have Gy := Lib.hid hby
        clear hbx hby
        cases bx <;> cases bY
        all_goals
          go_wp2_with fail
          go_quiet (fail)
          go_wp2_with fail
        · go_roundw
          case rel => exact ⟨k, by omega, by go_num, Lib.hid (same_step HS.out (Gx.out.trans Gy.out.symm)), Lib.hid ⟨K.out.1, K.out.2.1, below_drewN K.out.2.2 _⟩⟩
          case measure => simp [intOf]
        · go_ret
          exact ⟨ret_int (HC.out.symm.trans (cmp_at_lt Hxy.out HS.out Gx.out Gy.out)).symm, below_drewN K.out.2.2 _⟩
        · go_ret
          exact ⟨ret_int (HC.out.symm.trans (cmp_at_gt Hxy.out HS.out Gx.out Gy.out)).symm, below_drewN K.out.2.2 _⟩
        · go_roundw
          case rel => exact ⟨k, by omega, by go_num, Lib.hid (same_step HS.out (Gx.out.trans Gy.out.symm)), Lib.hid ⟨K.out.1, K.out.2.1, below_drewN K.out.2.2 _⟩⟩
          case measure => simp [intOf]
      · obtain rfl : k = 0 := by omega
        have hxy : Hid (c = 0) := Lib.hid (by rw [← HC.out, same_end HS.out, cmp_self])
        go_wp2_with fail
        go_ret
        exact ⟨ret_int hxy.out.symm, K.out.2.2⟩
  · have e1 : (bx == bY) = false := by simpa using hne
    cases bx <;> cases bY
    · exact absurd rfl hne
    · go_enter Tryd.func16, Tryd.ntmps16
      go_wp2_with fail
      go_ret
      exact ⟨ret_int (HC.out.symm.trans (cmp_msb_gt Hx.out Hy.out)).symm, hbel.out⟩
    · go_enter Tryd.func16, Tryd.ntmps16
      go_wp2_with fail
      go_ret
      exact ⟨ret_int (HC.out.symm.trans (cmp_msb_lt Hx.out Hy.out)).symm, hbel.out⟩
    · exact absurd rfl hne
end Go.Proofs.YtiahfdlmjfpglaaDoor
