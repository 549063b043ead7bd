/- The journal's Append. -/
import Derived.Test.YtlmoefiajioeoaaJrB
import Derived.Deep.RegionWith
import Derived.Deep.RegionHeld3
import Derived.Deep.RegionLaw
namespace Go.Proofs.Ytlmoefiajioeoaa
open Go.RowKit

set_option maxHeartbeats 1600000 in
theorem append_no (B J : Nat) (w : World) (room en v : Int) (n : Nat) (h : JAt B J w room en n) (he : 0 ≤ en) (he2 : en ≤ 1099511627776) (hv : v ≠ en + 1 ∨ 1099511627776 < v) :
    Calls Try.prog 22 #[.pointer (some ⟨J, 0, none⟩), .agg #[.int .i64 v, .slice none 0 0]] w fun e w' => e = .returned (.int .i64 1) ∧ w.grownBy w' none := by
  obtain ⟨hB, a, cap, hj, hp⟩ := h
  obtain ⟨c0, c1, c2, f0, f1, f2⟩ := hj.cells
  have hjl := hj.lt
  have e1 : IntKind.i64.wrap (en + 1) = en + 1 := by rw [IntKind.wrap_i64]; omega
  clear hj hp hB
  by_cases hne : v = en + 1
  · have hb : (v != en + 1) = false := by simp [hne]
    have hb2 : (1099511627776 : Int) < v := by rcases hv with h | h; exact absurd hne h; exact h
    clear hne hv he he2
    go_enter Try.func22, Try.ntmps22
    go_wp2_with fail
    go_quiet (fail)
    go_wp2_with fail
    go_ret
    exact ⟨rfl, grown_drewNT (World.grownBy_alloc w _ none) _⟩
  · have hb : (v != en + 1) = true := by simp [hne]
    clear hne hv he he2
    go_enter Try.func22, Try.ntmps22
    go_wp2_with fail
    go_quiet (fail)
    go_wp2_with fail
    go_ret
    exact ⟨rfl, grown_drewNT (World.grownBy_alloc w _ none) _⟩
set_option maxHeartbeats 3200000 in
theorem append_ok (B J : Nat) (w : World) (room en v : Int) (n q : Nat) (hq : (q : Int) = min ((n : Int) + 1) room) (h : JAt B J w room en n) (hBw : B ≤ w.heap.size) (he : 0 ≤ en) (hv : v = en + 1) (hv2 : v ≤ 1099511627776) (hr : 1 ≤ room) (hr2 : room ≤ 1000) (hn : (n : Int) ≤ room) :
    Calls Try.prog 22 #[.pointer (some ⟨J, 0, none⟩), .agg #[.int .i64 v, .slice none 0 0]] w fun e w' => e = .returned (.int .i64 0) ∧ JAt B J w' room v q ∧ Below B w w' := by
  obtain ⟨hB, a, cap, hj, hp⟩ := h
  obtain ⟨c0, c1, c2, f0, f1, f2⟩ := hj.cells
  have hjl := hj.lt
  have e1 : IntKind.i64.wrap (en + 1) = en + 1 := by rw [IntKind.wrap_i64]; omega
  have hb : (v != en + 1) = false := by simp [hv]
  have hb2 : ¬ (1099511627776 : Int) < v := by omega
  have D := Lib.hid (And.intro hj (And.intro hp (And.intro hv (And.intro hr (And.intro hr2 hn)))))
  have Hq := Lib.hid hq
  clear hj hp hv he hv2 hr hr2 hn hq
  go_enter Try.func22, Try.ntmps22
  go_wp2_with fail
  go_quiet (fail)
  go_wp2_with fail
  have K0 := Lib.hid (grown_drewNT (World.grownBy_alloc w (cC v) none) 0)
  generalize hw0 : (w.alloc (cC v)).drewN _ = w0
  have FX : w0.cell? ⟨w.heap.size, 0, none⟩ = some (.int .i64 v) ∧ w0.cell? ⟨w.heap.size, 1, none⟩ = some (.slice none 0 0) ∧ w.grownBy w0 none ∧ w0.heap.size = w.heap.size + 1 := by
    subst hw0
    exact ⟨cell_of_row _ _ 0 _ _ _ (heap_alloc_new w (cC v)), cell_of_row _ _ 1 _ _ _ (heap_alloc_new w (cC v)), grown_drewNT (World.grownBy_alloc w _ none) _, by simp⟩
  clear hw0 K0 e1 hb hb2
  obtain ⟨x0, x1, hg0, hs0⟩ := FX
  have G0 := Lib.hid hg0
  have c2' := hg0.cell c2 (by simp)
  have f2' : w0.frozen? ⟨J, 2, none⟩ = false := (World.frozen?_of_block (a := ⟨J, 2, none⟩) (hg0.block J hjl (by simp))).trans f2
  have hjl0 : J < w0.heap.size := by omega
  have X0 := Lib.hid (And.intro x0 (And.intro x1 c2'))
  have HK := Lib.hid (fun W (hW : w0.grownBy W none) => D.out.2.1.keep (G0.out.trans hW) (by simp))
  have HA := Lib.hid (fun g off (e : a = some ⟨g, off, none⟩) (h0 : 0 < cap) => show g ≠ J ∧ g < w.heap.size by
    obtain ⟨g', off', e', _, hj', hl', _⟩ := D.out.2.1.at h0
    rw [e] at e'
    cases e'
    exact ⟨hj', hl'⟩)
  have hBw0 : B ≤ w0.heap.size := by omega
  have HN := Lib.hid (show n ≤ 1000000 ∧ v = en - n + 1 + n from ⟨by have := D.out.2.2.2.2; omega, by have := D.out.2.2.1; omega⟩)
  clear c0 c1 c2 f0 f1 f2 hg0
  go_cut [26] (fun s26 wx => ∃ a' cap', s26 = .slice a' (n + 1) cap' ∧ Hid (Jn J wx room en a' (n + 1) cap' ∧ Kp B J wx a' cap' (en - n) (n + 1) ∧ wx.cell? ⟨w.heap.size, 0, none⟩ = some (.int .i64 v) ∧ Below B w wx))
  case first =>
    go_region_law (first
      | (go_simp; go_at_call 46; (with_reducible refine (copied_any v _).mono ?_); rintro e w2 ⟨rfl, hg2⟩; have G2 := Lib.hid ((grown_drewT (grown_reflT w0 none)).trans hg2); have y2 := ((grown_drewT (grown_reflT w0 none)).trans hg2).cell c2' (by simp); have hjl2 := Nat.lt_of_lt_of_le hjl0 hg2.size; clear hg2)
      | (refine step_append_kp (by rfl) (.tmp 22) (.tmp 25) (by rfl) (HK.out _ (G2.out.trans (World.grownBy_alloc _ _ none))) (Nat.le_trans hBw0 (G2.out.trans (World.grownBy_alloc _ (cC v) none)).size) (Nat.lt_of_lt_of_le hjl0 (G2.out.trans (World.grownBy_alloc _ (cC v) none)).size) HN.out.1 HN.out.2 (by rfl) ⟨w2.heap.size, 0, none⟩ 1 (by rfl) (World.news_of_block (heap_alloc_new w2 _)) ?_
         intro a' cap' w4 hk4 hb4 hf4
         have G3 := Lib.hid (G2.out.trans (World.grownBy_alloc w2 (cC v) none))
         have hJ4 := hf4 J (Nat.lt_of_lt_of_le hjl0 G3.out.size) (fun g off e h0 he => (HA.out g off e h0).1 he.symm)
         have y4 := (World.cell?_of_block (a := ⟨J, 2, none⟩) hJ4).trans (G3.out.cell c2' (by simp))
         have z4 := (World.frozen?_of_block (a := ⟨J, 2, none⟩) hJ4).trans ((World.frozen?_of_block (a := ⟨J, 2, none⟩) (G3.out.block J hjl0 (by simp))).trans f2')
         have hX4 := hf4 w.heap.size (Nat.lt_of_lt_of_le (by omega) G3.out.size) (fun g off e h0 he => by have := (HA.out g off e h0).2; omega)
         have E4 := Lib.hid (And.intro hk4 (And.intro hb4 (And.intro hJ4 hX4)))
         clear hk4 hb4 hf4 hJ4 hX4)
      | fail)
    all_goals
      go_wp2_with fail
      go_meet
      obtain ⟨hk4, hb4, hJ4, hX4⟩ := E4.out
      have hgb := below_grownT (G0.out.trans G3.out)
      have hj4 : Jn J w4 room en a n cap := hJ4.trans (D.out.1.keep (G0.out.trans G3.out) (by simp))
      refine ⟨a', cap', rfl, Lib.hid ⟨hj4.setKept, hk4.keep (row := some J) ⟨rfl, rfl, rfl, by simp [World.setCell], fun k hk hne => Below.heap_setCell _ _ _ _ (fun e => hne (by rw [e]))⟩ (fun k e => by cases e; exact .inl rfl), ?_, ((hgb.mono hBw).trans hb4).setCell (p := ⟨J, 2, none⟩) hB _⟩⟩
      rw [World.cell?_setCell_other _ _ _ _ (by simp <;> omega)]
      exact (World.cell?_of_block (a := ⟨w.heap.size, 0, none⟩) hX4).trans (G3.out.cell X0.out.1 (by simp))
  case rest =>
  obtain ⟨a', cap', rfl, I⟩ := hcut
  obtain ⟨hj, hp, hx, hb⟩ := I.out
  obtain ⟨k0, k1, k2, q0, q1, q2⟩ := hj.cells
  have hjl3 := hj.lt
  have hj2 : Jn J (wc.setCell ⟨J, 1, none⟩ (.int .i64 v)) room v a' (n + 1) cap' := hj.setEnd
  have hp2 : Kp B J (wc.setCell ⟨J, 1, none⟩ (.int .i64 v)) a' cap' (v - (n + 1 : Nat)) (n + 1) := by
    have := hp.keep (row := some J) (w' := wc.setCell ⟨J, 1, none⟩ (.int .i64 v)) ⟨rfl, rfl, rfl, by simp [World.setCell], fun k hk hne => Below.heap_setCell _ _ _ _ (fun e => hne (by rw [e]))⟩ (fun k e => by cases e; exact .inl rfl)
    rw [show v - ((n + 1 : Nat) : Int) = en - n by have := D.out.2.2.1; omega]
    exact this
  have hr2 := D.out.2.2.2.1
  have hr3 := D.out.2.2.2.2.1
  have hr4 := D.out.2.2.2.2.2
  have hq := Hq.out
  have HD := Lib.hid (fun W (hW : (wc.setCell ⟨J, 1, none⟩ (.int .i64 v)).grownBy W none) => drop_any B J W room v (n + 1) ((n + 1 : Nat) - room) ⟨hB, a', cap', hj2.keep hW (by simp), hp2.keep hW (by simp)⟩ (by omega) (by omega))
  have e2 : IntKind.i64.wrap (((n : Int) + 1) - room) = (n : Int) + 1 - room := by rw [IntKind.wrap_i64]; omega
  have E2 := Lib.hid (show n + 1 - (((n + 1 : Nat) : Int) - room).toNat = q by omega)
  have HB2 := Lib.hid (hb.setCell (p := ⟨J, 1, none⟩) hB (.int .i64 v))
  have e3 : ((n + 1 : Nat) : Int) - room = (n : Int) + 1 - room := by omega
  rw [e3] at HD E2
  obtain ⟨m0, _, m2, _⟩ := hj2.cells
  clear hj hp hb I e3 hj2 hp2 x0 x1 c2' f2' HK HA HN X0 hr2 hr3 hr4 hq
  go_wp2_with fail
  clear hx k0 k1 k2 q0 q1 q2
  generalize wc.setCell ⟨J, 1, none⟩ (.int .i64 v) = w5 at *
  go_region_with (go_at_call 47; (with_reducible refine (HD.out _ (by first | exact grown_drewT (grown_reflT _ _) | exact grown_reflT _ _)).mono ?_); rintro e w6 ⟨rfl, hj6, hb6⟩; have H6 := Lib.hid (And.intro hj6 hb6); clear hj6 hb6)
  all_goals
    go_wp2_with fail
    go_ret
    exact ⟨rfl, by rw [← E2.out]; exact H6.out.1, HB2.out.trans ((Below.refl B w5).drew.trans H6.out.2)⟩
end Go.Proofs.Ytlmoefiajioeoaa
