/- Layer 8's fixed fact; JournalRefuses, JournalEnds. -/
import Derived.Test.YtlmoefiajioeoaaJrD
namespace Go.Proofs.Ytlmoefiajioeoaa
open Go.RowKit

theorem JAt.jn {B J : Nat} {w : World} {room en : Int} {n : Nat} (h : JAt B J w room en n) : ∃ a cap, ∀ W, w.grownBy W none → Jn J W room en a n cap := by
  obtain ⟨_, a, cap, hj, _⟩ := h
  exact ⟨a, cap, fun W hW => hj.keep hW (by simp)⟩
theorem since_low (B J : Nat) (w : World) (room en v : Int) (n : Nat) (h : JAt B J w room en n) (he : 0 ≤ en) (he2 : en ≤ 1099511627776) (hn : n ≤ 1000000) (hv : v < en - n) :
    Calls Try.prog 26 #[.pointer (some ⟨J, 0, none⟩), .int .i64 v] w fun e w' => e = .returned (.tuple #[.slice none 0 0, .int .i64 25]) ∧ w.grownBy w' none := by
  obtain ⟨_, a, cap, hj, _⟩ := h
  exact since_gone J w room en v a n cap hj he he2 hn hv
theorem end_at (B J : Nat) (w : World) (room en : Int) (n : Nat) (h : JAt B J w room en n) : Calls Try.prog 25 #[.pointer (some ⟨J, 0, none⟩)] w fun e w' => e = .returned (.int .i64 en) ∧ w.grownBy w' none := by
  obtain ⟨_, a, cap, hj, _⟩ := h
  exact (end_any J w room en a n cap hj).mono fun e w' h => ⟨h.1, by rw [← h.2]; exact grown_reflT _ _⟩
theorem horizon_at (B J : Nat) (w : World) (room en : Int) (n : Nat) (h : JAt B J w room en n) (h0 : 0 ≤ en) (h1 : en ≤ 1099511627776) (hn : n ≤ 1000000) (x : Int) (hx : x = en - n) : Calls Try.prog 24 #[.pointer (some ⟨J, 0, none⟩)] w fun e w' => e = .returned (.int .i64 x) ∧ w.grownBy w' none := by
  subst hx
  obtain ⟨_, a, cap, hj, _⟩ := h
  exact (horizon_any J w room en a n cap hj h0 h1 hn).mono fun e w' ⟨h, k, hk⟩ => ⟨h, by rw [hk]; exact grown_drewNT (grown_reflT _ _) _⟩
theorem own_at {w : World} {B : Nat} {ao : Option Addr} {co m : Nat} {v : Int} (h : w.ownsRow B 57 2 (.slice ao m co) m (cmL v m)) {i : Nat} (hi : i < m) : ∃ g, ao = some ⟨g, 0, none⟩ ∧ m ≤ co ∧ g < w.heap.size ∧ B ≤ g ∧ w.cell? ⟨g, i * 2, none⟩ = some (.int .i64 (v + 1 + i)) ∧ w.cell? ⟨g, i * 2 + 1, none⟩ = some (.slice none 0 0) := by
  rcases h.2 with ⟨hv, h0⟩ | ⟨g, cap, cur, hv, hb, hg, hc, _⟩
  · omega
  · cases hv
    have c := h.cells (g := g) rfl
    have a := cmL_at v m i hi
    have c0 := c _ _ a.1
    have c1 := c _ _ a.2
    rw [add_atT, Nat.zero_add] at c0 c1
    exact ⟨g, rfl, hc, (Array.getElem?_eq_some_iff.1 hg).1, hb, c0, c1⟩
set_option maxRecDepth 100000 in
set_option maxHeartbeats 3200000 in
theorem awake8_any (w : World) : Calls Try.prog 20 #[] w fun e w' => e = .returned (.bool true) ∧ Below w.heap.size w w' := by
  have HN := Lib.hid (new_any 2 0 w (by decide) (by decide) (by decide) (by decide))
  go_enter Try.func20, Try.ntmps20
  go_wp2_with fail
  refine HN.out.mono ?_
  rintro e w1 ⟨⟨J, rfl, hj⟩, hg⟩
  have H1 := Lib.hid (And.intro hj (below_grownT hg))
  have hs1 : w.heap.size ≤ w1.heap.size := hg.size
  clear hj hg HN
  go_wp2_with fail
  go_loopw [3] (fun s wr => ∃ k : Nat, s = .int .i64 k ∧ 1 ≤ k ∧ k ≤ 4 ∧ Hid (JAt w.heap.size J wr 2 ((k : Int) - 1) (min (k - 1) 2) ∧ Below w.heap.size w wr)) (fun s _ => 4 - (intOf s).toNat)
  case atStart => exact ⟨1, rfl, by omega, by omega, Lib.hid H1.out⟩
  case round =>
    obtain ⟨k, rfl, hk1, hk4, I⟩ := hrel
    by_cases hlt : k ≤ 3
    · have HA := Lib.hid (append_ok w.heap.size J wr 2 ((k : Int) - 1) k (min (k - 1) 2) (min k 2) (by omega) I.out.1 I.out.2.size (by omega) (by omega) (by omega) (by decide) (by decide) (by omega))
      have hl : (k : Int) ≤ 3 := by omega
      have hB := Lib.hid I.out.2
      clear I
      go_wp2_with fail
      refine HA.out.mono ?_
      rintro e w2 ⟨rfl, hj2, hb2⟩
      have H2 := Lib.hid (And.intro hj2 (hB.out.trans hb2))
      clear hj2 hb2 HA
      go_wp2_with fail
      go_roundw
      case rel => exact ⟨k + 1, by go_num, by omega, by omega, Lib.hid ⟨by have := H2.out.1; rw [show ((k + 1 : Nat) : Int) - 1 = k by omega]; exact this, H2.out.2⟩⟩
      case measure => simp [intOf]; omega
    · obtain rfl : k = 4 := by omega
      have hj3 : JAt w.heap.size J wr 2 3 2 := I.out.1
      have S0 := Lib.hid (since_low w.heap.size J wr 2 3 0 2 hj3 (by decide) (by decide) (by decide) (by decide))
      have S1 := Lib.hid (fun W (hW : wr.grownBy W none) => since_any w.heap.size J W 2 3 1 2 2 (hj3.keep hW) (by decide) (by decide) (by decide) (by decide) (by decide))
      have SE := Lib.hid (fun W (hW : wr.grownBy W none) => end_at w.heap.size J W 2 3 2 (hj3.keep hW))
      have SH := Lib.hid (fun W (hW : wr.grownBy W none) => horizon_at w.heap.size J W 2 3 2 (hj3.keep hW) (by decide) (by decide) (by decide) 1 (by decide))
      have HB := Lib.hid I.out.2
      clear hj3 I
      go_wp2_with fail
      refine S0.out.mono ?_
      rintro e w2 ⟨rfl, hg2⟩
      have G2 := Lib.hid hg2
      clear hg2
      go_wp2_with fail
      refine (S1.out _ G2.out).mono ?_
      rintro e w3 ⟨⟨ao, co, rfl, ho⟩, hg3⟩
      obtain ⟨g, rfl, hco, hgl, _, c0, _⟩ := own_at ho (i := 1) (by decide)
      have c0' : w3.cell? ⟨g, 2, none⟩ = some (.int .i64 3) := c0
      have G3 := Lib.hid (G2.out.trans hg3)
      have F := Lib.hid (fun (W : World) (hW : w3.grownBy W none) => hW.cell c0' (by simp))
      clear hg3 ho c0 c0'
      go_wp2_with fail
      refine (SE.out _ G3.out).mono ?_
      rintro e w4 ⟨rfl, hg4⟩
      have G4 := Lib.hid hg4
      clear hg4
      go_wp2_with fail
      refine (SH.out _ (G3.out.trans G4.out)).mono ?_
      rintro e w5 ⟨rfl, hg5⟩
      have c5 := F.out _ (G4.out.trans hg5)
      have G5 := Lib.hid ((G3.out.trans G4.out).trans hg5)
      clear hg5
      go_wp2_with fail
      go_ret
      exact ⟨rfl, HB.out.trans ((below_grownT G5.out).mono HB.out.size)⟩
end Go.Proofs.Ytlmoefiajioeoaa
