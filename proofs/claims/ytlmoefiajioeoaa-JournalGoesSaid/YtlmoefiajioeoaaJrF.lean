/- The laws JournalRefuses and JournalEnds walked. -/
import Derived.Test.YtlmoefiajioeoaaJrE
namespace Go.Proofs.Ytlmoefiajioeoaa
open Go.RowKit

theorem below8 {w w1 w2 : World} (h : Below w.heap.size w w1) (k : w1.grownBy w2 none) : Below w.heap.size w w2 := h.trans ((below_grownT k).mono h.size)
set_option maxRecDepth 100000 in
set_option maxHeartbeats 3200000 in
theorem JournalRefuses_any (a' v : Int) (w : World) :
    Calls Try.prog 7 #[.int .i64 a', .int .i64 v] w fun e w' => e = .returned (.bool true) ∧ Below w.heap.size w w' := by
  have HA := Lib.hid (awake8_any w)
  obtain ⟨y, hy⟩ : ∃ y : Int, IntKind.u64.wrap a' = y := ⟨_, rfl⟩
  have hy0 : 0 ≤ y := by
    rw [← hy]
    unfold IntKind.wrap
    simp [IntKind.signed, IntKind.bits]
    omega
  obtain ⟨k, hk, hkn⟩ : ∃ k : Nat, k < 1000 ∧ y % 1000 = (k : Int) := ⟨(y % 1000).toNat, by omega, by omega⟩
  have hkm : y.tmod 1000 = (k : Int) := by rw [Int.tmod_eq_emod_of_nonneg hy0]; exact hkn
  have e1 : IntKind.i64.wrap ((k : Int) + 1) = (k : Int) + 1 := by rw [IntKind.wrap_i64]; omega
  have hw64 : wrap64 (k : Int) = (k : Int) := by unfold wrap64; omega
  go_enter Try.func7, Try.ntmps7
  go_wp2_with fail
  refine HA.out.mono ?_
  rintro e w1 ⟨rfl, hb1⟩
  have B1 := Lib.hid hb1
  have HN := Lib.hid (new_any 3 k w1 (by decide) (by decide) (by omega) (by omega))
  clear hb1 HA
  go_wp2_with fail
  clear hy hkn hkm hy0 hw64
  refine HN.out.mono ?_
  rintro e w2 ⟨⟨J, rfl, hj⟩, hg⟩
  have H2 := Lib.hid (And.intro hj (below8 B1.out hg))
  have hs2 : w1.heap.size ≤ w2.heap.size := hg.size
  clear hj hg HN
  by_cases hv : v = (k : Int) + 1
  · have HP := Lib.hid (append_ok w1.heap.size J w2 3 k v 0 1 (by decide) H2.out.1 hs2 (by omega) hv (by omega) (by decide) (by decide) (by decide))
    have hs := B1.out.size
    have hb : (v == (k : Int) + 1) = true := by simp [hv]
    have Hv := Lib.hid hv
    clear hv e1
    go_wp2_with fail
    refine HP.out.mono ?_
    rintro e w3 ⟨rfl, hj3, hb3⟩
    have SE := Lib.hid (fun W (hW : w3.grownBy W none) => end_at _ J W 3 v 1 (hj3.keep hW))
    have SH := Lib.hid (fun W (hW : w3.grownBy W none) => horizon_at _ J W 3 v 1 (hj3.keep hW) (by have := Hv.out; omega) (by have := Hv.out; omega) (by decide) k (by have := Hv.out; omega))
    have B3 := Lib.hid (H2.out.2.trans (hb3.mono hs))
    clear hj3 hb3 HP
    go_wp2_with fail
    refine (SE.out _ (grown_reflT _ _)).mono ?_
    rintro e w4 ⟨rfl, hg4⟩
    have G4 := Lib.hid hg4
    clear hg4
    go_wp2_with fail
    refine (SH.out _ G4.out).mono ?_
    rintro e w5 ⟨rfl, hg5⟩
    have G5 := Lib.hid (G4.out.trans hg5)
    clear hg5
    go_wp2_with fail
    go_ret
    exact ⟨by simp, below8 B3.out G5.out⟩
  · have HP := Lib.hid (append_no w1.heap.size J w2 3 k v 0 H2.out.1 (by omega) (by omega) (.inl hv))
    have SE := Lib.hid (fun W (hW : w2.grownBy W none) => end_at _ J W 3 k 0 (H2.out.1.keep hW))
    have SH := Lib.hid (fun W (hW : w2.grownBy W none) => horizon_at _ J W 3 k 0 (H2.out.1.keep hW) (by omega) (by omega) (by decide) k (by omega))
    have hb : (v == (k : Int) + 1) = false := by simp [hv]
    clear hv e1
    go_wp2_with fail
    refine HP.out.mono ?_
    rintro e w3 ⟨rfl, hg3⟩
    have G3 := Lib.hid hg3
    clear hg3 HP
    go_wp2_with fail
    refine (SE.out _ G3.out).mono ?_
    rintro e w4 ⟨rfl, hg4⟩
    have G4 := Lib.hid (G3.out.trans hg4)
    clear hg4
    go_wp2_with fail
    refine (SH.out _ G4.out).mono ?_
    rintro e w5 ⟨rfl, hg5⟩
    have G5 := Lib.hid (G4.out.trans hg5)
    clear hg5
    go_wp2_with fail
    go_ret
    exact ⟨by simp, below8 H2.out.2 G5.out⟩
set_option maxRecDepth 100000 in
set_option maxHeartbeats 3200000 in
theorem JournalEnds_any (a' : Int) (w : World) (h0 : 0 ≤ a') :
    Calls Try.prog 8 #[.int .u8 a'] w fun e w' => e = .returned (.bool true) ∧ Below w.heap.size w w' := by
  have HA := Lib.hid (awake8_any w)
  obtain ⟨k, hk, hkn⟩ : ∃ k : Nat, k < 5 ∧ a' % 5 = (k : Int) := ⟨(a' % 5).toNat, by omega, by omega⟩
  have hkm : a'.tmod 5 = (k : Int) := by rw [Int.tmod_eq_emod_of_nonneg h0]; exact hkn
  obtain ⟨z, hz⟩ : ∃ z : Int, (1099511627776 : Int) - k = z := ⟨_, rfl⟩
  have hz1 : 1099511627772 ≤ z := by omega
  have hz2 : z ≤ 1099511627776 := by omega
  have Hz := Lib.hid hz
  go_enter Try.func8, Try.ntmps8
  go_wp2_with fail
  refine HA.out.mono ?_
  rintro e w1 ⟨rfl, hb1⟩
  have B1 := Lib.hid hb1
  have HN := Lib.hid (new_any 2 z w1 (by decide) (by decide) (by omega) (by omega))
  clear hb1 HA
  go_wp2_with fail
  refine HN.out.mono ?_
  rintro e w2 ⟨⟨J, rfl, hj⟩, hg⟩
  have H2 := Lib.hid (And.intro hj (below_grownT hg))
  clear hj hg HN hkn hkm
  go_wp2_with fail
  clear hz
  go_loopw [6] (fun s wr => ∃ (x : Int) (n : Nat), s = .int .i64 x ∧ z + 1 ≤ x ∧ x ≤ 1099511627777 ∧ n ≤ 2 ∧ Hid (JAt w1.heap.size J wr 2 (x - 1) n ∧ Below w1.heap.size w1 wr)) (fun s _ => (1099511627777 - intOf s).toNat)
  case atStart => exact ⟨z + 1, 0, rfl, by omega, by omega, by omega, Lib.hid ⟨by rw [show z + 1 - 1 = z by omega]; exact H2.out.1, H2.out.2⟩⟩
  case round =>
    obtain ⟨x, n, rfl, hx1, hx2, hn, I⟩ := hrel
    by_cases hlt : x ≤ 1099511627776
    · have HP := Lib.hid (append_ok w1.heap.size J wr 2 (x - 1) x n (min (n + 1) 2) (by omega) I.out.1 I.out.2.size (by omega) (by omega) (by omega) (by decide) (by decide) (by omega))
      have hB := Lib.hid I.out.2
      clear I
      go_wp2_with fail
      refine HP.out.mono ?_
      rintro e w3 ⟨rfl, hj3, hb3⟩
      have H3 := Lib.hid (And.intro hj3 (hB.out.trans hb3))
      clear hj3 hb3 HP
      go_wp2_with fail
      go_roundw
      case rel => exact ⟨x + 1, min (n + 1) 2, rfl, by omega, by omega, by omega, Lib.hid ⟨by rw [show x + 1 - 1 = x by omega]; exact H3.out.1, H3.out.2⟩⟩
      case measure => simp [intOf]; omega
    · obtain rfl : x = 1099511627777 := by omega
      have hj4 : JAt w1.heap.size J wr 2 1099511627776 n := I.out.1
      have HP := Lib.hid (append_no w1.heap.size J wr 2 1099511627776 1099511627777 n hj4 (by decide) (by decide) (.inr (by decide)))
      have SE := Lib.hid (fun W (hW : wr.grownBy W none) => end_at _ J W 2 1099511627776 n (hj4.keep hW))
      have HB := Lib.hid I.out.2
      clear hj4 I
      go_wp2_with fail
      refine HP.out.mono ?_
      rintro e w3 ⟨rfl, hg3⟩
      have G3 := Lib.hid hg3
      clear hg3 HP
      go_wp2_with fail
      refine (SE.out _ G3.out).mono ?_
      rintro e w4 ⟨rfl, hg4⟩
      have G4 := Lib.hid (G3.out.trans hg4)
      clear hg4
      go_wp2_with fail
      go_ret
      exact ⟨rfl, (B1.out.trans (HB.out.mono B1.out.size)).trans ((below_grownT G4.out).mono (Nat.le_trans B1.out.size HB.out.size))⟩
end Go.Proofs.Ytlmoefiajioeoaa
