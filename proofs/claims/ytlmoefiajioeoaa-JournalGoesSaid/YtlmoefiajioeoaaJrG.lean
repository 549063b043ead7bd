/- The law JournalGoes walked. -/
import Derived.Test.YtlmoefiajioeoaaJrF
import Derived.Test.YtlmoefiajioeoaaKs
namespace Go.Proofs.Ytlmoefiajioeoaa
open Go.RowKit

theorem mod20 (z : Int) : ∃ (y : Int) (m : Nat), IntKind.u64.wrap z = y ∧ 0 ≤ y ∧ m < 20 ∧ y.tmod 20 = (m : Int) ∧ y % 20 = (m : Int) := by
  have h0 : 0 ≤ IntKind.u64.wrap z := by
    unfold IntKind.wrap
    simp [IntKind.signed, IntKind.bits]
    omega
  refine ⟨_, ((IntKind.u64.wrap z) % 20).toNat, rfl, h0, by omega, ?_, by omega⟩
  rw [Int.tmod_eq_emod_of_nonneg h0]
  omega
set_option maxRecDepth 100000 in
set_option maxHeartbeats 12800000 in
theorem JournalGoes_any (r : Int) (a : Option Addr) (cap : Nat) (cs : List Int) (w : World) (h0 : 0 ≤ r) (h255 : r ≤ 255) (hk : KsJ w a cs) (hcap : cs.length ≤ cap) :
    Calls Try.prog 6 #[.int .u8 r, .slice a cs.length cap] w fun e w' => e = .returned (.bool true) ∧ Below w.heap.size w w' := by
  have HA := Lib.hid awake8_any
  have H := Lib.hid hk
  obtain ⟨n, hn⟩ : ∃ n, n = cs.length := ⟨_, rfl⟩
  have Hn := Lib.hid hn
  rw [← hn] at hcap ⊢
  obtain ⟨m, hm, hmr⟩ : ∃ m : Nat, m < 20 ∧ r % 20 = (m : Int) := ⟨(r % 20).toNat, by omega, by omega⟩
  have hmt : r.tmod 20 = (m : Int) := by rw [Int.tmod_eq_emod_of_nonneg h0]; exact hmr
  clear hn hk
  go_enter Try.func6, Try.ntmps6
  go_wp2_with fail
  refine (HA.out _).mono ?_
  rintro e w1 ⟨rfl, hb1⟩
  have B1 := Lib.hid hb1
  clear hb1
  by_cases hfew : n ≤ 200
  · have HN := Lib.hid (new_any ((m : Int) + 1) 5 w1 (by omega) (by omega) (by decide) (by decide))
    go_wp2_with fail
    refine HN.out.mono ?_
    rintro e w2 ⟨⟨J, rfl, hj⟩, hg⟩
    have H2 := Lib.hid (And.intro hj (below_grownT hg))
    clear hj hg HN hmr hmt h0 h255
    go_wp2_with fail
    go_loopw [42, 8] (fun s42 s8 wr => ∃ (i q : Nat), s42 = .int .i64 i ∧ s8 = .int .i64 (5 + (i : Int) - q) ∧ i ≤ n ∧ q ≤ m + 1 ∧ q ≤ i ∧ Hid (JAt w1.heap.size J wr ((m : Int) + 1) (5 + (i : Int)) q ∧ Below w1.heap.size w1 wr)) (fun s42 _ _ => n - (intOf s42).toNat)
    case atStart => exact ⟨0, 0, rfl, rfl, by omega, by omega, by omega, Lib.hid H2.out⟩
    case round =>
      obtain ⟨i, q, rfl, rfl, hi, hqm, hqi, I⟩ := hrel
      by_cases hlt : i < n
      · obtain ⟨b, off, rfl, c0⟩ := H.out.at (B1.out.trans (I.out.2.mono B1.out.size)) (i := i) (by rw [← Hn.out]; exact hlt)
        obtain ⟨c, hc⟩ : ∃ c, c = cs.getD i 0 := ⟨_, rfl⟩
        rw [← hc] at c0
        clear hc
        obtain ⟨q1, hq1⟩ : ∃ q1 : Nat, q1 = min (q + 1) (m + 1) := ⟨_, rfl⟩
        have HP := Lib.hid (append_ok w1.heap.size J wr ((m : Int) + 1) (5 + (i : Int)) (6 + (i : Int)) q q1 (by omega) I.out.1 I.out.2.size (by omega) (by omega) (by omega) (by omega) (by omega) (by omega))
        have HB := Lib.hid I.out.2
        have j1 : (i : Int) < n := by omega
        have j2 : (0 : Int) ≤ (i : Int) := Int.natCast_nonneg _
        have j3 : (i : Int) ≤ cap := by omega
        clear I
        go_wp2_with fail
        refine HP.out.mono ?_
        rintro e w3 ⟨rfl, hj3, hb3⟩
        have H3 := Lib.hid (And.intro hj3 (HB.out.trans hb3))
        clear hj3 hb3 HP HB c0
        have hmax : max (5 + (i : Int) - q) (6 + (i : Int) - ((m : Int) + 1)) = 6 + (i : Int) - q1 := by omega
        have hq1m : q1 ≤ m + 1 := by omega
        have hq1i : q1 ≤ i + 1 := by omega
        clear hq1
        have HM := Lib.hid hmax
        go_upto_if 61 with (fail)
        clear hmax
        go_cut [8] (fun s8 wx => ∃ q2 : Nat, s8 = .int .i64 (6 + (i : Int) - q2) ∧ q2 ≤ m + 1 ∧ q2 ≤ i + 1 ∧ Hid (JAt w1.heap.size J wx ((m : Int) + 1) (6 + (i : Int)) q2 ∧ Below w1.heap.size w1 wx))
        case first =>
          by_cases hc3 : c.tmod 3 = 0
          · have hc3' : (c.tmod 3 == 0) = true := by simp [hc3]
            obtain ⟨y, mm, hy, hy0, hmm, hyt, hye⟩ := mod20 c
            obtain ⟨q2, hq2⟩ : ∃ q2 : Nat, q2 = min q1 mm := ⟨_, rfl⟩
            have HC := Lib.hid (cut_any w1.heap.size J w3 ((m : Int) + 1) (6 + (i : Int)) (6 + (i : Int) - mm) q1 q2 H3.out.1 (by omega) (by omega) (by omega) (by omega) (by omega))
            have hmx2 : max (6 + (i : Int) - q1) (6 + (i : Int) - mm) = 6 + (i : Int) - q2 := by omega
            have hq2a : q2 ≤ m + 1 := by omega
            have hq2b : q2 ≤ i + 1 := by omega
            clear hc3 hq2
            go_wp2_with fail
            refine HC.out.mono ?_
            rintro e w4 ⟨rfl, hj4, hb4⟩
            have H4 := Lib.hid (And.intro hj4 (H3.out.2.trans hb4))
            clear hj4 hb4 HC hy hyt hye
            go_wp2_with fail
            go_meet
            exact ⟨q2, rfl, hq2a, hq2b, H4⟩
          · have hc3' : (c.tmod 3 == 0) = false := by simp [hc3]
            clear hc3
            go_wp2_with fail
            go_meet
            exact ⟨q1, rfl, hq1m, hq1i, H3⟩
        case rest =>
        obtain ⟨q2, rfl, hq2a, hq2b, H4⟩ := hcut
        have SH := Lib.hid (horizon_at w1.heap.size J wc ((m : Int) + 1) (6 + (i : Int)) q2 H4.out.1 (by omega) (by omega) (by omega) (6 + (i : Int) - q2) rfl)
        have SE := Lib.hid (fun W (hW : wc.grownBy W none) => end_at w1.heap.size J W ((m : Int) + 1) (6 + (i : Int)) q2 (H4.out.1.keep hW))
        clear H3 HM
        go_wp2_with fail
        refine SH.out.mono ?_
        rintro e w4 ⟨rfl, hg4⟩
        have G4 := Lib.hid hg4
        clear hg4
        go_wp2_with fail
        refine (SE.out _ G4.out).mono ?_
        rintro e w5 ⟨rfl, hg5⟩
        have G5 := Lib.hid (G4.out.trans hg5)
        clear hg5 SH SE
        go_wp2_with fail
        have HJ5 := Lib.hid (H4.out.1.keep G5.out)
        have HB5 := Lib.hid (H4.out.2.trans ((below_grownT G5.out).mono H4.out.2.size))
        clear G4
        generalize hwr : wr = wo at *
        clear hwr
        go_loopw [12] (fun s12 wx => ∃ x : Int, s12 = .int .i64 x ∧ 6 + (i : Int) - q2 ≤ x ∧ x ≤ 7 + (i : Int) ∧ Hid (w5.grownBy wx none)) (fun s12 _ => (7 + (i : Int) - intOf s12).toNat)
        case atStart => exact ⟨_, rfl, by omega, by omega, Lib.hid (grown_reflT _ _)⟩
        case round =>
          obtain ⟨x, rfl, hx1, hx2, K⟩ := hrel
          by_cases hx : x ≤ 6 + (i : Int)
          · obtain ⟨p, hp⟩ : ∃ p : Nat, (p : Int) = 6 + (i : Int) - x := ⟨(6 + (i : Int) - x).toNat, by omega⟩
            have HS := Lib.hid (since_any w1.heap.size J wr ((m : Int) + 1) (6 + (i : Int)) x q2 p (HJ5.out.keep K.out) (by omega) (by omega) (by omega) hx1 hp)
            have hp' : ((p : Int) != 6 + (i : Int) - x) = false := by simp [hp]
            have hpn : p ≤ 20 := by omega
            clear hp
            go_wp2_with fail
            refine HS.out.mono ?_
            rintro e w6 ⟨⟨ao, co, rfl, ho⟩, hg6⟩
            have G6 := Lib.hid (K.out.trans hg6)
            have HO := Lib.hid ho
            clear hg6 ho HS
            go_wp2_with fail
            go_loopw [113] (fun s113 wx => ∃ k : Nat, s113 = .int .i64 k ∧ k ≤ p ∧ Hid (w6.grownBy wx none)) (fun s113 _ => p - (intOf s113).toNat)
            case atStart => exact ⟨0, rfl, by omega, Lib.hid (grown_reflT _ _)⟩
            case round =>
              obtain ⟨k, rfl, hkp, K3⟩ := hrel
              by_cases hkl : k < p
              · obtain ⟨g, hgo, hco, hgl, _, c0, c1⟩ := own_at HO.out hkl
                subst hgo
                have d0 := K3.out.cell c0 (by simp)
                have d1 := K3.out.cell c1 (by simp)
                have k1 : (k : Int) < p := by omega
                have k2 : (0 : Int) ≤ (k : Int) := Int.natCast_nonneg _
                have k3 : (k : Int) ≤ co := by omega
                clear c0 c1
                go_wp2_with fail
                go_roundw
                case rel => exact ⟨k + 1, by go_num, by omega, Lib.hid (K3.out.trans (World.grownBy_alloc _ _ none))⟩
                case measure => simp [intOf]; omega
              · obtain rfl : k = p := by omega
                go_wp2_with fail
                go_roundw
                case rel => exact ⟨x + 1, rfl, by omega, by omega, Lib.hid (G6.out.trans K3.out)⟩
                case measure => simp [intOf]; omega
          · obtain rfl : x = 7 + (i : Int) := by omega
            have E5 := Lib.hid (And.intro (HJ5.out.keep K.out) (HB5.out.trans ((below_grownT K.out).mono (Nat.le_trans HB5.out.size (Nat.le_refl _)))))
            go_wp2_with fail
            go_roundw
            case rel => exact ⟨i + 1, q2, by go_num, by congr 1; push_cast; omega, by omega, by omega, by omega, Lib.hid ⟨by have := E5.out.1; rw [show (5 : Int) + ((i + 1 : Nat) : Int) = 6 + (i : Int) by push_cast; omega]; exact this, E5.out.2⟩⟩
            case measure => simp [intOf]; omega
      · obtain rfl : i = n := by omega
        go_wp2_with fail
        go_ret
        exact ⟨rfl, B1.out.trans (I.out.2.mono B1.out.size)⟩
  · go_wp2_with fail
    refine (HA.out _).mono ?_
    rintro e w2 ⟨rfl, hb2⟩
    have B2 := Lib.hid hb2
    clear hb2
    go_wp2_with fail
    go_ret
    exact ⟨rfl, B1.out.trans (B2.out.mono B1.out.size)⟩
end Go.Proofs.Ytlmoefiajioeoaa
