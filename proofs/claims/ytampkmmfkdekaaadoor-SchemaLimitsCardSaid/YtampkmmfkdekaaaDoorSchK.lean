/- Contracts of the document's check of one table, and of the law's Right: they answer; which, nobody asks. -/
import Derived.Test.YtampkmmfkdekaaaDoorSchA
import Derived.BigQuiet
namespace Go.Proofs.YtampkmmfkdekaaaDoor
open Go.RowKit

set_option maxRecDepth 100000 in
set_option maxHeartbeats 6400000 in
theorem refWrong_any (a ca : Option Addr) (cap ccap : Nat) (l : List Cl) (N : ByteArray) (K : Int) (w : World) (h : ColsAt w.heap.size w ca l) (hcap : l.length ≤ ccap) (hN : N.size ≤ 9223372036854775807) (hn : ∀ i, i < l.length → (l.getD i default).n.size ≤ 9223372036854775807) :
    Calls Tryd.prog 15 #[.slice a 0 cap, .agg #[.string N, .slice ca l.length ccap, .int .i64 K]] w fun e w' => (∃ c, e = .returned (.int .i64 c)) ∧ w.grownBy w' none := by
  have HN := Lib.hid (fun W => refName_any N W hN)
  have HNc := Lib.hid (fun k hk W => refName_any (l.getD k default).n W (hn k hk))
  have H := Lib.hid h
  have HB := Lib.hid (box3_new6 w (.string N) (.slice ca l.length ccap) (.int .i64 K) 24)
  have hlen := h.1
  obtain ⟨n, hn'⟩ : ∃ n, n = l.length := ⟨_, rfl⟩
  have Hn := Lib.hid hn'
  rw [← hn'] at hlen HB hcap HNc ⊢
  clear h hn' hn
  have K0 := Lib.hid (World.grownBy_alloc w (.cells #[.string N, .slice ca n ccap, .int .i64 K] 24) none)
  have D0 := Lib.hid (fun (W : World) (hW : (w.alloc (.cells #[.string N, .slice ca n ccap, .int .i64 K] 24)).grownBy W none) => And.intro (hW.cell HB.out.1 (by simp)) (And.intro (hW.cell HB.out.2.1 (by simp)) (hW.cell HB.out.2.2 (by simp))))
  obtain ⟨w0, hw0⟩ : ∃ w0, w0 = w.alloc (.cells #[.string N, .slice ca n ccap, .int .i64 K] 24) := ⟨_, rfl⟩
  by_cases h1 : n < 1
  · have h1' : (n : Int) < 1 := by omega
    go_enter Tryd.func15, Tryd.ntmps15
    go_wp2_with fail
    go_ret
    exact ⟨⟨_, rfl⟩, K0.out⟩
  by_cases h8 : 8 < n
  · have h1' : ¬ (n : Int) < 1 := by omega
    have h8' : (8 : Int) < n := by omega
    go_enter Tryd.func15, Tryd.ntmps15
    go_wp2_with fail
    go_ret
    exact ⟨⟨_, rfl⟩, K0.out⟩
  have h1' : ¬ (n : Int) < 1 := by omega
  have h8' : ¬ (8 : Int) < n := by omega
  cases hnb : nameB N
  · rw [hnb] at HN
    clear hnb
    go_enter Tryd.func15, Tryd.ntmps15
    go_wp2_with fail
    refine (HN.out _).mono ?_
    rintro e w2 ⟨rfl, rfl⟩
    go_wp2_with fail
    go_ret
    exact ⟨⟨_, rfl⟩, K0.out⟩
  rw [hnb] at HN
  clear hnb
  by_cases k1 : K < 1
  · go_enter Tryd.func15, Tryd.ntmps15
    go_wp2_with fail
    refine (HN.out _).mono ?_
    rintro e w2 ⟨rfl, rfl⟩
    go_wp2_with fail
    go_ret
    exact ⟨⟨_, rfl⟩, K0.out⟩
  by_cases k2 : (n : Int) < K
  · go_enter Tryd.func15, Tryd.ntmps15
    go_wp2_with fail
    refine (HN.out _).mono ?_
    rintro e w2 ⟨rfl, rfl⟩
    go_wp2_with fail
    go_ret
    exact ⟨⟨_, rfl⟩, K0.out⟩
  go_enter Tryd.func15, Tryd.ntmps15
  go_wp2_with fail
  refine (HN.out _).mono ?_
  rintro e w2 ⟨rfl, rfl⟩
  go_wp2_with fail
  go_loopw [45] (fun i wr => ∃ (k : Nat), i = .int .i64 k ∧ k ≤ n ∧ Hid (w0.grownBy wr none)) (fun i _ => n - (intOf i).toNat)
  case atStart => exact ⟨0, rfl, by omega, Lib.hid (by rw [hw0]; exact grown_refl6 _ _)⟩
  case round =>
    obtain ⟨k, rfl, hk, KR⟩ := hrel
    by_cases hlt : k < n
    · obtain ⟨b, off, rfl, _, c0, c1, c2⟩ := (H.out.keep (K0.out.trans (by rw [← hw0]; exact KR.out)) (by simp)).at (i := k) (by rw [← Hn.out]; exact hlt)
      have HX := Lib.hid (HNc.out k hlt)
      generalize l.getD k default = x at *
      obtain ⟨xn, xk, xb⟩ := x
      simp only at c0 c1 c2 HX
      obtain ⟨d0, d1, d2⟩ := D0.out wr (by rw [← hw0]; exact KR.out)
      have d1' : ∀ o, (wr.alloc o).cell? ⟨w.heap.size, 1, none⟩ = some (.slice (some ⟨b, off, none⟩) n ccap) := fun o => (World.grownBy_alloc wr o none).cell d1 (by simp)
      have d2' : ∀ o, (wr.alloc o).cell? ⟨w.heap.size, 2, none⟩ = some (.int .i64 K) := fun o => (World.grownBy_alloc wr o none).cell d2 (by simp)
      have KA1 := Lib.hid (fun o => KR.out.trans (World.grownBy_alloc wr o none))
      have KA := Lib.hid (show ∀ o, w.grownBy (wr.alloc o) none from fun o => K0.out.trans (by rw [← hw0]; exact KA1.out o))
      have hend : ∀ o, (∃ c, Ending.returned (.int .i64 2) = .returned (.int .i64 c)) ∧ w.grownBy (wr.alloc o) none := fun o => ⟨⟨_, rfl⟩, KA.out o⟩
      have j0 : (k : Int) ≤ ccap := by omega
      cases hx : nameB xn
      · rw [hx] at HX
        clear hx
        go_wp2_with fail
        refine (HX.out _).mono ?_
        rintro e w2 ⟨rfl, rfl⟩
        go_wp2_with fail
        go_ret
        exact hend _
      rw [hx] at HX
      clear hx
      by_cases q1 : xk < 1
      · go_wp2_with fail
        refine (HX.out _).mono ?_
        rintro e w2 ⟨rfl, rfl⟩
        go_wp2_with fail
        go_ret
        exact hend _
      by_cases q3 : 3 < xk
      · go_wp2_with fail
        refine (HX.out _).mono ?_
        rintro e w2 ⟨rfl, rfl⟩
        go_wp2_with fail
        go_ret
        exact hend _
      by_cases qk : (k : Int) < K
      · cases xb
        · go_wp2_with fail
          refine (HX.out _).mono ?_
          rintro e w2 ⟨rfl, rfl⟩
          go_wp2_with fail
          go_roundw
          case rel => exact ⟨k + 1, by go_num, by omega, Lib.hid (KA1.out _)⟩
          case measure => simp [intOf]; omega
        · go_wp2_with fail
          refine (HX.out _).mono ?_
          rintro e w2 ⟨rfl, rfl⟩
          go_wp2_with fail
          go_ret
          exact hend _
      · go_wp2_with fail
        refine (HX.out _).mono ?_
        rintro e w2 ⟨rfl, rfl⟩
        go_wp2_with fail
        go_roundw
        case rel => exact ⟨k + 1, by go_num, by omega, Lib.hid (KA1.out _)⟩
        case measure => simp [intOf]; omega
    · obtain rfl : n = k := by omega
      clear HN HNc
      generalize wr = wa at *
      have D1 := Lib.hid (fun (W : World) (hW : wa.grownBy W none) => D0.out W (by rw [← hw0]; exact KR.out.trans hW))
      have KW := Lib.hid (show w.grownBy wa none from K0.out.trans (by rw [← hw0]; exact KR.out))
      clear D0 HB K0 KR
      obtain ⟨d0, d1, d2⟩ := D1.out wa (grown_refl6 _ _)
      clear hk hlt h1 h8 k2
      go_wp2_with fail
      go_loopw [80] (fun i wr2 => i = .int .i64 0 ∧ wa = wr2) (fun i _ => 0)
      case atStart => exact ⟨rfl, rfl⟩
      case round =>
        obtain ⟨rfl, rfl⟩ := hrel
        go_wp2_with fail
        go_loopw [95] (fun i wr2 => ∃ (k : Nat), i = .int .i64 k ∧ k ≤ n ∧ Hid (wa.grownBy wr2 none)) (fun i _ => n - (intOf i).toNat)
        case atStart => exact ⟨0, rfl, by omega, Lib.hid (grown_refl6 _ _)⟩
        case round =>
          obtain ⟨k, rfl, hk, KR⟩ := hrel
          clear d0 d1 d2
          by_cases hlt : k < n
          · go_wp2_with fail
            go_loopw [9] (fun i wr2 => ∃ (j : Nat), i = .int .i64 j ∧ j ≤ k ∧ Hid (wa.grownBy wr2 none)) (fun i _ => k - (intOf i).toNat)
            case atStart => exact ⟨0, rfl, by omega, KR⟩
            case round =>
              obtain ⟨j, rfl, hj, KJ⟩ := hrel
              obtain ⟨d0, d1, d2⟩ := D1.out _ KJ.out
              by_cases hjk : j < k
              · obtain ⟨b, off, rfl, _, c0, c1, c2⟩ := (H.out.keep (KW.out.trans KJ.out) (by simp)).at (i := k) (by rw [← Hn.out]; exact hlt)
                obtain ⟨b', off', e, _, e0, e1, e2⟩ := (H.out.keep (KW.out.trans KJ.out) (by simp)).at (i := j) (by rw [← Hn.out]; omega)
                obtain ⟨rfl, rfl⟩ : b = b' ∧ off = off' := by cases e; exact ⟨rfl, rfl⟩
                clear e
                generalize l.getD k default = x at *
                generalize l.getD j default = y at *
                obtain ⟨xn, xk, xb⟩ := x
                obtain ⟨yn, yk, yb⟩ := y
                simp only at c0 c1 c2 e0 e1 e2
                have j0 : (k : Int) ≤ ccap := by omega
                have j1 : (j : Int) < n := by omega
                clear c1 c2 e1 e2
                cases he : (yn.toList == xn.toList)
                · go_wp2_with fail
                  go_quiet (fail)
                  go_wp2_with fail
                  go_roundw
                  case rel => exact ⟨j + 1, by go_num, by omega, Lib.hid (grown_drewN6 KJ.out _)⟩
                  case measure => simp [intOf]; omega
                · go_wp2_with fail
                  go_quiet (fail)
                  go_wp2_with fail
                  go_ret
                  exact ⟨⟨_, rfl⟩, KW.out.trans (grown_drewN6 KJ.out _)⟩
              · obtain rfl : j = k := by omega
                go_wp2_with fail
                go_roundw
                case rel => exact ⟨j + 1, by go_num, by omega, KJ⟩
                case measure => simp [intOf]; omega
          · obtain rfl : n = k := by omega
            obtain ⟨d0, d1, d2⟩ := D1.out _ KR.out
            go_wp2_with fail
            go_ret
            exact ⟨⟨_, rfl⟩, KW.out.trans KR.out⟩
end Go.Proofs.YtampkmmfkdekaaaDoor
