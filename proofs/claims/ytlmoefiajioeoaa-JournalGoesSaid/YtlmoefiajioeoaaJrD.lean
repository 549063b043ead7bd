/- The journal's Cut and Since. -/
import Derived.Test.YtlmoefiajioeoaaJrC
namespace Go.Proofs.Ytlmoefiajioeoaa
open Go.RowKit

theorem JAt.drewN {B J : Nat} {w : World} {room en : Int} {n : Nat} (h : JAt B J w room en n) (k : Nat) : JAt B J (w.drewN k) room en n := h.keep (grown_drewNT (grown_reflT w none) k)
theorem Jn.drewN {J : Nat} {w : World} {room en : Int} {a : Option Addr} {n cap : Nat} (h : Jn J w room en a n cap) (k : Nat) : Jn J (w.drewN k) room en a n cap := h
set_option maxHeartbeats 1600000 in
theorem cut_any (B J : Nat) (w : World) (room en v : Int) (n q : Nat) (h : JAt B J w room en n) (he : 0 ≤ en) (he2 : en ≤ 1099511627776) (hn : n ≤ 1000000) (hv : v ≤ en) (hq : (q : Int) = min (n : Int) (en - v)) :
    Calls Try.prog 23 #[.pointer (some ⟨J, 0, none⟩), .int .i64 v] w fun e w' => e = .returned (.int .i64 0) ∧ JAt B J w' room en q ∧ Below B w w' := by
  have HJ := Lib.hid h
  obtain ⟨hB, a, cap, hj, hp⟩ := h
  obtain ⟨c0, c1, c2, f0, f1, f2⟩ := hj.cells
  have HH := Lib.hid (fun W (hW : w.grownBy W none) => horizon_any J W room en a n cap (hj.keep hW (by simp)) he he2 hn)
  have HH0 := Lib.hid (horizon_any J w room en a n cap hj he he2 hn)
  obtain ⟨d, hd⟩ : ∃ d : Int, d = max v (en - n) - (en - n) := ⟨_, rfl⟩
  have HD := Lib.hid (fun W (hW : w.grownBy W none) => drop_any B J W room en n d (HJ.out.keep hW) (by omega) hn)
  have Hq := Lib.hid (show n - d.toNat = q by omega)
  have e1 : IntKind.i64.wrap (max v (en - n) - (en - n)) = d := by rw [IntKind.wrap_i64]; omega
  have hv' : ¬ en < v := by omega
  clear hj hp c0 c2 f0 f1 f2 he he2 hn hv hq hd
  go_enter Try.func23, Try.ntmps23
  go_wp2_with fail
  refine HH0.out.mono ?_
  rintro e w1 ⟨rfl, k1, rfl⟩
  go_wp2_with fail
  refine (HH.out _ (grown_drewNT (grown_reflT w none) _)).mono ?_
  rintro e w1 ⟨rfl, k2, rfl⟩
  go_wp2_with fail
  refine (HD.out _ (grown_drewNT (grown_reflT w none) _)).mono ?_
  rintro e w1 ⟨rfl, hj1, hb1⟩
  have H1 := Lib.hid (And.intro hj1 hb1)
  clear hj1 hb1
  go_wp2_with fail
  go_ret
  exact ⟨rfl, by rw [← Hq.out]; exact H1.out.1, ⟨H1.out.2.os, H1.out.2.tape, H1.out.2.output, H1.out.2.size, H1.out.2.block⟩⟩
set_option maxHeartbeats 1600000 in
theorem since_gone (J : Nat) (w : World) (room en v : Int) (a : Option Addr) (n cap : Nat) (hj : Jn J w room en a n cap) (he : 0 ≤ en) (he2 : en ≤ 1099511627776) (hn : n ≤ 1000000) (hv : v < en - n) :
    Calls Try.prog 26 #[.pointer (some ⟨J, 0, none⟩), .int .i64 v] w fun e w' => e = .returned (.tuple #[.slice none 0 0, .int .i64 25]) ∧ w.grownBy w' none := by
  obtain ⟨c0, c1, c2, f0, f1, f2⟩ := hj.cells
  have HH0 := Lib.hid (horizon_any J w room en a n cap hj he he2 hn)
  have hv' : ¬ en < v := by omega
  clear hj c0 c2 f0 f1 f2 he he2 hn
  go_enter Try.func26, Try.ntmps26
  go_wp2_with fail
  refine HH0.out.mono ?_
  rintro e w1 ⟨rfl, k1, rfl⟩
  go_wp2_with fail
  go_ret2
  exact ⟨rfl, grown_drewNT (grown_reflT w none) _⟩
set_option maxHeartbeats 3200000 in
theorem since_any (B J : Nat) (w : World) (room en v : Int) (n m : Nat) (h : JAt B J w room en n) (he : 0 ≤ en) (he2 : en ≤ 1099511627776) (hn : n ≤ 1000000) (hv : en - n ≤ v) (hm : (m : Int) = en - v) :
    Calls Try.prog 26 #[.pointer (some ⟨J, 0, none⟩), .int .i64 v] w fun e w' => (∃ ao co, e = .returned (.tuple #[.slice ao m co, .int .i64 0]) ∧ w'.ownsRow w.heap.size 57 2 (.slice ao m co) m (cmL v m)) ∧ w.grownBy w' none := by
  obtain ⟨hB, a, cap, hj, hp⟩ := h
  obtain ⟨c0, c1, c2, f0, f1, f2⟩ := hj.cells
  have HH0 := Lib.hid (horizon_any J w room en a n cap hj he he2 hn)
  have HH := Lib.hid (fun W (hW : w.grownBy W none) => horizon_any J W room en a n cap (hj.keep hW (by simp)) he he2 hn)
  obtain ⟨d, hd⟩ : ∃ d : Nat, (d : Int) = v - (en - n) := ⟨(v - (en - n)).toNat, by omega⟩
  have e1 : IntKind.i64.wrap (v - (en - n)) = d := by rw [IntKind.wrap_i64]; omega
  have hv' : ¬ en < v := by omega
  have hv2 : ¬ v < en - n := by omega
  have hdn : d + m = n := by omega
  have hncap := hp.1
  have hcmx := hp.2.1
  have D := Lib.hid (And.intro hp (And.intro hd hn))
  clear hj hp c0 f0 f1 f2 he he2 hn hv hd hm
  go_enter Try.func26, Try.ntmps26
  go_wp2_with fail
  refine HH0.out.mono ?_
  rintro e w1 ⟨rfl, k1, rfl⟩
  go_wp2_with fail
  have hgw : w.grownBy (w.drewN k1) none := grown_drewNT (grown_reflT w none) _
  have c2' := hgw.cell c2 (by simp)
  have G1 := Lib.hid hgw
  generalize w.drewN k1 = w1 at *
  clear hgw c1 c2 HH0
  go_cut [29, 30, 31] (fun s29 s30 s31 wx => ∃ x cc, s29 = .slice x m cc ∧ s30 = .int .i64 m ∧ s31 = .int .i64 0 ∧ m ≤ cc ∧ Hid (w.grownBy wx none ∧ (0 < m → ∃ g off, a = some ⟨g, off, none⟩ ∧ x = some ⟨g, off + d * 2, none⟩)))
  case first =>
    have i0 : (0 : Int) ≤ d := by omega
    have i1 : (d : Int) ≤ n := by omega
    have i2 : (n : Int) ≤ cap := by omega
    have hnm : n - d = m := by omega
    have Q := Lib.hid (fun k => HH.out (w1.drewN k) (grown_drewNT G1.out k))
    have HX := Lib.hid (fun (_ : 0 < m) => D.out.1.at (by omega))
    have hmc : m ≤ cap - d := by omega
    by_cases hcd : cap = d
    · have hz : (cap = d) = True := by simp [hcd]
      have hm0 : ¬ 0 < m := by omega
      clear hcd
      cases a with
      | none =>
        go_quiet ((go_at_call 24; with_reducible exact Calls.quiet_of (Q.out _)))
        go_wp2_with fail
        go_meet
        exact ⟨_, cap - d, rfl, rfl, rfl, hmc, Lib.hid ⟨grown_drewNT G1.out _, fun h => absurd h hm0⟩⟩
      | some ad =>
        go_quiet ((go_at_call 24; with_reducible exact Calls.quiet_of (Q.out _)))
        go_wp2_with fail
        go_meet
        exact ⟨_, cap - d, rfl, rfl, rfl, hmc, Lib.hid ⟨grown_drewNT G1.out _, fun h => absurd h hm0⟩⟩
    · have hz : (cap = d) = False := by simp [hcd]
      obtain ⟨g, off, ha, _⟩ := D.out.1.at (by omega)
      subst ha
      clear hcd
      go_quiet ((go_at_call 24; with_reducible exact Calls.quiet_of (Q.out _)))
      go_wp2_with fail
      go_meet
      exact ⟨some ⟨g, off + d * 2, none⟩, cap - d, rfl, rfl, rfl, hmc, Lib.hid ⟨grown_drewNT G1.out _, fun _ => ⟨g, off, rfl, rfl⟩⟩⟩
  case rest =>
  obtain ⟨x, cc, rfl, rfl, rfl, hmcc, I⟩ := hcut
  have hmn : m ≤ 1000000 := by have := D.out.2.2; omega
  have hd1 := D.out.2.1
  obtain ⟨i0, hi, hz0, hz1, hz2⟩ := info_partsT com_info
  have HC := Lib.hid (fun W (hW : w.grownBy W none) q (hq : q < m) g off (ha : a = some ⟨g, off, none⟩) => show W.cell? ⟨g, off + d * 2 + q * 2, none⟩ = some (.int .i64 (v + 1 + q)) ∧ W.cell? ⟨g, off + d * 2 + q * 2 + 1, none⟩ = some (.slice none 0 0) by
    obtain ⟨g', off', e, _, _, _, _, _, hc⟩ := D.out.1.at (by omega)
    rw [ha] at e
    cases e
    have h := hc (d + q) (by omega)
    rw [show off + (d + q) * 2 = off + d * 2 + q * 2 by omega, show en - (n : Int) + 1 + ((d + q : Nat) : Int) = v + 1 + q by omega] at h
    exact ⟨hW.cell h.1 (by simp), hW.cell h.2 (by simp)⟩)
  clear hd1 hdn hncap hcmx hv' hv2 e1 c2'
  go_wp2_with fail
  go_loopw [6, 31] (fun s i wr => ∃ (ao : Option Addr) (q co : Nat), s = .slice ao q co ∧ i = .int .i64 q ∧ q ≤ m ∧ Hid (wr.ownsRow w.heap.size 57 2 (.slice ao q co) q (cmL v q) ∧ w.grownBy wr none)) (fun _ i _ => m - (intOf i).toNat)
  case atStart => exact ⟨none, 0, 0, rfl, rfl, by omega, Lib.hid ⟨World.ownsRow_nil _ _ _ _, I.out.1⟩⟩
  case round =>
    obtain ⟨ao, q, co, rfl, rfl, hq, K⟩ := hrel
    by_cases hlt : q < m
    · obtain ⟨hown, hgr⟩ := K.out
      obtain ⟨g, off, ha, hx⟩ := I.out.2 (by omega)
      subst hx
      obtain ⟨c0, c1⟩ := HC.out wr hgr q hlt g off ha
      have O0 := Lib.hid hown
      have G0 := Lib.hid hgr
      have hB : w.heap.size ≤ wr.heap.size := hgr.size
      have j1 : (q : Int) < m := by omega
      have j2 : (0 : Int) ≤ (q : Int) := Int.natCast_nonneg _
      clear hown hgr K ha
      go_wp2_with fail
      refine (copied_any (v + 1 + q) _).mono ?_
      rintro e w2 ⟨rfl, hg2⟩
      have G2 := Lib.hid ((World.grownBy_alloc wr (cC (v + 1 + q)) none).trans hg2)
      have O2 := Lib.hid (World.ownsRow.kept O0.out G2.out (by cases (Value.slice ao q co).ownBlock <;> simp))
      have hB2 : w.heap.size ≤ w2.heap.size := Nat.le_trans hB G2.out.size
      clear hg2 c0 c1
      go_wp2_with (at_builtin; refine wpList_append_lies _ rfl _ _ 61 rfl w.heap.size 57 i0 (.agg #[.int .i64 0, .slice none 0 0]) 2 32 Try.underlying61 hi hz0 hz1 hz2 rfl (by decide) (.slice ao q co) q (cmL v q) rfl (World.ownsRow.alloc O2.out _) ⟨w2.heap.size, 0, none⟩ 1 1 [.int .i64 (v + 1 + q), .slice none 0 0] rfl rfl (World.news_of_block (heap_alloc_new w2 _)) (by intro u hu; simp only [List.mem_cons, List.not_mem_nil, or_false] at hu; rcases hu with rfl | rfl <;> rfl) (by decide) (by unfold maxLen; omega) (by omega) (by simp; omega) _ rfl ?_)
      intro g2 cp w4 hown4 hgrow4 hgb hg4
      have E4 := Lib.hid (And.intro hown4 hgrow4)
      clear hown4 hgrow4 hgb hg4
      go_wp2_with fail
      go_roundw
      case rel =>
        refine ⟨some ⟨g2, 0, none⟩, q + 1, cp, rfl, by go_num, by omega, Lib.hid ⟨E4.out.1, grown_thenT ((G0.out.trans G2.out).trans (World.grownBy_alloc w2 (cC (v + 1 + q)) none)) E4.out.2 (fun b hb => (World.ownsRow.lt O0.out b hb).1)⟩⟩
      case measure => simp [intOf]; omega
    · obtain rfl : q = m := by omega
      go_wp2_with fail
      go_ret2
      exact ⟨⟨ao, co, rfl, K.out.1⟩, K.out.2⟩
end Go.Proofs.Ytlmoefiajioeoaa
