/- What schema's review answers where the tables ahead of one are right, and that one isn't. -/
import Derived.Test.YtampkmmfkdekaaaDoorSchE
namespace Go.Proofs.YtampkmmfkdekaaaDoor
open Go.RowKit

set_option maxRecDepth 100000 in
set_option maxHeartbeats 3200000 in
theorem review_full (a : Option Addr) (cap : Nat) (l : List Tb) (w : World) (h : TabsAt w.heap.size w a l) (hcap : l.length ≤ cap) (b9 : Nat) (hb : b9 < l.length) (hg : ∀ i, i < b9 → TabGood l i (l.getD i default)) (ty : TypeId) (p : Value) (HB0 : ∀ W, w.grownBy W none → Calls Tryd.prog 21 #[.int .i64 b9, .agg #[.string (l.getD b9 default).n, .slice (l.getD b9 default).a (l.getD b9 default).l.length (l.getD b9 default).cap, .int .i64 (l.getD b9 default).k]] W fun e w' => e = .returned (.iface ty p) ∧ W.grownBy w' none) :
    Calls Tryd.prog 14 #[.slice a l.length cap] w fun e w' => e = .returned (.iface 53 (.agg #[.int .i64 b9, .int .i64 3, .iface ty p])) ∧ w.grownBy w' none := by
  have HB := Lib.hid HB0
  have HF := Lib.hid (fun k (hk : k < b9) W => full_ok k (l.getD k default).l.length (l.getD k default).cap (l.getD k default).n (l.getD k default).a (l.getD k default).k W (hg k hk).six (hg k hk).one (hg k hk).eight)
  have HM := Lib.hid (fun k (hk : k < b9) W (hW : w.grownBy W none) => malformed_ok (l.getD k default).a (l.getD k default).cap (l.getD k default).l (l.getD k default).n (l.getD k default).k W (((h.2.1 _ (tb_mem (Nat.lt_trans hk hb))).keep hW (by simp)).mono hW.size) (hg k hk).name (hg k hk).k1 (hg k hk).k2 (hg k hk).cols)
  have HW : Hid (∀ k, k < b9 → ∀ W, w.grownBy W none → Calls Tryd.prog 23 #[.slice a k cap, .agg #[.string (l.getD k default).n, .slice (l.getD k default).a (l.getD k default).l.length (l.getD k default).cap, .int .i64 (l.getD k default).k]] W fun e w' => e = .returned .nilIface ∧ W.grownBy w' none) := Lib.hid fun k hk W hW => by
    have hl : (l.take k).length = k := by rw [List.length_take]; omega
    have := twice_ok a (l.getD k default).a cap (l.getD k default).cap (l.take k) (l.getD k default).l (l.getD k default).n (l.getD k default).k W (((h.keep hW (by simp)).mono hW.size).pre (by omega)) (((h.2.1 _ (tb_mem (Nat.lt_trans hk hb))).keep hW (by simp)).mono hW.size) (hg k hk).room (fun i hi => by
      rw [hl] at hi
      have e : (l.take k).getD i default = l.getD i default := by simp [List.getD, hi]
      rw [e]; exact (hg k hk).apart i hi) (hg k hk).once
    rw [hl] at this
    exact this
  have H := Lib.hid h
  have hlen := h.1
  obtain ⟨n, hn⟩ : ∃ n, n = l.length := ⟨_, rfl⟩
  have Hn := Lib.hid hn
  rw [← hn] at hlen hcap hb ⊢
  clear h hg hn HB0
  go_enter Tryd.func14, Tryd.ntmps14
  go_wp2_with fail
  go_loopw [10] (fun i wr => ∃ (k : Nat), i = .int .i64 k ∧ k ≤ b9 ∧ Hid (w.grownBy wr none)) (fun i _ => b9 - (intOf i).toNat)
  case atStart => exact ⟨0, rfl, by omega, Lib.hid (grown_refl6 _ _)⟩
  case round =>
    obtain ⟨k, rfl, hk, KR⟩ := hrel
    by_cases hlt : k < b9
    · obtain ⟨b, off, rfl, _, c0, c1, c2⟩ := (H.out.keep KR.out (by simp)).at (i := k) (by rw [← Hn.out]; omega)
      have HF1 := Lib.hid (HF.out k hlt)
      have HM1 := Lib.hid (HM.out k hlt)
      have HW1 := Lib.hid (HW.out k hlt)
      generalize l.getD k default = x at *
      obtain ⟨xn, xa, xc, xl, xk⟩ := x
      simp only at c0 c1 c2 HF1 HM1 HW1
      generalize xl.length = xm at *
      have bx := Lib.hid (box3_new6 wr (.string xn) (.slice xa xm xc) (.int .i64 xk) 24)
      have KA := Lib.hid (KR.out.trans (World.grownBy_alloc wr (.cells #[.string xn, .slice xa xm xc, .int .i64 xk] 24) none))
      have j0 : (k : Int) ≤ cap := by omega
      go_wp2_with fail
      refine (HF1.out _).mono ?_
      rintro e w2 ⟨rfl, hg⟩
      have K2 := Lib.hid (KA.out.trans hg)
      have d0 := hg.cell bx.out.1 (by simp)
      have d1 := hg.cell bx.out.2.1 (by simp)
      have d2 := hg.cell bx.out.2.2 (by simp)
      have B2 := Lib.hid (And.intro d0 (And.intro d1 d2))
      clear hg
      go_wp2_with fail
      refine (HM1.out _ K2.out).mono ?_
      rintro e w3 ⟨rfl, hg⟩
      have K3 := Lib.hid (K2.out.trans hg)
      have e0 := hg.cell B2.out.1 (by simp)
      have e1 := hg.cell B2.out.2.1 (by simp)
      have e2 := hg.cell B2.out.2.2 (by simp)
      clear hg d0 d1 d2 c0 c1 c2
      go_wp2_with fail
      go_region_with (go_at_call 23; (with_reducible refine (HW1.out _ (by first | exact K3.out | exact grown_drew6 K3.out)).mono ?_); rintro e w4 ⟨rfl, hg4⟩; have K4 := Lib.hid hg4)
      all_goals
        go_wp2_with fail
        go_roundw
        case rel => exact ⟨k + 1, by go_num, by omega, Lib.hid ((grown_drew6 K3.out).trans K4.out)⟩
        case measure => simp [intOf]; omega
    · obtain rfl : b9 = k := by omega
      obtain ⟨b, off, rfl, _, c0, c1, c2⟩ := (H.out.keep KR.out (by simp)).at (i := b9) (by rw [← Hn.out]; exact hb)
      have HB1 := Lib.hid HB.out
      clear HB HF HM HW
      generalize l.getD b9 default = x at *
      obtain ⟨xn, xa, xc, xl, xk⟩ := x
      simp only at c0 c1 c2 HB1
      generalize xl.length = xm at *
      have bx := Lib.hid (box3_new6 wr (.string xn) (.slice xa xm xc) (.int .i64 xk) 24)
      have KA := Lib.hid (KR.out.trans (World.grownBy_alloc wr (.cells #[.string xn, .slice xa xm xc, .int .i64 xk] 24) none))
      have j0 : (b9 : Int) ≤ cap := by omega
      have j1 : (b9 : Int) < n := by omega
      go_wp2_with fail
      refine (HB1.out _ KA.out).mono ?_
      rintro e w3 ⟨rfl, hg3⟩
      have K3 := Lib.hid (KA.out.trans hg3)
      clear hg3
      go_wp2_with fail
      go_ret
      exact ⟨rfl, K3.out⟩
set_option maxRecDepth 100000 in
set_option maxHeartbeats 3200000 in
theorem review_form (a : Option Addr) (cap : Nat) (l : List Tb) (w : World) (h : TabsAt w.heap.size w a l) (hcap : l.length ≤ cap) (b9 : Nat) (hb : b9 < l.length) (hg : ∀ i, i < b9 → TabGood l i (l.getD i default)) (ty : TypeId) (p : Value) (h1 : b9 < 6) (h2 : 1 ≤ (l.getD b9 default).l.length) (h3 : (l.getD b9 default).l.length ≤ 8) (HB0 : ∀ W, w.grownBy W none → Calls Tryd.prog 22 #[.agg #[.string (l.getD b9 default).n, .slice (l.getD b9 default).a (l.getD b9 default).l.length (l.getD b9 default).cap, .int .i64 (l.getD b9 default).k]] W fun e w' => e = .returned (.iface ty p) ∧ W.grownBy w' none) :
    Calls Tryd.prog 14 #[.slice a l.length cap] w fun e w' => e = .returned (.iface 53 (.agg #[.int .i64 b9, .int .i64 2, .iface ty p])) ∧ w.grownBy w' none := by
  have HB := Lib.hid HB0
  have HFb := Lib.hid (fun W => full_ok b9 (l.getD b9 default).l.length (l.getD b9 default).cap (l.getD b9 default).n (l.getD b9 default).a (l.getD b9 default).k W h1 h2 h3)
  have HF := Lib.hid (fun k (hk : k < b9) W => full_ok k (l.getD k default).l.length (l.getD k default).cap (l.getD k default).n (l.getD k default).a (l.getD k default).k W (hg k hk).six (hg k hk).one (hg k hk).eight)
  have HM := Lib.hid (fun k (hk : k < b9) W (hW : w.grownBy W none) => malformed_ok (l.getD k default).a (l.getD k default).cap (l.getD k default).l (l.getD k default).n (l.getD k default).k W (((h.2.1 _ (tb_mem (Nat.lt_trans hk hb))).keep hW (by simp)).mono hW.size) (hg k hk).name (hg k hk).k1 (hg k hk).k2 (hg k hk).cols)
  have HW : Hid (∀ k, k < b9 → ∀ W, w.grownBy W none → Calls Tryd.prog 23 #[.slice a k cap, .agg #[.string (l.getD k default).n, .slice (l.getD k default).a (l.getD k default).l.length (l.getD k default).cap, .int .i64 (l.getD k default).k]] W fun e w' => e = .returned .nilIface ∧ W.grownBy w' none) := Lib.hid fun k hk W hW => by
    have hl : (l.take k).length = k := by rw [List.length_take]; omega
    have := twice_ok a (l.getD k default).a cap (l.getD k default).cap (l.take k) (l.getD k default).l (l.getD k default).n (l.getD k default).k W (((h.keep hW (by simp)).mono hW.size).pre (by omega)) (((h.2.1 _ (tb_mem (Nat.lt_trans hk hb))).keep hW (by simp)).mono hW.size) (hg k hk).room (fun i hi => by
      rw [hl] at hi
      have e : (l.take k).getD i default = l.getD i default := by simp [List.getD, hi]
      rw [e]; exact (hg k hk).apart i hi) (hg k hk).once
    rw [hl] at this
    exact this
  have H := Lib.hid h
  have hlen := h.1
  obtain ⟨n, hn⟩ : ∃ n, n = l.length := ⟨_, rfl⟩
  have Hn := Lib.hid hn
  rw [← hn] at hlen hcap hb ⊢
  clear h hg hn HB0 h1 h2 h3
  go_enter Tryd.func14, Tryd.ntmps14
  go_wp2_with fail
  go_loopw [10] (fun i wr => ∃ (k : Nat), i = .int .i64 k ∧ k ≤ b9 ∧ Hid (w.grownBy wr none)) (fun i _ => b9 - (intOf i).toNat)
  case atStart => exact ⟨0, rfl, by omega, Lib.hid (grown_refl6 _ _)⟩
  case round =>
    obtain ⟨k, rfl, hk, KR⟩ := hrel
    by_cases hlt : k < b9
    · obtain ⟨b, off, rfl, _, c0, c1, c2⟩ := (H.out.keep KR.out (by simp)).at (i := k) (by rw [← Hn.out]; omega)
      have HF1 := Lib.hid (HF.out k hlt)
      have HM1 := Lib.hid (HM.out k hlt)
      have HW1 := Lib.hid (HW.out k hlt)
      generalize l.getD k default = x at *
      obtain ⟨xn, xa, xc, xl, xk⟩ := x
      simp only at c0 c1 c2 HF1 HM1 HW1
      generalize xl.length = xm at *
      have bx := Lib.hid (box3_new6 wr (.string xn) (.slice xa xm xc) (.int .i64 xk) 24)
      have KA := Lib.hid (KR.out.trans (World.grownBy_alloc wr (.cells #[.string xn, .slice xa xm xc, .int .i64 xk] 24) none))
      have j0 : (k : Int) ≤ cap := by omega
      go_wp2_with fail
      refine (HF1.out _).mono ?_
      rintro e w2 ⟨rfl, hg⟩
      have K2 := Lib.hid (KA.out.trans hg)
      have d0 := hg.cell bx.out.1 (by simp)
      have d1 := hg.cell bx.out.2.1 (by simp)
      have d2 := hg.cell bx.out.2.2 (by simp)
      have B2 := Lib.hid (And.intro d0 (And.intro d1 d2))
      clear hg
      go_wp2_with fail
      refine (HM1.out _ K2.out).mono ?_
      rintro e w3 ⟨rfl, hg⟩
      have K3 := Lib.hid (K2.out.trans hg)
      have e0 := hg.cell B2.out.1 (by simp)
      have e1 := hg.cell B2.out.2.1 (by simp)
      have e2 := hg.cell B2.out.2.2 (by simp)
      clear hg d0 d1 d2 c0 c1 c2
      go_wp2_with fail
      go_region_with (go_at_call 23; (with_reducible refine (HW1.out _ (by first | exact K3.out | exact grown_drew6 K3.out)).mono ?_); rintro e w4 ⟨rfl, hg4⟩; have K4 := Lib.hid hg4)
      all_goals
        go_wp2_with fail
        go_roundw
        case rel => exact ⟨k + 1, by go_num, by omega, Lib.hid ((grown_drew6 K3.out).trans K4.out)⟩
        case measure => simp [intOf]; omega
    · obtain rfl : b9 = k := by omega
      obtain ⟨b, off, rfl, _, c0, c1, c2⟩ := (H.out.keep KR.out (by simp)).at (i := b9) (by rw [← Hn.out]; exact hb)
      have HB1 := Lib.hid HB.out
      clear HB HF HM HW
      generalize l.getD b9 default = x at *
      obtain ⟨xn, xa, xc, xl, xk⟩ := x
      simp only at c0 c1 c2 HB1 HFb
      generalize xl.length = xm at *
      have bx := Lib.hid (box3_new6 wr (.string xn) (.slice xa xm xc) (.int .i64 xk) 24)
      have KA := Lib.hid (KR.out.trans (World.grownBy_alloc wr (.cells #[.string xn, .slice xa xm xc, .int .i64 xk] 24) none))
      have j0 : (b9 : Int) ≤ cap := by omega
      have j1 : (b9 : Int) < n := by omega
      go_wp2_with fail
      refine (HFb.out _).mono ?_
      rintro e w2 ⟨rfl, hg⟩
      have K2 := Lib.hid (KA.out.trans hg)
      have d0 := hg.cell bx.out.1 (by simp)
      have d1 := hg.cell bx.out.2.1 (by simp)
      have d2 := hg.cell bx.out.2.2 (by simp)
      clear hg
      go_wp2_with fail
      refine (HB1.out _ K2.out).mono ?_
      rintro e w3 ⟨rfl, hg3⟩
      have K3 := Lib.hid (K2.out.trans hg3)
      clear hg3
      go_wp2_with fail
      go_ret
      exact ⟨rfl, K3.out⟩
end Go.Proofs.YtampkmmfkdekaaaDoor
