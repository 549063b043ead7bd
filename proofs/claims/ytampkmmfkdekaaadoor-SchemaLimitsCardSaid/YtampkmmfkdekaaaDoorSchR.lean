/- The contracts of schema's review and Check at tables that are a catalog. -/
import Derived.Test.YtampkmmfkdekaaaDoorSchW
namespace Go.Proofs.YtampkmmfkdekaaaDoor
open Go.RowKit

/-- A table that is right, as the i-th of a list. -/
structure TabGood (l : List Tb) (i : Nat) (t : Tb) : Prop where
  six : i < 6
  one : 1 ≤ t.l.length
  eight : t.l.length ≤ 8
  name : nameB t.n = true
  k1 : 1 ≤ t.k
  k2 : t.k ≤ t.l.length
  cols : ∀ j, j < t.l.length → colGood t.k j (t.l.getD j default)
  apart : ∀ j, j < i → ((l.getD j default).n.toList == t.n.toList) = false
  once : ∀ i, i < t.l.length → ∀ j, j < i → ((t.l.getD j default).n.toList == (t.l.getD i default).n.toList) = false
  room : t.l.length ≤ t.cap
theorem TabsAt.pre {B : Nat} {w : World} {a : Option Addr} {l : List Tb} (h : TabsAt B w a l) {k : Nat} (hk : k ≤ l.length) : TabsAt B w a (l.take k) := by
  refine ⟨by rw [List.length_take]; have := h.1; omega, fun t ht => h.2.1 t (List.mem_of_mem_take ht), ?_⟩
  rcases h.2.2 with h0 | ⟨b, off, e, hlt, hc⟩
  · exact .inl (by rw [h0]; simp)
  · refine .inr ⟨b, off, e, hlt, fun i hi => ?_⟩
    rw [List.length_take] at hi
    have e : (l.take k).getD i default = l.getD i default := by simp [List.getD, show i < k by omega]
    rw [e]
    exact hc i (by omega)
theorem tb_mem {l : List Tb} {i : Nat} (hi : i < l.length) : l.getD i default ∈ l := by simp [List.getD, hi]
set_option maxRecDepth 100000 in
set_option maxHeartbeats 3200000 in
theorem review_ok (a : Option Addr) (cap : Nat) (l : List Tb) (w : World) (h : TabsAt w.heap.size w a l) (hcap : l.length ≤ cap) (hg : ∀ i, i < l.length → TabGood l i (l.getD i default)) :
    Calls Tryd.prog 14 #[.slice a l.length cap] w fun e w' => e = .returned .nilIface ∧ w.grownBy w' none := by
  have HF := Lib.hid (fun k (hk : k < l.length) W => full_ok k (l.getD k default).l.length (l.getD k default).cap (l.getD k default).n (l.getD k default).a (l.getD k default).k W (hg k hk).six (hg k hk).one (hg k hk).eight)
  have HM := Lib.hid (fun k (hk : k < l.length) W (hW : w.grownBy W none) => malformed_ok (l.getD k default).a (l.getD k default).cap (l.getD k default).l (l.getD k default).n (l.getD k default).k W (((h.2.1 _ (tb_mem hk)).keep hW (by simp)).mono hW.size) (hg k hk).name (hg k hk).k1 (hg k hk).k2 (hg k hk).cols)
  have HW : Hid (∀ k, k < l.length → ∀ W, w.grownBy W none → Calls Tryd.prog 23 #[.slice a k cap, .agg #[.string (l.getD k default).n, .slice (l.getD k default).a (l.getD k default).l.length (l.getD k default).cap, .int .i64 (l.getD k default).k]] W fun e w' => e = .returned .nilIface ∧ W.grownBy w' none) := Lib.hid fun k hk W hW => by
    have hl : (l.take k).length = k := by rw [List.length_take]; omega
    have := twice_ok a (l.getD k default).a cap (l.getD k default).cap (l.take k) (l.getD k default).l (l.getD k default).n (l.getD k default).k W (((h.keep hW (by simp)).mono hW.size).pre (by omega)) (((h.2.1 _ (tb_mem hk)).keep hW (by simp)).mono hW.size) (hg k hk).room (fun i hi => by
      rw [hl] at hi
      have e : (l.take k).getD i default = l.getD i default := by simp [List.getD, hi]
      rw [e]; exact (hg k hk).apart i hi) (hg k hk).once
    rw [hl] at this
    exact this
  have H := Lib.hid h
  have hlen := h.1
  obtain ⟨n, hn⟩ : ∃ n, n = l.length := ⟨_, rfl⟩
  have Hn := Lib.hid hn
  rw [← hn] at hlen hcap HF HM HW ⊢
  clear h hg hn
  go_enter Tryd.func14, Tryd.ntmps14
  go_wp2_with fail
  go_loopw [10] (fun i wr => ∃ (k : Nat), i = .int .i64 k ∧ k ≤ n ∧ Hid (w.grownBy wr none)) (fun i _ => n - (intOf i).toNat)
  case atStart => exact ⟨0, rfl, by omega, Lib.hid (grown_refl6 _ _)⟩
  case round =>
    obtain ⟨k, rfl, hk, KR⟩ := hrel
    by_cases hlt : k < n
    · obtain ⟨b, off, rfl, _, c0, c1, c2⟩ := (H.out.keep KR.out (by simp)).at (i := k) (by rw [← Hn.out]; exact hlt)
      have HF1 := Lib.hid (HF.out k hlt)
      have HM1 := Lib.hid (HM.out k hlt)
      have HW1 := Lib.hid (HW.out k hlt)
      generalize l.getD k default = x at *
      obtain ⟨xn, xa, xc, xl, xk⟩ := x
      simp only at c0 c1 c2 HF1 HM1 HW1
      generalize xl.length = xm at *
      have bx := Lib.hid (box3_new6 wr (.string xn) (.slice xa xm xc) (.int .i64 xk) 24)
      have KA := Lib.hid (KR.out.trans (World.grownBy_alloc wr (.cells #[.string xn, .slice xa xm xc, .int .i64 xk] 24) none))
      have j0 : (k : Int) ≤ cap := by omega
      go_wp2_with fail
      refine (HF1.out _).mono ?_
      rintro e w2 ⟨rfl, hg⟩
      have K2 := Lib.hid (KA.out.trans hg)
      have d0 := hg.cell bx.out.1 (by simp)
      have d1 := hg.cell bx.out.2.1 (by simp)
      have d2 := hg.cell bx.out.2.2 (by simp)
      have B2 := Lib.hid (And.intro d0 (And.intro d1 d2))
      clear hg
      go_wp2_with fail
      refine (HM1.out _ K2.out).mono ?_
      rintro e w3 ⟨rfl, hg⟩
      have K3 := Lib.hid (K2.out.trans hg)
      have e0 := hg.cell B2.out.1 (by simp)
      have e1 := hg.cell B2.out.2.1 (by simp)
      have e2 := hg.cell B2.out.2.2 (by simp)
      clear hg d0 d1 d2 c0 c1 c2
      go_wp2_with fail
      go_region_with (go_at_call 23; (with_reducible refine (HW1.out _ (by first | exact K3.out | exact grown_drew6 K3.out)).mono ?_); rintro e w4 ⟨rfl, hg4⟩; have K4 := Lib.hid hg4)
      all_goals
        go_wp2_with fail
        go_roundw
        case rel => exact ⟨k + 1, by go_num, by omega, Lib.hid ((grown_drew6 K3.out).trans K4.out)⟩
        case measure => simp [intOf]; omega
    · obtain rfl : k = n := by omega
      go_wp2_with fail
      go_ret
      exact ⟨rfl, KR.out⟩
set_option maxHeartbeats 1600000 in
theorem as_nil (t : TypeId) (v : Value) (w : World) : Calls Tryd.prog 13 #[.nilIface, .iface t v] w fun e w' => e = .returned (.bool false) ∧ w = w' := by
  go_enter Tryd.func13, Tryd.ntmps13
  go_wp2_with fail
  go_ret
  exact ⟨rfl, rfl⟩
set_option maxHeartbeats 1600000 in
theorem check_ok (a : Option Addr) (cap : Nat) (l : List Tb) (w : World) (h : TabsAt w.heap.size w a l) (hcap : l.length ≤ cap) (hg : ∀ i, i < l.length → TabGood l i (l.getD i default)) :
    Calls Tryd.prog 9 #[.slice a l.length cap] w fun e w' => e = .returned (.tuple #[.int .i64 0, .int .i64 0]) ∧ w.grownBy w' none := by
  have HR := Lib.hid (fun W (hW : w.grownBy W none) => review_ok a cap l W ((h.keep hW (by simp)).mono hW.size) hcap hg)
  have HA := Lib.hid as_nil
  generalize l.length = n at *
  clear h hcap hg
  go_enter Tryd.func9, Tryd.ntmps9
  go_wp2_with fail
  refine (HR.out _ (World.grownBy_alloc _ _ _)).mono ?_
  rintro e w2 ⟨rfl, hg⟩
  have K2 := Lib.hid ((World.grownBy_alloc w _ none).trans hg)
  clear hg
  go_wp2_with fail
  refine (HA.out _ _ _).mono ?_
  rintro e w3 ⟨rfl, rfl⟩
  go_wp2_with fail
  go_ret2
  exact ⟨rfl, K2.out⟩
end Go.Proofs.YtampkmmfkdekaaaDoor
