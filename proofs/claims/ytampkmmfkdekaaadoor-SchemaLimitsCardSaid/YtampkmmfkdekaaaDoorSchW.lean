/- The contract of schema's twice where no name comes twice. -/
import Derived.Test.YtampkmmfkdekaaaDoorSchT
import Derived.Deep.RegionWith
namespace Go.Proofs.YtampkmmfkdekaaaDoor
open Go.RowKit

theorem grown_drew6 {w w' : World} {row : Option Nat} (h : w.grownBy w' row) : w.grownBy w'.drew row := ⟨h.os, h.tape, h.output, h.size, h.block⟩
theorem ColsAt.pre {B : Nat} {w : World} {a : Option Addr} {l : List Cl} (h : ColsAt B w a l) {k : Nat} (hk : k ≤ l.length) : ColsAt B w a (l.take k) := by
  refine ⟨by rw [List.length_take]; have := h.1; omega, ?_⟩
  rcases h.2 with h0 | ⟨b, off, e, hlt, hc⟩
  · exact .inl (by rw [h0]; simp)
  · refine .inr ⟨b, off, e, hlt, fun i hi => ?_⟩
    rw [List.length_take] at hi
    have e : (l.take k).getD i default = l.getD i default := by simp [List.getD, show i < k by omega]
    rw [e]
    exact hc i (by omega)
set_option maxRecDepth 100000 in
set_option maxHeartbeats 3200000 in
theorem twice_ok (a ca : Option Addr) (cap ccap : Nat) (ts : List Tb) (l : List Cl) (N : ByteArray) (K : Int) (w : World) (ht : TabsAt w.heap.size w a ts) (h : ColsAt w.heap.size w ca l) (hcap : l.length ≤ ccap)
    (hd : ∀ i, i < ts.length → ((ts.getD i default).n.toList == N.toList) = false) (hu : ∀ i, i < l.length → ∀ j, j < i → ((l.getD j default).n.toList == (l.getD i default).n.toList) = false) :
    Calls Tryd.prog 23 #[.slice a ts.length cap, .agg #[.string N, .slice ca l.length ccap, .int .i64 K]] w fun e w' => e = .returned .nilIface ∧ w.grownBy w' none := by
  have HT : Hid (∀ W, w.grownBy W none → Calls Tryd.prog 30 #[.slice a ts.length cap, .string N] W fun e w' => e = .returned (.int .i64 (-1)) ∧ W.grownBy w' none) := Lib.hid fun W hW => by
    refine (tableOf_any a cap ts N W ((ht.keep hW (by simp)).mono hW.size)).mono ?_
    rintro e w' ⟨⟨r, rfl, hr⟩, hg⟩
    rcases hr with ⟨rfl, _⟩ | ⟨k, rfl, hk, hm, _⟩
    · exact ⟨rfl, hg⟩
    · rw [hd k hk] at hm; cases hm
  have HC : Hid (∀ k, k < l.length → ∀ W, w.grownBy W none → Calls Tryd.prog 31 #[.slice ca k ccap, .string (l.getD k default).n] W fun e w' => e = .returned (.int .i64 (-1)) ∧ W.grownBy w' none) := Lib.hid fun k hk W hW => by
    have hl : (l.take k).length = k := by rw [List.length_take]; omega
    have hc := columnOf_any ca ccap (l.take k) (l.getD k default).n W ((((h.keep hW (by simp)).mono hW.size).pre (by omega)))
    rw [hl] at hc
    refine hc.mono ?_
    rintro e w' ⟨⟨r, rfl, hr⟩, hg⟩
    rcases hr with ⟨rfl, _⟩ | ⟨j, rfl, hj, hm, _⟩
    · exact ⟨rfl, hg⟩
    · rw [hl] at hj
      have e : (l.take k).getD j default = l.getD j default := by simp [List.getD, hj]
      rw [e, hu k hk j hj] at hm; cases hm
  have H := Lib.hid h
  have HB := Lib.hid (box3_new6 w (.string N) (.slice ca l.length ccap) (.int .i64 K) 24)
  have hlen := h.1
  obtain ⟨n, hn⟩ : ∃ n, n = l.length := ⟨_, rfl⟩
  have Hn := Lib.hid hn
  rw [← hn] at hlen HB hcap HC ⊢
  generalize ts.length = tn at *
  clear h hn ht hd hu
  have K0 := Lib.hid (World.grownBy_alloc w (.cells #[.string N, .slice ca n ccap, .int .i64 K] 24) none)
  go_enter Tryd.func23, Tryd.ntmps23
  go_wp2_with fail
  refine (HT.out _ K0.out).mono ?_
  rintro e w1 ⟨rfl, hg⟩
  have K1 := Lib.hid (K0.out.trans hg)
  obtain ⟨g0, g1, g2⟩ := HB.out
  have d1 := hg.cell g1 (by simp)
  have D1 := Lib.hid (fun (W : World) (hW : w1.grownBy W none) => (hg.trans hW).cell g1 (by simp))
  clear hg g0 g1 g2
  go_wp2_with fail
  clear d1
  go_loopw [16] (fun i wr => ∃ (k : Nat), i = .int .i64 k ∧ k ≤ n ∧ Hid (w1.grownBy wr none)) (fun i _ => n - (intOf i).toNat)
  case atStart => exact ⟨0, rfl, by omega, Lib.hid (grown_refl6 _ _)⟩
  case round =>
    obtain ⟨k, rfl, hk, KR⟩ := hrel
    by_cases hlt : k < n
    · obtain ⟨b, off, rfl, _, c0, c1, c2⟩ := (H.out.keep (K1.out.trans KR.out) (by simp)).at (i := k) (by rw [← Hn.out]; exact hlt)
      have HX := Lib.hid (HC.out k hlt)
      generalize l.getD k default = x at *
      obtain ⟨xn, xk, xb⟩ := x
      simp only at c0 c1 c2 HX
      have d1 : ∀ o, (wr.alloc o).cell? ⟨w.heap.size, 1, none⟩ = some (.slice (some ⟨b, off, none⟩) n ccap) := fun o => D1.out _ (KR.out.trans (World.grownBy_alloc wr o none))
      have KA := Lib.hid (fun o => K1.out.trans (KR.out.trans (World.grownBy_alloc wr o none)))
      have KA1 := Lib.hid (fun o => KR.out.trans (World.grownBy_alloc wr o none))
      have j0 : (k : Int) ≤ ccap := by omega
      go_wp2_with fail
      go_region_with (go_at_call 31; (with_reducible refine (HX.out _ (by first | exact KA.out _ | exact grown_drew6 (KA.out _))).mono ?_); rintro e w3 ⟨rfl, hg3⟩; have K3 := Lib.hid hg3)
      all_goals
        go_wp2_with fail
        go_roundw
        case rel => exact ⟨k + 1, by go_num, by omega, Lib.hid ((grown_drew6 (KA1.out _)).trans K3.out)⟩
        case measure => simp [intOf]; omega
    · obtain rfl : k = n := by omega
      go_wp2_with fail
      go_ret
      exact ⟨rfl, K1.out.trans KR.out⟩
end Go.Proofs.YtampkmmfkdekaaaDoor
