/- The contract of schema's malformed at a table that is well formed. -/
import Derived.Test.YtampkmmfkdekaaaDoorSchC
namespace Go.Proofs.YtampkmmfkdekaaaDoor
open Go.RowKit

def colGood (K : Int) (i : Nat) (c : Cl) : Prop := nameB c.n = true ∧ (c.k = 1 ∨ c.k = 2 ∨ c.k = 3) ∧ ((i : Int) < K → c.b = false)
theorem box3_new6 (w : World) (x y z : Value) (T : TypeId) : (w.alloc (.cells #[x, y, z] T)).cell? ⟨w.heap.size, 0, none⟩ = some x ∧ (w.alloc (.cells #[x, y, z] T)).cell? ⟨w.heap.size, 1, none⟩ = some y ∧ (w.alloc (.cells #[x, y, z] T)).cell? ⟨w.heap.size, 2, none⟩ = some z := by
  have e := heap_alloc_new w (.cells #[x, y, z] T)
  exact ⟨cell_of_row _ _ 0 _ _ _ e, cell_of_row _ _ 1 _ _ _ e, cell_of_row _ _ 2 _ _ _ e⟩
set_option maxRecDepth 100000 in
set_option maxHeartbeats 3200000 in
theorem malformed_ok (a : Option Addr) (cap : Nat) (l : List Cl) (N : ByteArray) (K : Int) (w : World) (h : ColsAt w.heap.size w a l) (hN : nameB N = true) (h1 : 1 ≤ K) (h2 : K ≤ l.length) (hg : ∀ i, i < l.length → colGood K i (l.getD i default)) :
    Calls Tryd.prog 22 #[.agg #[.string N, .slice a l.length cap, .int .i64 K]] w fun e w' => e = .returned .nilIface ∧ w.grownBy w' none := by
  have HN := Lib.hid (fun W => name_any N W)
  rw [hN] at HN
  have HC := Lib.hid (fun M W => name_any M W)
  have H := Lib.hid (h.keep (World.grownBy_alloc w (.cells #[.string N, .slice a l.length cap, .int .i64 K] 24) none) (by simp))
  have HB := Lib.hid (box3_new6 w (.string N) (.slice a l.length cap) (.int .i64 K) 24)
  have HG := Lib.hid hg
  have hlen := h.1
  obtain ⟨n, hn⟩ : ∃ n, n = l.length := ⟨_, rfl⟩
  have Hn := Lib.hid hn
  rw [← hn] at hlen h2 H HB ⊢
  clear h hg hn hN
  have K0 := Lib.hid (World.grownBy_alloc w (.cells #[.string N, .slice a n cap, .int .i64 K] 24) none)
  go_enter Tryd.func22, Tryd.ntmps22
  go_wp2_with fail
  refine (HN.out _).mono ?_
  rintro e w1 ⟨rfl, rfl⟩
  go_wp2_with fail
  go_loopw [25] (fun i wr => ∃ (k : Nat), i = .int .i64 k ∧ k ≤ n ∧ Hid ((w.alloc (.cells #[.string N, .slice a n cap, .int .i64 K] 24)).grownBy wr none)) (fun i _ => n - (intOf i).toNat)
  case atStart => exact ⟨0, rfl, by omega, Lib.hid (grown_refl6 _ _)⟩
  case round =>
    obtain ⟨k, rfl, hk, KR⟩ := hrel
    by_cases hlt : k < n
    · obtain ⟨b, off, rfl, _, c0, c1, c2⟩ := (H.out.keep KR.out (by simp)).at (i := k) (by rw [← Hn.out]; exact hlt)
      obtain ⟨g0, g1, g2⟩ := HB.out
      have d0 := KR.out.cell g0 (by simp)
      have d1 := KR.out.cell g1 (by simp)
      have d2 := KR.out.cell g2 (by simp)
      obtain ⟨q1, q2, q3⟩ := HG.out k (by rw [← Hn.out]; exact hlt)
      obtain ⟨x, hx⟩ : ∃ x, x = l.getD k default := ⟨_, rfl⟩
      rw [← hx] at c0 c1 c2 q1 q2 q3
      obtain ⟨xn, xk, xb⟩ := x
      simp only at c0 c1 c2 q1 q2 q3
      have HX := Lib.hid (fun W => HC.out xn W)
      rw [q1] at HX
      have d2' : ∀ o, (wr.alloc o).cell? ⟨w.heap.size, 2, none⟩ = some (.int .i64 K) := fun o => (World.grownBy_alloc wr o none).cell d2 (by simp)
      clear hx g0 g1 g2 q1
      by_cases hK : (k : Int) < K
      · have hb : xb = false := q3 hK
        subst hb
        clear q3
        rcases q2 with rfl | rfl | rfl
        all_goals
          go_wp2_with fail
          refine (HX.out _).mono ?_
          rintro e w2 ⟨rfl, rfl⟩
          go_wp2_with fail
          go_roundw
          case rel => exact ⟨k + 1, by go_num, by omega, Lib.hid (KR.out.trans (World.grownBy_alloc _ _ _))⟩
          case measure => simp [intOf]; omega
      · have hK' : K ≤ (k : Int) := by omega
        clear q3
        rcases q2 with rfl | rfl | rfl
        all_goals
          go_wp2_with fail
          refine (HX.out _).mono ?_
          rintro e w2 ⟨rfl, rfl⟩
          go_wp2_with fail
          go_roundw
          case rel => exact ⟨k + 1, by go_num, by omega, Lib.hid (KR.out.trans (World.grownBy_alloc _ _ _))⟩
          case measure => simp [intOf]; omega
    · obtain rfl : k = n := by omega
      go_wp2_with fail
      go_ret
      exact ⟨rfl, K0.out.trans KR.out⟩
end Go.Proofs.YtampkmmfkdekaaaDoor
