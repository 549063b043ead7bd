/- Contracts of the document's Check at one table, and of the law's Right. -/
import Derived.Test.YtampkmmfkdekaaaDoorSchK
namespace Go.Proofs.YtampkmmfkdekaaaDoor
open Go.RowKit

set_option maxRecDepth 100000 in
set_option maxHeartbeats 6400000 in
theorem refCheck1_any (g : Nat) (ca : Option Addr) (ccap : Nat) (l : List Cl) (N : ByteArray) (K : Int) (w : World) (h : ColsAt w.heap.size w ca l) (hcap : l.length ≤ ccap) (hN : N.size ≤ 9223372036854775807) (hn : ∀ i, i < l.length → (l.getD i default).n.size ≤ 9223372036854775807)
    (c0 : w.cell? ⟨g, 0, none⟩ = some (.string N)) (c1 : w.cell? ⟨g, 1, none⟩ = some (.slice ca l.length ccap)) (c2 : w.cell? ⟨g, 2, none⟩ = some (.int .i64 K)) :
    Calls Tryd.prog 11 #[.slice (some ⟨g, 0, none⟩) 1 1] w fun e w' => (∃ i c, e = .returned (.tuple #[.int .i64 i, .int .i64 c])) ∧ w.grownBy w' none := by
  have HW := Lib.hid (fun (W : World) (hW : w.grownBy W none) => refWrong_any (some ⟨g, 0, none⟩) ca 1 ccap l N K W ((h.keep hW (by simp)).mono hW.size) hcap hN hn)
  have C := Lib.hid (And.intro c0 (And.intro c1 c2))
  generalize l.length = m at *
  clear h hcap hn c0 c1 c2
  go_enter Tryd.func11, Tryd.ntmps11
  go_wp2_with fail
  go_loopw [8] (fun i wr => ∃ (k : Nat), i = .int .i64 k ∧ k ≤ 1 ∧ Hid (w.grownBy wr none)) (fun i _ => 1 - (intOf i).toNat)
  case atStart => exact ⟨0, rfl, by omega, Lib.hid (grown_refl6 _ _)⟩
  case round =>
    obtain ⟨k, rfl, hk, KR⟩ := hrel
    by_cases hlt : k < 1
    · obtain rfl : k = 0 := by omega
      have d0 := KR.out.cell C.out.1 (by simp)
      have d1 := KR.out.cell C.out.2.1 (by simp)
      have d2 := KR.out.cell C.out.2.2 (by simp)
      go_wp2_with fail
      go_region_with (go_at_call 15; (with_reducible refine (HW.out _ (by first | exact KR.out | exact grown_drew6 KR.out)).mono ?_); rintro e w4 ⟨⟨c, rfl⟩, hg4⟩; have K4 := Lib.hid hg4)
      all_goals
        by_cases hc : c = 0
        · subst hc
          go_wp2_with fail
          go_roundw
          case rel => exact ⟨1, rfl, by omega, Lib.hid ((grown_drew6 KR.out).trans K4.out)⟩
          case measure => simp [intOf]
        · have hc' : (c != 0) = true := by simpa using hc
          clear hc
          go_wp2_with fail
          go_ret2
          exact ⟨⟨_, _, rfl⟩, (grown_drew6 KR.out).trans K4.out⟩
    · obtain rfl : k = 1 := by omega
      go_wp2_with fail
      go_ret2
      exact ⟨⟨_, _, rfl⟩, KR.out⟩
set_option maxRecDepth 100000 in
set_option maxHeartbeats 6400000 in
theorem right_any (ca : Option Addr) (ccap : Nat) (l : List Cl) (N : ByteArray) (K : Int) (w : World) (h : ColsAt w.heap.size w ca l) (hcap : l.length ≤ ccap) (hN : N.size ≤ 9223372036854775807) (hn : ∀ i, i < l.length → (l.getD i default).n.size ≤ 9223372036854775807) :
    Calls Tryd.prog 6 #[.agg #[.string N, .slice ca l.length ccap, .int .i64 K]] w fun e w' => ((∃ b, e = .returned (.bool b)) ∧ (100 < l.length → e = .returned (.bool false))) ∧ w.grownBy w' none := by
  have HB := Lib.hid (box3_new6 w (.string N) (.slice ca l.length ccap) (.int .i64 K) 24)
  have K0 := Lib.hid (World.grownBy_alloc w (.cells #[.string N, .slice ca l.length ccap, .int .i64 K] 24) none)
  have HC : Hid (Calls Tryd.prog 11 #[.slice (some ⟨w.heap.size + 1, 0, none⟩) 1 1] ((w.alloc (.cells #[.string N, .slice ca l.length ccap, .int .i64 K] 24)).alloc (.cells #[.string N, .slice ca l.length ccap, .int .i64 K] 24)) fun e w' => (∃ i c, e = .returned (.tuple #[.int .i64 i, .int .i64 c])) ∧ ((w.alloc (.cells #[.string N, .slice ca l.length ccap, .int .i64 K] 24)).alloc (.cells #[.string N, .slice ca l.length ccap, .int .i64 K] 24)).grownBy w' none) := by
    have hg := K0.out.trans (World.grownBy_alloc (w.alloc (.cells #[.string N, .slice ca l.length ccap, .int .i64 K] 24)) (.cells #[.string N, .slice ca l.length ccap, .int .i64 K] 24) none)
    have hb := box3_new6 (w.alloc (.cells #[.string N, .slice ca l.length ccap, .int .i64 K] 24)) (.string N) (.slice ca l.length ccap) (.int .i64 K) 24
    rw [show (w.alloc (.cells #[.string N, .slice ca l.length ccap, .int .i64 K] 24)).heap.size = w.heap.size + 1 by simp] at hb
    exact Lib.hid (refCheck1_any (w.heap.size + 1) ca ccap l N K _ ((h.keep hg (by simp)).mono hg.size) hcap hN hn hb.1 hb.2.1 hb.2.2)
  generalize l.length = m at *
  clear h hcap hn
  by_cases h100 : 100 < m
  · have h1 : (100 : Int) < m := by omega
    go_enter Tryd.func6, Tryd.ntmps6
    go_wp2_with fail
    go_ret
    exact ⟨⟨⟨_, rfl⟩, fun _ => rfl⟩, K0.out⟩
  · have h1 : ¬ (100 : Int) < m := by omega
    go_enter Tryd.func6, Tryd.ntmps6
    go_wp2_with fail
    refine HC.out.mono ?_
    rintro e w2 ⟨⟨i, c, rfl⟩, hg⟩
    have K2 := Lib.hid ((K0.out.trans (World.grownBy_alloc _ _ none)).trans hg)
    clear hg
    go_wp2_with fail
    go_ret
    exact ⟨⟨⟨_, rfl⟩, fun h => absurd h h100⟩, K2.out⟩
end Go.Proofs.YtampkmmfkdekaaaDoor
