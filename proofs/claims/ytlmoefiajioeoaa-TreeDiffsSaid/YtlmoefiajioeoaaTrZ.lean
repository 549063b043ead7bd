/- tree's Diff at trees of the same pairs. -/
import Derived.Test.YtlmoefiajioeoaaTrY
import Derived.Test.YtlmoefiajioeoaaTrV
namespace Go.Proofs.Ytlmoefiajioeoaa
open Go.RowKit

set_option maxRecDepth 100000 in
set_option maxHeartbeats 6400000 in
theorem walkB_any (B : Nat) (t : Tre) (p : Ptr) (w : World) (hB : B ≤ w.heap.size) (ht : TrAt (fun b => b < B) w t p) (hs : Tr.Sorted rowsOrd t.toL) (hn : t.n ≤ 500000000) :
    Calls Try.prog 41 #[.pointer p, .slice none 0 0] w fun e w' => (∃ v xs, e = .returned (walkF (w.heap.size + 1) (w.heap.size + 1 + 1)) ∧ Wlk (fun b => b < B) B w' w.heap.size (w.heap.size + 1) (w.heap.size + 1 + 1) none 0 [] v xs ∧ remS [] xs = t.toL ∧ (∀ g, v.ownBlock = some g → w.heap.size + 3 ≤ g)) ∧ w.grownBy w' none := by
  have g3 := ((World.grownBy_alloc w (.cells #[.slice none 0 0] 24) none).trans (World.grownBy_alloc _ (.cells #[.slice none 0 0] 43) none)).trans (World.grownBy_alloc _ (.cells #[.func (.func 52) #[] #[.pointer (some ⟨w.heap.size, 0, none⟩), .pointer (some ⟨w.heap.size + 1, 0, none⟩)]] 102) none)
  have h0 := start_walk w none 0 [] ⟨by simp, by simp, .inl rfl⟩ (by simp)
  have W0 : Wlk (fun b => b < B) B (((w.alloc (.cells #[.slice none 0 0] 24)).alloc (.cells #[.slice none 0 0] 43)).alloc (.cells #[.func (.func 52) #[] #[.pointer (some ⟨w.heap.size, 0, none⟩), .pointer (some ⟨w.heap.size + 1, 0, none⟩)]] 102)) w.heap.size (w.heap.size + 1) (w.heap.size + 1 + 1) none 0 [] (.slice none 0 0) [] :=
    ⟨h0.path, World.ownsRow_nil _ _ _ _, by omega, h0.kbox, ⟨by simp, by simp, .inl rfl⟩, h0.dbox, h0.kp_pp, h0.dp_pp, h0.v_pp, h0.v_kp, h0.v_dp, by simp, fun b hb => hb, Nat.le_trans hB g3.size⟩
  have HD := Lib.hid (down_any ro_ord (fun b => b < B) B w.heap.size (w.heap.size + 1) (w.heap.size + 1 + 1) none 0 [] (.slice none 0 0) [] t p _ W0 (ht.keep (.of g3)) hs ⟨by simp; omega, hn⟩)
  have G3 := Lib.hid g3
  clear W0 g3 ht hs h0 hB
  go_enter Try.func41, Try.ntmps41
  go_wp2_with fail
  refine HD.out.mono ?_
  rintro e w4 ⟨rfl, ⟨v, xs, hw, hg, hr, hl⟩, ho⟩
  have D := Lib.hid (And.intro hw (And.intro hr hg))
  have G4 := Lib.hid (only_grown G3.out ho (fun b hb => by
    rcases hb with rfl | hb
    · omega
    · simp [Value.ownBlock] at hb))
  clear hw hg hr hl ho
  go_wp2_with fail
  go_ret
  refine ⟨⟨v, xs, rfl, D.out.1, by have := D.out.2.1; simpa [remS, from_nil] using this, fun g hg => ?_⟩, G4.out⟩
  rcases D.out.2.2 g hg with h | h
  · simp [Value.ownBlock] at h
  · simpa using h
/-- Two walks apart. -/
structure Two (B k1 p1 d1 k2 p2 d2 : Nat) (w : World) (v1 : Value) (xs1 : List (Ptr × Tre)) (v2 : Value) (xs2 : List (Ptr × Tre)) : Prop where
  w1 : Wlk (fun b => b < B) B w k1 p1 d1 none 0 [] v1 xs1
  w2 : Wlk (fun b => b < B) B w k2 p2 d2 none 0 [] v2 xs2
  a1 : p1 ≠ k2 ∧ p1 ≠ p2 ∧ p1 ≠ d2
  a2 : p2 ≠ k1 ∧ p2 ≠ p1 ∧ p2 ≠ d1
  b1 : v1.ownBlock ≠ some k2 ∧ v1.ownBlock ≠ some p2 ∧ v1.ownBlock ≠ some d2
  b2 : v2.ownBlock ≠ some k1 ∧ v2.ownBlock ≠ some p1 ∧ v2.ownBlock ≠ some d1
  vv : ∀ g, v1.ownBlock = some g → v2.ownBlock ≠ some g
theorem Two.turn {B k1 p1 d1 k2 p2 d2 : Nat} {w : World} {v1 v2 : Value} {xs1 xs2 : List (Ptr × Tre)} (h : Two B k1 p1 d1 k2 p2 d2 w v1 xs1 v2 xs2) : Two B k2 p2 d2 k1 p1 d1 w v2 xs2 v1 xs1 :=
  ⟨h.w2, h.w1, h.a2, h.a1, h.b2, h.b1, fun g h2 h1 => h.vv g h1 h2⟩
theorem Two.grown {B k1 p1 d1 k2 p2 d2 : Nat} {w w' : World} {v1 v2 : Value} {xs1 xs2 : List (Ptr × Tre)} (h : Two B k1 p1 d1 k2 p2 d2 w v1 xs1 v2 xs2) (hg : w.grownBy w' none) : Two B k1 p1 d1 k2 p2 d2 w' v1 xs1 v2 xs2 :=
  ⟨h.w1.grown hg, h.w2.grown hg, h.a1, h.a2, h.b1, h.b2, h.vv⟩
/-- The first one goes on. -/
theorem Two.next {B k1 p1 d1 k2 p2 d2 : Nat} {w w' : World} {v1 v1' v2 : Value} {xs1 xs1' xs2 : List (Ptr × Tre)} (h : Two B k1 p1 d1 k2 p2 d2 w v1 xs1 v2 xs2) (hw : Wlk (fun b => b < B) B w' k1 p1 d1 none 0 [] v1' xs1') (hg : ∀ g, v1'.ownBlock = some g → v1.ownBlock = some g ∨ w.heap.size ≤ g) (ho : Only (Wlk.M p1 v1) w w') : Two B k1 p1 d1 k2 p2 d2 w' v1' xs1' v2 xs2 := by
  obtain ⟨l1, l2, l3⟩ := h.w2.lt
  have hv2 : ∀ g, v2.ownBlock = some g → g < w.heap.size := fun g hg => (World.ownsRow.lt h.w2.own g hg).2
  refine ⟨hw, h.w2.keep ho (fun b hb => ?_), h.a1, h.a2, ⟨fun e => ?_, fun e => ?_, fun e => ?_⟩, h.b2, fun g h1 h2 => ?_⟩
  · rcases hb with rfl | hb
    · exact ⟨h.w1.bp, h.a1.1, h.a1.2.1, h.a1.2.2, h.b2.2.1⟩
    · exact ⟨(World.ownsRow.lt h.w1.own b hb).1, fun e => h.b1.1 (by rw [hb, e]), fun e => h.b1.2.1 (by rw [hb, e]), fun e => h.b1.2.2 (by rw [hb, e]), h.vv b hb⟩
  · rcases hg _ e with q | q
    · exact h.b1.1 q
    · omega
  · rcases hg _ e with q | q
    · exact h.b1.2.1 q
    · omega
  · rcases hg _ e with q | q
    · exact h.b1.2.2 q
    · omega
  · rcases hg g h1 with q | q
    · exact h.vv g q h2
    · have := hv2 g h2; omega
theorem Two.only {B k1 p1 d1 k2 p2 d2 : Nat} {w : World} {v1 v2 : Value} {xs1 xs2 : List (Ptr × Tre)} (h : Two B k1 p1 d1 k2 p2 d2 w v1 xs1 v2 xs2) : ∀ b, Wlk.M p1 v1 b → B ≤ b := fun b hb => by
  rcases hb with rfl | hb
  · exact h.w1.bp
  · exact (World.ownsRow.lt h.w1.own b hb).1
theorem PairAt.keep {B : Nat} {w w' : World} {p : Ptr} {k r : List Vl} {M : Nat → Prop} (h : PairAt (fun b => b < B) w p k r) (ho : Only M w w') (hM : ∀ b, M b → B ≤ b) : PairAt (fun b => b < B) w' p k r := by
  obtain ⟨b, ka, kc, va, vc, e, hb, hlt, c0, c1, h1, h2⟩ := h
  have hst : Stays (fun b => b < B) w w' := ho.stays (fun b hb _ hm => by have := hM b hm; omega)
  have hn : ¬ M b := fun hm => by have := hM b hm; omega
  exact ⟨b, ka, kc, va, vc, e, hb, Nat.lt_of_lt_of_le hlt ho.size, ho.cell c0 hn, ho.cell c1 hn, h1.keep hst, h2.keep hst⟩
/-- Where the two walks stand. -/
def DSt (w : World) (B k1 p1 d1 k2 p2 d2 : Nat) (px py : Value) (L : List (List Vl × List Vl)) (W : World) : Prop :=
  ∃ v1 xs1 v2 xs2, Two B k1 p1 d1 k2 p2 d2 W v1 xs1 v2 xs2 ∧ w.grownBy W none ∧ L.length ≤ 100000000 ∧ match L with
    | [] => px = .pointer none ∧ py = .pointer none
    | (k, r) :: rest => (∃ p, px = .pointer p ∧ PairAt (fun b => b < B) W p k r) ∧ (∃ p, py = .pointer p ∧ PairAt (fun b => b < B) W p k r) ∧ remS [] xs1 = rest ∧ remS [] xs2 = rest
theorem least_ex (P : Nat → Prop) : ∀ n, P n → ∃ m, P m ∧ ∀ q, P q → m ≤ q := by
  intro n
  induction n using Nat.strongRecOn with
  | _ n ih =>
    intro hn
    by_cases h : ∃ q, q < n ∧ P q
    · obtain ⟨q, hq, hp⟩ := h
      exact ih q hq hp
    · exact ⟨n, hn, fun q hq => Classical.byContradiction fun hl => h ⟨q, by omega, hq⟩⟩
set_option maxRecDepth 100000 in
set_option maxHeartbeats 6400000 in
theorem ahead_any (B : Nat) (px py : Ptr) (k r k' r' : List Vl) (w : World) (h : PairAt (fun b => b < B) w px k r) (h' : PairAt (fun b => b < B) w py k' r') :
    Calls Try.prog 44 #[.pointer px, .pointer py] w fun e w' => e = .returned (.int .i64 (rowsOrd k k')) ∧ w.grownBy w' none := by
  obtain ⟨b, ka, kc, va, vc, rfl, _, _, c0, _, h1, _⟩ := h
  obtain ⟨b', ka', kc', va', vc', rfl, _, _, c0', _, h1', _⟩ := h'
  have HR := Lib.hid (fun W (hW : w.grownBy W none) => rows_grown ka ka' kc kc' k k' W ((h1.keep (.of hW)).row) ((h1'.keep (.of hW)).row))
  clear h1 h1'
  generalize rowsOrd k k' = cc at *
  generalize k.length = m at *
  generalize k'.length = m' at *
  go_enter Try.func44, Try.ntmps44
  go_wp2_with fail
  go_region_with (go_at_call 49; (with_reducible refine (HR.out _ (by first | exact grown_drewT (grown_reflT _ _) | exact grown_reflT _ _)).mono ?_); rintro e w2 ⟨rfl, hg2⟩; have G2 := Lib.hid ((grown_drewT (grown_reflT w none)).trans hg2); clear hg2)
  all_goals
    go_wp2_with fail
    go_ret
    exact ⟨rfl, G2.out⟩
set_option maxHeartbeats 1600000 in
theorem vsame_any (a a' : Option Addr) (cap cap' : Nat) (l : List Vl) (w : World) (h : RowAt w a l) (h' : RowAt w a' l) :
    Calls Try.prog 45 #[.slice a l.length cap, .slice a' l.length cap'] w fun e w' => e = .returned (.bool true) ∧ w.grownBy w' none := by
  have HE := Lib.hid ((equal_any a a' cap cap' l l w h h').mono fun e w' h => And.intro h.1 (grown_belowT h.2 none))
  rw [show (rowsOrd l l == 0) = true by simp [(ro_zero l l).2 rfl]] at HE
  clear h h'
  generalize l.length = m at *
  go_enter Try.func45, Try.ntmps45
  go_wp2_with fail
  refine HE.out.mono ?_
  rintro e w2 ⟨rfl, hg⟩
  have G := Lib.hid hg
  clear hg
  go_wp2_with fail
  go_ret
  exact ⟨rfl, G.out⟩
end Go.Proofs.Ytlmoefiajioeoaa
