/- tree's Diff at trees of the same pairs, walked. -/
import Derived.Test.YtlmoefiajioeoaaTrZ
namespace Go.Proofs.Ytlmoefiajioeoaa
open Go.RowKit

def Least (P : Nat → Prop) (n : Nat) : Prop := P n ∧ ∀ q, P q → n ≤ q
theorem least_eps {P : Nat → Prop} (h : ∃ n, P n) : P (Classical.epsilon (Least P)) ∧ ∀ q, P q → Classical.epsilon (Least P) ≤ q := by
  obtain ⟨n, hn⟩ := h
  exact Classical.epsilon_spec (p := Least P) (least_ex P n hn)
/-- The next of the first of two walks. -/
theorem next_two {B k1 p1 d1 k2 p2 d2 : Nat} {w : World} {v1 v2 : Value} {xs1 xs2 : List (Ptr × Tre)} {L : List (List Vl × List Vl)} (h : Two B k1 p1 d1 k2 p2 d2 w v1 xs1 v2 xs2) (hr : remS [] xs1 = L) (hL : L.length ≤ 100000000) :
    Calls Try.prog 53 #[.pointer (some ⟨p1, 0, none⟩), .pointer (some ⟨d1, 0, none⟩)] w fun e w' => ∃ px v1' xs1', e = .returned (.pointer px) ∧ Two B k1 p1 d1 k2 p2 d2 w' v1' xs1' v2 xs2 ∧ Only (Wlk.M p1 v1) w w' ∧ (L = [] → px = none) ∧ (∀ k r rest, L = (k, r) :: rest → PairAt (fun b => b < B) w' px k r ∧ remS [] xs1' = rest) := by
  cases L with
  | nil =>
    refine (next_none _ _ _ _ _ _ _ _ _ _ w h.w1 hr).mono ?_
    rintro e w' ⟨rfl, rfl⟩
    exact ⟨none, v1, xs1, rfl, h, Only.refl _ _, fun _ => rfl, fun _ _ _ e => by cases e⟩
  | cons kr rest =>
    obtain ⟨k, r⟩ := kr
    refine (next_more ro_ord _ _ _ _ _ _ _ _ _ _ w k r rest h.w1 hr (by simp at hL; omega)).mono ?_
    rintro e w' ⟨⟨p, rfl, hp⟩, ⟨v', xs', hw, hg, hr'⟩, ho⟩
    exact ⟨p, v', xs', rfl, h.next hw hg ho, ho, fun e => (by cases e), fun k' r'' rest' e => by cases e; exact ⟨hp, hr'⟩⟩
/-- Both walks have gone on. -/
theorem dst_of {w : World} {k1 p1 d1 k2 p2 d2 : Nat} {W W1 W2 : World} {v1 v1' v2 v2' : Value} {xs1 xs1' xs2 xs2' : List (Ptr × Tre)} {L : List (List Vl × List Vl)} {px py : Ptr} (hL : L.length ≤ 100000000) (h0 : Two w.heap.size k1 p1 d1 k2 p2 d2 W v1 xs1 v2 xs2) (hg : w.grownBy W none)
    (h1 : Two w.heap.size k1 p1 d1 k2 p2 d2 W1 v1' xs1' v2 xs2) (o1 : Only (Wlk.M p1 v1) W W1) (h2 : Two w.heap.size k2 p2 d2 k1 p1 d1 W2 v2' xs2' v1' xs1') (o2 : Only (Wlk.M p2 v2) W1 W2)
    (a0 : L = [] → px = none) (a1 : ∀ k r rest, L = (k, r) :: rest → PairAt (fun b => b < w.heap.size) W1 px k r ∧ remS [] xs1' = rest) (b0 : L = [] → py = none) (b1 : ∀ k r rest, L = (k, r) :: rest → PairAt (fun b => b < w.heap.size) W2 py k r ∧ remS [] xs2' = rest) :
    DSt w w.heap.size k1 p1 d1 k2 p2 d2 (.pointer px) (.pointer py) L W2 := by
  refine ⟨v1', xs1', v2', xs2', h2.turn, only_grown (only_grown hg o1 h0.only) o2 h1.turn.only, hL, ?_⟩
  cases L with
  | nil => exact ⟨by rw [a0 rfl], by rw [b0 rfl]⟩
  | cons kr rest =>
    obtain ⟨k, r⟩ := kr
    obtain ⟨q1, q2⟩ := a1 k r rest rfl
    obtain ⟨q3, q4⟩ := b1 k r rest rfl
    exact ⟨⟨px, rfl, q1.keep o2 h1.turn.only⟩, ⟨py, rfl, q3⟩, q2, q4⟩
set_option maxRecDepth 100000 in
set_option maxHeartbeats 12800000 in
theorem diff_same (t u : Tre) (p q : Ptr) (w : World) (ht : TrAt (fun _ => True) w t p) (hu : TrAt (fun _ => True) w u q) (hst : Tr.Sorted rowsOrd t.toL) (e : t.toL = u.toL) (hn : t.n ≤ 1000000) :
    Calls Try.prog 18 #[.pointer p, .pointer q] w fun e w' => e = .returned (.slice none 0 0) ∧ w.grownBy w' none := by
  have hun : u.n ≤ 1000000 := by rw [Tr.n_toL, ← e, ← Tr.n_toL]; exact hn
  have ht' : TrAt (fun b => b < w.heap.size) w t p := ht.mono (fun b hb _ => hb)
  have hu' : TrAt (fun b => b < w.heap.size) w u q := hu.mono (fun b hb _ => hb)
  have W1 := Lib.hid (walkB_any w.heap.size t p w (Nat.le_refl _) ht' hst (by omega))
  have W2 := Lib.hid (fun W (hW : w.grownBy W none) => walkB_any w.heap.size u q W hW.size (hu'.keep (.of hW)) (e ▸ hst) (by omega))
  have HL := Lib.hid (And.intro e (show t.toL.length ≤ 1000000 by rw [← Tr.n_toL]; exact hn))
  clear ht hu ht' hu' hst e hn hun
  go_enter Try.func18, Try.ntmps18
  go_wp2_with fail
  refine W1.out.mono ?_
  rintro e w1 ⟨⟨v1, xs1, rfl, hw1, hr1, hv1⟩, hg1⟩
  have W2' := Lib.hid (W2.out w1 hg1)
  have D1 := Lib.hid (And.intro hw1 (And.intro hr1 (And.intro hv1 hg1)))
  clear hw1 hr1 hv1 hg1 W1 W2
  go_wp2_with fail
  refine W2'.out.mono ?_
  rintro e w2 ⟨⟨v2, xs2, rfl, hw2, hr2, hv2⟩, hg2⟩
  obtain ⟨K1, hK1⟩ : ∃ K1, K1 = w.heap.size := ⟨_, rfl⟩
  obtain ⟨K2, hK2⟩ : ∃ K2, K2 = w1.heap.size := ⟨_, rfl⟩
  have hTwo : Two w.heap.size w.heap.size (w.heap.size + 1) (w.heap.size + 1 + 1) w1.heap.size (w1.heap.size + 1) (w1.heap.size + 1 + 1) w2 v1 xs1 v2 xs2 := by
    obtain ⟨h1, _, hv1, hg1⟩ := D1.out
    obtain ⟨l1, l2, l3⟩ := h1.lt
    have o1 : ∀ g, v1.ownBlock = some g → g < w1.heap.size := fun g hg => (World.ownsRow.lt h1.own g hg).2
    refine ⟨h1.grown hg2, hw2, by omega, by omega, ⟨fun e => ?_, fun e => ?_, fun e => ?_⟩, ⟨fun e => ?_, fun e => ?_, fun e => ?_⟩, fun g e1 e2 => ?_⟩
    · have := o1 _ e; omega
    · have := o1 _ e; omega
    · have := o1 _ e; omega
    · have := hv2 _ e; omega
    · have := hv2 _ e; omega
    · have := hv2 _ e; omega
    · have := o1 _ e1; have := hv2 _ e2; omega
  have D2 := Lib.hid (And.intro hTwo (And.intro D1.out.2.1 (And.intro hr2 (D1.out.2.2.2.trans hg2))))
  clear hw2 hr2 hv2 hg2 hTwo D1 W2' hK1 hK2 K1 K2
  have D3 := Lib.hid (show ∃ L, L = t.toL ∧ L.length ≤ 1000000 ∧ remS [] xs1 = L ∧ remS [] xs2 = L from ⟨t.toL, rfl, HL.out.2, D2.out.2.1, by rw [HL.out.1]; exact D2.out.2.2.1⟩)
  obtain ⟨L, _, hLl, hL1, hL2⟩ := D3.out
  have N1 := Lib.hid (next_two D2.out.1 hL1 (by omega))
  have HLL := Lib.hid (And.intro hLl hL2)
  clear hLl hL1 hL2 D3
  go_wp2_with fail
  refine N1.out.mono ?_
  rintro e w3 ⟨px, v1', xs1', rfl, hT, ho, hn0, hn1⟩
  have N2 := Lib.hid (next_two hT.turn HLL.out.2 (by have := HLL.out.1; omega))
  have E1 := Lib.hid (And.intro hT (And.intro ho (And.intro hn0 hn1)))
  clear hT ho hn0 hn1 N1
  go_wp2_with fail
  refine N2.out.mono ?_
  rintro e w4 ⟨py, v2', xs2', rfl, hT2, ho2, hm0, hm1⟩
  have HS := Lib.hid (show DSt w w.heap.size w.heap.size (w.heap.size + 1) (w.heap.size + 1 + 1) w1.heap.size (w1.heap.size + 1) (w1.heap.size + 1 + 1) (.pointer px) (.pointer py) L w4 from dst_of (by have := HLL.out.1; omega) D2.out.1 D2.out.2.2.2 E1.out.1 E1.out.2.1 hT2 ho2 E1.out.2.2.1 E1.out.2.2.2 hm0 hm1)
  have HX := Lib.hid (show ∃ L, DSt w w.heap.size w.heap.size (w.heap.size + 1) (w.heap.size + 1 + 1) w1.heap.size (w1.heap.size + 1) (w1.heap.size + 1 + 1) (.pointer px) (.pointer py) L w4 from ⟨L, HS.out⟩)
  clear hT2 ho2 hm0 hm1 HS E1 N2 HLL D2 HL
  go_wp2_with fail
  go_loopw [5, 8, 9] (fun s5 s8 s9 wr => ∃ px py : Ptr, s5 = .slice none 0 0 ∧ s8 = .pointer px ∧ s9 = .pointer py ∧ Hid (∃ L, DSt w w.heap.size w.heap.size (w.heap.size + 1) (w.heap.size + 1 + 1) w1.heap.size (w1.heap.size + 1) (w1.heap.size + 1 + 1) (.pointer px) (.pointer py) L wr)) (fun _ s8 s9 W => Classical.epsilon (Least (fun n => ∃ L, L.length = n ∧ DSt w w.heap.size w.heap.size (w.heap.size + 1) (w.heap.size + 1 + 1) w1.heap.size (w1.heap.size + 1) (w1.heap.size + 1 + 1) s8 s9 L W)))
  case atStart => exact ⟨px, py, rfl, rfl, rfl, HX⟩
  case round =>
    clear HX
    obtain ⟨px, py, rfl, rfl, rfl, I⟩ := hrel
    obtain ⟨L, hmu, hD⟩ : ∃ L, L.length = Classical.epsilon (Least (fun n => ∃ L, L.length = n ∧ DSt w w.heap.size w.heap.size (w.heap.size + 1) (w.heap.size + 1 + 1) w1.heap.size (w1.heap.size + 1) (w1.heap.size + 1 + 1) (.pointer px) (.pointer py) L wr)) ∧ DSt w w.heap.size w.heap.size (w.heap.size + 1) (w.heap.size + 1 + 1) w1.heap.size (w1.heap.size + 1) (w1.heap.size + 1 + 1) (.pointer px) (.pointer py) L wr := by
      obtain ⟨L, hL⟩ := I.out
      exact (least_eps (P := fun n => ∃ L, L.length = n ∧ DSt w w.heap.size w.heap.size (w.heap.size + 1) (w.heap.size + 1 + 1) w1.heap.size (w1.heap.size + 1) (w1.heap.size + 1 + 1) (.pointer px) (.pointer py) L wr) ⟨L.length, L, rfl, hL⟩).1
    have HMu := Lib.hid hmu
    clear hmu I
    obtain ⟨v1, xs1, v2, xs2, hT, hg, hl, hm⟩ := hD
    cases L with
    | nil =>
      obtain ⟨h1, h2⟩ := hm
      cases h1
      cases h2
      have G := Lib.hid hg
      clear hT hg hl
      go_wp2_with fail
      go_ret
      exact ⟨rfl, G.out⟩
    | cons kr rest =>
      obtain ⟨k, r⟩ := kr
      obtain ⟨⟨p1, e1, hp1⟩, ⟨p2, e2, hp2⟩, hr1, hr2⟩ := hm
      cases e1
      cases e2
      have HA := Lib.hid (ahead_any _ _ _ _ _ _ _ wr hp1 hp2)
      rw [(ro_zero k k).2 rfl] at HA
      have HD := Lib.hid (And.intro hT (And.intro hg (And.intro hl (And.intro hr1 hr2))))
      obtain ⟨b, ka, kc, va, vc, rfl, _, _, _, c1, _, h1⟩ := hp1
      obtain ⟨b', ka', kc', va', vc', rfl, _, _, _, c1', _, h1'⟩ := hp2
      have F := Lib.hid (fun (W : World) (hW : wr.grownBy W none) => And.intro (hW.cell c1 (by simp)) (And.intro (hW.cell c1' (by simp)) (And.intro ((h1.keep (.of hW)).row) ((h1'.keep (.of hW)).row))))
      clear hT hg hl hr1 hr2 c1 c1' h1 h1'
      obtain ⟨rm, hrm⟩ : ∃ rm, rm = r.length := ⟨_, rfl⟩
      have Hrm := Lib.hid hrm
      rw [← hrm] at F
      clear hrm
      go_wp2_with fail
      refine HA.out.mono ?_
      rintro e w5 ⟨rfl, hg5⟩
      have G5 := Lib.hid hg5
      clear hg5 HA
      go_upto_region 6 with fail
      obtain ⟨c1, c1', q1, q2⟩ := F.out _ G5.out
      have HV := Lib.hid (fun W (hW : w5.grownBy W none) => vsame_any va va' vc vc' r W (q1.keep (below_grownT hW)) (q2.keep (below_grownT hW)))
      rw [← Hrm.out] at HV
      clear q1 q2
      go_cut [39] (fun s39 wx => s39 = .bool false ∧ Hid (w5.grownBy wx none))
      case first =>
        have C5 := Lib.hid (grown_reflT w5 none)
        go_region_with (go_at_call 45; (with_reducible refine (HV.out _ (by first | exact grown_drewT C5.out | exact C5.out)).mono ?_); rintro e w6 ⟨rfl, hg6⟩; have G6 := Lib.hid ((grown_drewT C5.out).trans hg6); clear hg6)
        all_goals
          go_wp2_with fail
          go_meet
          exact ⟨rfl, G6⟩
      case rest =>
      obtain ⟨rfl, G6⟩ := hcut
      have G7 := Lib.hid (G5.out.trans G6.out)
      have N1 := Lib.hid (next_two (HD.out.1.grown G7.out) HD.out.2.2.2.1 (by have := HD.out.2.2.1; simp at this; omega))
      clear c1 c1' F HV
      go_wp2_with fail
      refine N1.out.mono ?_
      rintro e w7 ⟨px', v1', xs1', rfl, hT, ho, hn0, hn1⟩
      have N2 := Lib.hid (next_two hT.turn HD.out.2.2.2.2 (by have := HD.out.2.2.1; simp at this; omega))
      have E1 := Lib.hid (And.intro hT (And.intro ho (And.intro hn0 hn1)))
      clear hT ho hn0 hn1 N1
      go_wp2_with fail
      refine N2.out.mono ?_
      rintro e w8 ⟨py', v2', xs2', rfl, hT2, ho2, hm0, hm1⟩
      have HS := Lib.hid (show DSt w w.heap.size w.heap.size (w.heap.size + 1) (w.heap.size + 1 + 1) w1.heap.size (w1.heap.size + 1) (w1.heap.size + 1 + 1) (.pointer px') (.pointer py') rest w8 from dst_of (by have := HD.out.2.2.1; simp at this; omega) (HD.out.1.grown G7.out) (HD.out.2.1.trans G7.out) E1.out.1 E1.out.2.1 hT2 ho2 E1.out.2.2.1 E1.out.2.2.2 hm0 hm1)
      clear hT2 ho2 hm0 hm1 E1 N2
      go_wp2_with fail
      go_roundw
      case rel => exact ⟨px', py', rfl, rfl, rfl, Lib.hid ⟨rest, HS.out⟩⟩
      case measure =>
        rw [← HMu.out]
        have := (least_eps (P := fun n => ∃ L, L.length = n ∧ DSt w w.heap.size w.heap.size (w.heap.size + 1) (w.heap.size + 1 + 1) w1.heap.size (w1.heap.size + 1) (w1.heap.size + 1 + 1) (.pointer px') (.pointer py') L w8) ⟨rest.length, rest, rfl, HS.out⟩).2 rest.length ⟨rest, rfl, HS.out⟩
        simp only [List.length_cons]
        omega
end Go.Proofs.Ytlmoefiajioeoaa
