/- tree's Delete. -/
import Derived.Test.YtlmoefiajioeoaaTrX
namespace Go.Proofs.Ytlmoefiajioeoaa
open Go.RowKit

theorem start_walkS (S : Nat → Prop) (w : World) (kc : Nat) (hS : ∀ b, S b → b < w.heap.size) :
    Wlk S w.heap.size (((w.alloc (.cells #[.slice none 0 kc] 24)).alloc (.cells #[.slice none 0 0] 43)).alloc (.cells #[.func (.func 52) #[] #[.pointer (some ⟨w.heap.size, 0, none⟩), .pointer (some ⟨w.heap.size + 1, 0, none⟩)]] 102)) w.heap.size (w.heap.size + 1) (w.heap.size + 1 + 1) none kc [] (.slice none 0 0) [] := by
  have h := start_walk w none kc [] ⟨by simp, by simp, .inl rfl⟩ (by simp)
  exact ⟨h.path, h.own, h.bp, h.kbox, ⟨by simp, by simp, .inl rfl⟩, h.dbox, h.kp_pp, h.dp_pp, h.v_pp, h.v_kp, h.v_dp, by simp, hS, h.bw⟩
set_option maxRecDepth 100000 in
set_option maxHeartbeats 6400000 in
theorem walkS_any (hc : Tr.IsOrd rowsOrd) (S : Nat → Prop) (t : Tre) (p : Ptr) (kc : Nat) (w : World) (hS : ∀ b, S b → b < w.heap.size) (ht : TrAt S w t p) (hs : Tr.Sorted rowsOrd t.toL) (hn : t.n ≤ 500000000) :
    Calls Try.prog 41 #[.pointer p, .slice none 0 kc] w fun e w' => (∃ v xs, e = .returned (walkF (w.heap.size + 1) (w.heap.size + 1 + 1)) ∧ Wlk S w.heap.size w' w.heap.size (w.heap.size + 1) (w.heap.size + 1 + 1) none kc [] v xs ∧ remS [] xs = t.toL) ∧ w.grownBy w' none := by
  have g3 := ((World.grownBy_alloc w (.cells #[.slice none 0 kc] 24) none).trans (World.grownBy_alloc _ (.cells #[.slice none 0 0] 43) none)).trans (World.grownBy_alloc _ (.cells #[.func (.func 52) #[] #[.pointer (some ⟨w.heap.size, 0, none⟩), .pointer (some ⟨w.heap.size + 1, 0, none⟩)]] 102) none)
  have W0 := start_walkS S w kc hS
  have HD := Lib.hid (down_any hc S w.heap.size w.heap.size (w.heap.size + 1) (w.heap.size + 1 + 1) none kc [] (.slice none 0 0) [] t p _ W0 (ht.keep (.of g3)) hs ⟨by simp; omega, hn⟩)
  have G3 := Lib.hid g3
  clear W0 g3 ht hs hc hS
  go_enter Try.func41, Try.ntmps41
  go_wp2_with fail
  refine HD.out.mono ?_
  rintro e w4 ⟨rfl, ⟨v, xs, hw, hg, hr, hl⟩, ho⟩
  have D := Lib.hid (And.intro hw hr)
  have G4 := Lib.hid (only_grown G3.out ho (fun b hb => by
    rcases hb with rfl | hb
    · omega
    · simp [Value.ownBlock] at hb))
  clear hw hg hr hl ho
  go_wp2_with fail
  go_ret
  exact ⟨⟨v, xs, rfl, D.out.1, by have := D.out.2; simpa [remS, from_nil] using this⟩, G4.out⟩
theorem Tr.del_n {K R : Type} (c : K → K → Int) : ∀ (t : Tr K R) (k : K), (Tr.del c k t).n ≤ t.n
  | .nil, k => by simp [Tr.del]
  | .node l k' v' r, k => by
    simp only [Tr.del]
    split
    · have := Tr.del_n c l k; rw [Tr.bal_n]; simp only [Tr.n]; omega
    · split
      · have := Tr.del_n c r k; rw [Tr.bal_n]; simp only [Tr.n]; omega
      · split
        · simp only [Tr.n]; omega
        · next k2 v2 _ => have := Tr.del_n c r k2; rw [Tr.bal_n]; simp only [Tr.n]; omega
/-- What stands beside each other. -/
def besT (l r : Tre) : Tre := match r.fst with
  | none => l
  | some (k2, v2) => Tr.bal l k2 v2 (Tr.del rowsOrd k2 r)
theorem beside_any (S : Nat → Prop) (l r : Tre) (lp rp : Ptr) (w : World) (hS : ∀ b, w.heap.size ≤ b → S b) (hl : TrAt S w l lp) (hr : TrAt S w r rp) (hs : Tr.Sorted rowsOrd r.toL) (hn : l.n + r.n ≤ 400000000)
    (hD : ∀ (k : List Vl) (W : World) (ka : Ptr) (kc : Nat), w.grownBy W none → RwS S W ka k → Makes 32 #[.pointer rp, .slice ka k.length kc] W (fun W p => TrAt S W (Tr.del rowsOrd k r) p)) :
    Makes 51 #[.pointer lp, .pointer rp] w (fun W p => TrAt S W (besT l r) p) := by
  have hf := Tr.fst_toL r
  cases hrl : r.toL with
  | nil =>
    rw [hrl] at hf
    have hr0 : r = .nil := by
      have := Tr.n_toL r
      rw [hrl] at this
      exact Tr.n_zero this
    subst hr0
    obtain rfl : rp = none := hr
    exact beside_nil lp w _ hl
  | cons kv rest =>
    obtain ⟨k2, v2⟩ := kv
    rw [hrl] at hf
    have hb : besT l r = Tr.bal l k2 v2 (Tr.del rowsOrd k2 r) := by unfold besT; rw [hf]; rfl
    rw [hb]
    have hrn : rest.length ≤ 400000000 := by
      have := Tr.n_toL r
      rw [hrl] at this
      simp at this
      omega
    cases hrp : rp with
    | none =>
      subst hrp
      cases r with
      | nil => simp [Tr.toL] at hrl
      | node _ _ _ _ => obtain ⟨_, _, _, _, _, _, _, e, _⟩ := hr; cases e
    | some ra =>
      subst hrp
      have hr' : TrAt (fun b => S b ∧ b < w.heap.size) w r (some ra) := hr.mono (fun b hb hs => ⟨hs, hb⟩)
      refine beside_gen ra lp w (fun W p => TrAt S W (Tr.del rowsOrd k2 r) p) _ (w.heap.size + 1) (w.heap.size + 1 + 1)
        (fun W => ∃ v xs, Wlk (fun b => S b ∧ b < w.heap.size) w.heap.size W w.heap.size (w.heap.size + 1) (w.heap.size + 1 + 1) none 0 [] v xs ∧ remS [] xs = r.toL)
        (fun W p b ka m kc va q vc => m = k2.length ∧ q = v2.length ∧ RwS S W ka k2 ∧ RwS S W va v2) (Lib.hid ?_) (Lib.hid ?_) (Lib.hid ?_) (Lib.hid ?_)
      · refine (walkS_any ro_ord (fun b => S b ∧ b < w.heap.size) r (some ra) 0 w (fun b hb => hb.2) hr' hs (by omega)).mono ?_
        rintro e w' ⟨⟨v, xs, rfl, h1, h2⟩, hg⟩
        exact ⟨rfl, ⟨v, xs, h1, h2⟩, hg⟩
      · rintro W ⟨v, xs, h1, h2⟩ hg
        refine (next_more ro_ord _ _ _ _ _ _ _ _ _ _ W k2 v2 rest h1 (h2.trans hrl) hrn).mono ?_
        rintro e w' ⟨⟨p, rfl, b, ka, kc, va, vc, rfl, hSb, hb, c0, c1, q1, q2⟩, _, ho⟩
        refine ⟨⟨b, ka, _, kc, va, _, vc, rfl, c0, c1, rfl, rfl, q1.mono (fun b _ h => h.1), q2.mono (fun b _ h => h.1)⟩, only_grown hg ho (fun b hb => ?_)⟩
        rcases hb with rfl | hb
        · omega
        · exact (World.ownsRow.lt h1.own b hb).1
      · rintro W W' p b ka m kc va q vc hg ⟨rfl, rfl, h1, h2⟩ hg'
        exact hD k2 W' ka kc (hg.trans hg') (h1.keep (.of hg'))
      · rintro W W' p b ka m kc va q vc p1 hg ⟨rfl, rfl, h1, h2⟩ hg' hp1
        have dn := Tr.del_n rowsOrd r k2
        exact balanced_any S l (Tr.del rowsOrd k2 r) k2 v2 lp p1 ka va kc vc W' (hsS hS (hg.trans hg')) (hl.keep (.of (hg.trans hg'))) hp1 (h1.keep (.of hg')) (h2.keep (.of hg')) (by omega)
theorem delete_any (S : Nat → Prop) : ∀ (t : Tre) (k : List Vl) (ka : Ptr) (kc : Nat) (p : Ptr) (w : World), (∀ b, w.heap.size ≤ b → S b) → TrAt S w t p → RowAt w ka k → Tr.Sorted rowsOrd t.toL → t.n ≤ 400000000 →
    Makes 32 #[.pointer p, .slice ka k.length kc] w (fun W p => TrAt S W (Tr.del rowsOrd k t) p)
  | .nil, k, ka, kc, p, w, hS, h, hk, _, _ => by
    obtain rfl : p = none := h
    exact del_nil ka k.length kc w _ rfl (Lib.hid fun W _ => len_any S .nil none W rfl)
  | .node l k' v' r, k, ka, kc, p, w, hS, h, hk, hs, hn => by
    have H := h
    obtain ⟨b, tka, tkc, tva, tvc, lp, rp, rfl, _, _, ⟨c0, c1, c2, c3, _, _⟩, h1, h2, h3, h4⟩ := h
    have hn0 : 0 < Tr.n (.node l k' v' r) := by simp [Tr.n]; omega
    have dl := Tr.del_n rowsOrd l k
    have dr := Tr.del_n rowsOrd r k
    have hnn : l.n + 1 + r.n ≤ 400000000 := by simpa [Tr.n] using hn
    have HL := Lib.hid (fun W (hW : w.grownBy W none) => len_any S _ _ W (H.keep (.of hW)))
    have HC := Lib.hid (fun W (hW : w.grownBy W none) => rows_grown ka tka kc tkc k k' W (hk.keep (below_grownT hW)) ((h1.keep (.of hW)).row))
    by_cases hlt : rowsOrd k k' < 0
    · have e : Tr.del rowsOrd k (.node l k' v' r) = Tr.bal (Tr.del rowsOrd k l) k' v' r := by simp only [Tr.del]; rw [if_pos hlt]
      rw [e]
      exact del_lt b lp rp ka tka tva k.length kc k'.length tkc v'.length tvc _ _ w (fun W p => TrAt S W (Tr.del rowsOrd k l) p) _ hn0 hlt ⟨c0, c1, c2, c3⟩ HL HC
        (Lib.hid fun W hW => delete_any S l k ka kc lp W (hsS hS hW) (h3.keep (.of hW)) (hk.keep (below_grownT hW)) (sorted_l hs) (by omega))
        (Lib.hid fun W p hW hp => balanced_any S (Tr.del rowsOrd k l) r k' v' p rp tka tva tkc tvc W (hsS hS hW) hp (h4.keep (.of hW)) (h1.keep (.of hW)) (h2.keep (.of hW)) (by omega))
    · by_cases hgt : 0 < rowsOrd k k'
      · have e : Tr.del rowsOrd k (.node l k' v' r) = Tr.bal l k' v' (Tr.del rowsOrd k r) := by simp only [Tr.del]; rw [if_neg hlt, if_pos hgt]
        rw [e]
        exact del_gt b lp rp ka tka tva k.length kc k'.length tkc v'.length tvc _ _ w (fun W p => TrAt S W (Tr.del rowsOrd k r) p) _ hn0 hgt ⟨c0, c1, c2, c3⟩ HL HC
          (Lib.hid fun W hW => delete_any S r k ka kc rp W (hsS hS hW) (h4.keep (.of hW)) (hk.keep (below_grownT hW)) (sorted_r hs) (by omega))
          (Lib.hid fun W p hW hp => balanced_any S l (Tr.del rowsOrd k r) k' v' lp p tka tva tkc tvc W (hsS hS hW) (h3.keep (.of hW)) hp (h1.keep (.of hW)) (h2.keep (.of hW)) (by omega))
      · have e : Tr.del rowsOrd k (.node l k' v' r) = besT l r := by
          simp only [Tr.del]; rw [if_neg hlt, if_neg hgt]; unfold besT
          cases Tr.fst r with
          | none => rfl
          | some x => rfl
        rw [e]
        exact del_eq b lp rp ka tka tva k.length kc k'.length tkc v'.length tvc _ _ w _ hn0 (by omega) ⟨c0, c1, c2, c3⟩ HL HC
          (Lib.hid fun W hW => beside_any S l r lp rp W (hsS hS hW) (h3.keep (.of hW)) (h4.keep (.of hW)) (sorted_r hs) (by omega)
            (fun k2 W' ka2 kc2 hW' hk2 => delete_any S r k2 ka2 kc2 rp W' (hsS hS (hW.trans hW')) (h4.keep (.of (hW.trans hW'))) hk2.row (sorted_r hs) (by omega)))
end Go.Proofs.Ytlmoefiajioeoaa
