/- tree's walk: its next. -/
import Derived.Test.YtlmoefiajioeoaaTrE
namespace Go.Proofs.Ytlmoefiajioeoaa
open Go.RowKit

/-- A node's pair in memory. -/
def PairAt (S : Nat → Prop) (w : World) (p : Ptr) (k r : List Vl) : Prop :=
  ∃ b ka kc va vc, p = some ⟨b, 0, none⟩ ∧ S b ∧ b < w.heap.size ∧ w.cell? ⟨b, 0, none⟩ = some (.slice ka k.length kc) ∧ w.cell? ⟨b, 1, none⟩ = some (.slice va r.length vc) ∧ RwS S w ka k ∧ RwS S w va r
theorem own_front {w : World} {B : Nat} {e : TypeId} {g n cap : Nat} {xs : List Value} {x : Value} (h : w.ownsRow B e 1 (.slice (some ⟨g, 0, none⟩) (n + 1) cap) (n + 1) (xs ++ [x])) (hn : xs.length = n) : w.ownsRow B e 1 (.slice (some ⟨g, 0, none⟩) n cap) n xs := by
  refine ⟨by omega, .inr ?_⟩
  rcases h.2 with ⟨e, _⟩ | ⟨g', cap', cur, e, hb, hg, h1, h2, h3, h4⟩
  · cases e
  · cases e
    refine ⟨g, cap, cur, rfl, hb, hg, by omega, h2, h3, ?_⟩
    have := congrArg (List.take n) h4
    rw [List.take_take, List.take_left' hn] at this
    rw [← this, Nat.mul_one]
    congr 1
    omega
set_option maxHeartbeats 3200000 in
theorem next_nil (S : Nat → Prop) (B kp pp dp : Nat) (ka : Ptr) (kc : Nat) (key : List Vl) (v : Value) (w : World) (h : Wlk S B w kp pp dp ka kc key v []) :
    Calls Try.prog 53 #[.pointer (some ⟨pp, 0, none⟩), .pointer (some ⟨dp, 0, none⟩)] w fun e w' => e = .returned (.pointer none) ∧ w = w' := by
  have pc := cell_of_one h.path
  obtain ⟨a, cap, rfl⟩ : ∃ a cap, v = .slice a 0 cap := by
    rcases h.own.2 with ⟨e, _⟩ | ⟨g, cap, _, e, _⟩
    · exact ⟨none, 0, e⟩
    · exact ⟨_, cap, e⟩
  clear h
  go_enter Try.func53, Try.ntmps53
  go_wp2_with fail
  go_ret
  exact ⟨rfl, rfl⟩
theorem Wlk.pop {S : Nat → Prop} {B : Nat} {w : World} {kp pp dp : Nat} {ka : Ptr} {kc : Nat} {key : List Vl} {g cap : Nat} {ys : List (Ptr × Tre)} {x : Ptr × Tre} (h : Wlk S B w kp pp dp ka kc key (.slice (some ⟨g, 0, none⟩) (ys.length + 1) cap) (ys ++ [x])) :
    Wlk S B (w.setCell ⟨pp, 0, none⟩ (.slice (some ⟨g, 0, none⟩) ys.length cap)) kp pp dp ka kc key (.slice (some ⟨g, 0, none⟩) ys.length cap) ys ∧ Only (Wlk.M pp (.slice (some ⟨g, 0, none⟩) (ys.length + 1) cap)) w (w.setCell ⟨pp, 0, none⟩ (.slice (some ⟨g, 0, none⟩) ys.length cap)) := by
  have o := h.push_only (u := .slice (some ⟨g, 0, none⟩) ys.length cap) (grown_reflT w _)
  have hst := h.stays o
  have hown := h.own
  rw [List.length_append, List.map_append] at hown
  have of := own_front (n := ys.length) hown (by simp)
  have hgpp : g ≠ pp := fun e => h.v_pp (by simp [Value.ownBlock, e])
  have nkp : ¬ Wlk.M pp (.slice (some ⟨g, 0, none⟩) (ys.length + 1) cap) kp := fun hm => hm.elim (fun e => h.kp_pp e) (fun e => h.v_kp e)
  have ndp : ¬ Wlk.M pp (.slice (some ⟨g, 0, none⟩) (ys.length + 1) cap) dp := fun hm => hm.elim (fun e => h.dp_pp e) (fun e => h.v_dp e)
  exact ⟨⟨one_setCell h.path, ownsRow_setCell_other of (fun e => hgpp (by simpa [Value.ownBlock] using e)) _, h.bp, o.cell h.kbox nkp, h.krow.keep hst, o.cell h.dbox ndp, h.kp_pp, h.dp_pp, h.v_pp, h.v_kp, h.v_dp, fun y hy => ⟨(h.trees y (List.mem_append_left _ hy)).1.keep hst, (h.trees y (List.mem_append_left _ hy)).2⟩, h.low, Nat.le_trans h.bw o.size⟩, o⟩
set_option maxRecDepth 100000 in
set_option maxHeartbeats 6400000 in
theorem next_some (hc : Tr.IsOrd rowsOrd) (S : Nat → Prop) (B kp pp dp : Nat) (ka : Ptr) (kc : Nat) (key : List Vl) (v : Value) (ys : List (Ptr × Tre)) (px : Ptr) (l r : Tre) (k r' : List Vl) (w : World) (h : Wlk S B w kp pp dp ka kc key v (ys ++ [(px, .node l k r' r)])) (hn : ys.length + r.n ≤ 1000000000 ∧ r.n ≤ 500000000) :
    Calls Try.prog 53 #[.pointer (some ⟨pp, 0, none⟩), .pointer (some ⟨dp, 0, none⟩)] w fun e w' => e = .returned (.pointer px) ∧ (∃ v' xs, Wlk S B w' kp pp dp ka kc key v' xs ∧ (∀ g, v'.ownBlock = some g → v.ownBlock = some g ∨ w.heap.size ≤ g) ∧ remS key xs = fromL key r.toL ++ remS key ys ∧ xs.length ≤ ys.length + r.n) ∧ Only (Wlk.M pp v) w w' := by
  obtain ⟨g, cap, rfl, hBg, hg⟩ : ∃ g cap, v = .slice (some ⟨g, 0, none⟩) (ys.length + 1) cap ∧ B ≤ g ∧ g < w.heap.size := by
    have := World.ownsRow.form h.own (by simp)
    simpa using this
  obtain ⟨hp, ho⟩ := h.pop
  have pc := cell_of_one h.path
  have pf := free_of_one h.path
  have cx : w.cell? ⟨g, ys.length, none⟩ = some (.pointer px) := by
    have := World.ownsRow.cells h.own (g := g) rfl ys.length (.pointer px) (by simp)
    rw [add_atT] at this
    simpa using this
  obtain ⟨⟨b, tka, tkc, tva, tvc, lp, rp, rfl, hSb, _, ⟨_, _, _, c3, _, _⟩, _, _, h3, h4⟩, _, hs⟩ := h.trees (px, .node l k r' r) (by simp)
  have hst := h.stays ho
  have HD := Lib.hid (down_any hc S B kp pp dp ka kc key (.slice (some ⟨g, 0, none⟩) ys.length cap) ys r rp _ (hp.grown (grown_drewT (grown_reflT _ _))) ((h4.keep hst).keep (.of (grown_drewT (grown_reflT _ _)))) (sorted_r hs) hn)
  have hcap : ys.length + 1 ≤ cap := by
    have hown := h.own
    rw [List.length_append, List.length_singleton] at hown
    rcases hown.2 with ⟨e, _⟩ | ⟨_, _, _, e, _, _, q, _⟩
    · cases e
    · cases e; exact q
  have hdb := (hp.dbox)
  have hneb : b ≠ pp := fun e => by have := h.low b hSb; have := h.bp; omega
  have hned : dp ≠ pp := h.dp_pp
  have hdb0 := h.dbox
  have OO := Lib.hid ho
  have e3 := ho.cell c3 (fun hm => by
    rcases hm with e | e
    · exact hneb e
    · have : g = b := by simpa [Value.ownBlock] using e
      have := h.low b hSb
      omega)
  generalize hy : ys.length = m at *
  have i0 : (0 : Int) ≤ (m : Int) := Int.natCast_nonneg _
  have i1 : (m : Int) < (m : Int) + 1 := by omega
  have i2 : (m : Int) ≤ cap := by omega
  have i4 : IntKind.i64.wrap ((m : Int) + 1 - 1) = (m : Int) := by rw [IntKind.wrap_i64]; omega
  have i5 : ¬ (m : Int) < 0 := by omega
  have i7 : wrap64 (m : Int) = (m : Int) := by unfold wrap64; omega
  have i6 : (m : Int) ≤ (m : Int) + 1 := by omega
  clear h hp ho h3 h4 hs hst hn hc
  go_enter Try.func53, Try.ntmps53
  go_upto_region 6 with fail
  generalize w.setCell ⟨pp, 0, none⟩ (.slice (some ⟨g, 0, none⟩) m cap) = w1 at *
  go_region_with (go_at_call 52; (with_reducible refine HD.out.mono ?_); rintro e w2 ⟨rfl, ⟨v', xs, hw, hg', hr, hl⟩, ho2⟩; have D := Lib.hid (And.intro hw (And.intro hg' (And.intro hr (And.intro hl ho2)))); clear hw hg' hr hl ho2)
  all_goals
    go_wp2_with fail
    go_ret
    obtain ⟨hw, hg', hr, hl, ho2⟩ := D.out
    exact ⟨rfl, ⟨v', xs, hw, fun x hx => (hg' x hx).imp id (fun hq => Nat.le_trans OO.out.size hq), hr, hl⟩, OO.out.drew.trans ho2 (fun b hb => .inl hb)⟩
/-- The next of a walk: nothing more. -/
theorem next_none (S : Nat → Prop) (B kp pp dp : Nat) (ka : Ptr) (kc : Nat) (key : List Vl) (v : Value) (xs : List (Ptr × Tre)) (w : World) (h : Wlk S B w kp pp dp ka kc key v xs) (hr : remS key xs = []) :
    Calls Try.prog 53 #[.pointer (some ⟨pp, 0, none⟩), .pointer (some ⟨dp, 0, none⟩)] w fun e w' => e = .returned (.pointer none) ∧ w = w' := by
  rcases List.eq_nil_or_concat xs with rfl | ⟨ys, x, rfl⟩
  · exact next_nil S B kp pp dp ka kc key v w h
  · rw [List.concat_eq_append] at hr h
    rw [remS_snoc] at hr
    obtain ⟨_, ⟨h0, _⟩, _⟩ := h.trees x (by simp)
    obtain ⟨px, tx⟩ := x
    cases tx with
    | nil => simp [Tr.n] at h0
    | node l k v r => simp [pendT] at hr
theorem pend_len (key : List Vl) : ∀ l : List (Ptr × Tre), (∀ x ∈ l, 0 < x.2.n) → l.length ≤ (l.flatMap fun x => pendT key x.2).length
  | [], _ => by simp
  | (px, .nil) :: l, h => by have := h (px, .nil) (by simp); simp [Tr.n] at this
  | (px, .node a b c d) :: l, h => by
    have := pend_len key l (fun x hx => h x (by simp [hx]))
    rw [List.flatMap_cons, List.length_append]
    have e : (pendT key (Tr.node a b c d)).length = (fromL key d.toL).length + 1 := by simp [pendT]
    simp only [List.length_cons]
    omega
theorem remS_len {S : Nat → Prop} {B : Nat} {w : World} {kp pp dp : Nat} {ka : Ptr} {kc : Nat} {key : List Vl} {v : Value} {xs : List (Ptr × Tre)} (h : Wlk S B w kp pp dp ka kc key v xs) : xs.length ≤ (remS key xs).length := by
  have := pend_len key xs.reverse (fun x hx => (h.trees x (by simpa using hx)).2.1.1)
  rw [List.length_reverse] at this
  exact this
/-- The next of a walk: a pair, and what comes behind it. -/
theorem next_more (hc : Tr.IsOrd rowsOrd) (S : Nat → Prop) (B kp pp dp : Nat) (ka : Ptr) (kc : Nat) (key : List Vl) (v : Value) (xs : List (Ptr × Tre)) (w : World) (k r' : List Vl) (rest : List (List Vl × List Vl)) (h : Wlk S B w kp pp dp ka kc key v xs) (hr : remS key xs = (k, r') :: rest) (hN : rest.length ≤ 400000000) :
    Calls Try.prog 53 #[.pointer (some ⟨pp, 0, none⟩), .pointer (some ⟨dp, 0, none⟩)] w fun e w' => (∃ p, e = .returned (.pointer p) ∧ PairAt S w' p k r') ∧ (∃ v' xs', Wlk S B w' kp pp dp ka kc key v' xs' ∧ (∀ g, v'.ownBlock = some g → v.ownBlock = some g ∨ w.heap.size ≤ g) ∧ remS key xs' = rest) ∧ Only (Wlk.M pp v) w w' := by
  have hlen := remS_len h
  rw [hr] at hlen
  rcases List.eq_nil_or_concat xs with rfl | ⟨ys, x, rfl⟩
  · simp [remS] at hr
  · rw [List.concat_eq_append] at hr h hlen
    rw [remS_snoc] at hr
    obtain ⟨ht, ⟨h0, hn5⟩, _⟩ := h.trees x (by simp)
    obtain ⟨px, tx⟩ := x
    cases tx with
    | nil => simp [Tr.n] at h0
    | node l k0 v0 r =>
      simp only [pendT, List.cons_append, List.cons.injEq, Prod.mk.injEq] at hr
      obtain ⟨⟨rfl, rfl⟩, hr⟩ := hr
      simp only [Tr.n] at hn5
      simp only [List.length_append, List.length_cons, List.length_nil] at hlen
      refine (next_some hc S B kp pp dp ka kc key v ys px l r k0 v0 w h ⟨by omega, by omega⟩).mono ?_
      rintro e w' ⟨rfl, ⟨v', xs', hw', hg', hr', _⟩, ho⟩
      obtain ⟨b, tka, tkc, tva, tvc, lp, rp, hpx, hSb, hb, ⟨c0, c1, _, _, _, _⟩, h1, h2, _, _⟩ := ht
      have hst := h.stays ho
      have hM : ¬ Wlk.M pp v b := fun hm => by
        have := h.low b hSb
        rcases hm with rfl | hm
        · have := h.bp; omega
        · have := (World.ownsRow.lt h.own b hm).1; omega
      exact ⟨⟨px, rfl, b, tka, tkc, tva, tvc, hpx, hSb, Nat.lt_of_lt_of_le hb ho.size, ho.cell c0 hM, ho.cell c1 hM, h1.keep hst, h2.keep hst⟩, ⟨v', xs', hw', hg', by rw [hr', hr]⟩, ho⟩
end Go.Proofs.Ytlmoefiajioeoaa
