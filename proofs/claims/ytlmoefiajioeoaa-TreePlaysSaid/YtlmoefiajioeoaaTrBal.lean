/- tree's turnedRight, turnedLeft and balanced at trees in memory. -/
import Derived.Test.YtlmoefiajioeoaaTrR
namespace Go.Proofs.Ytlmoefiajioeoaa
open Go.RowKit

theorem top_makes (S : Nat → Prop) (l r : Tre) (k v : List Vl) (lp rp ka va : Option Addr) (kc vc : Nat) (w : World) (hS : ∀ b, w.heap.size ≤ b → S b) (hl : TrAt S w l lp) (hr : TrAt S w r rp) (hk : RwS S w ka k) (hv : RwS S w va v) (hn : l.n + r.n ≤ 1073741824) :
    Makes 58 #[.pointer lp, .agg #[.slice ka k.length kc, .slice va v.length vc], .pointer rp] w (fun W p => TrAt S W (.node l k v r) p) := top_any S l r k v lp rp ka va kc vc w hS hl hr hk hv hn
theorem hsS {S : Nat → Prop} {w W : World} (hS : ∀ b, w.heap.size ≤ b → S b) (hg : w.grownBy W none) : ∀ b, W.heap.size ≤ b → S b := fun b hb => hS b (Nat.le_trans hg.size hb)
theorem turnedRight_any (S : Nat → Prop) (l r : Tre) (k v : List Vl) (lp rp ka va : Option Addr) (kc vc : Nat) (w : World) (hS : ∀ b, w.heap.size ≤ b → S b) (hl : TrAt S w l lp) (hr : TrAt S w r rp) (hk : RwS S w ka k) (hv : RwS S w va v) (hn : l.n + r.n ≤ 1073741823) (hh : 0 < l.h) :
    Makes 61 #[.pointer lp, .agg #[.slice ka k.length kc, .slice va v.length vc], .pointer rp] w (fun W p => TrAt S W (Tr.rotR l k v r) p) := by
  cases l with
  | nil => simp [Tr.h] at hh
  | node ll lk lv lr =>
    obtain ⟨b, lka, lkc, lva, lvc, llp, lrp, rfl, _, _, ⟨c0, c1, c2, c3, _, _⟩, h1, h2, h3, h4⟩ := hl
    simp only [Tr.n] at hn
    by_cases hc : lr.h ≤ ll.h
    · have e : Tr.rotR (.node ll lk lv lr) k v r = .node ll lk lv (.node lr k v r) := by simp [Tr.rotR, hc]
      rw [e]
      exact turnR_one b llp lrp rp ka va lka lva k.length kc v.length vc lk.length lkc lv.length lvc ll.h lr.h w (fun W p => TrAt S W (.node lr k v r) p) _ hc ⟨c0, c1, c2, c3⟩
        (Lib.hid fun W hW => height_any S ll llp W (h3.keep (.of hW))) (Lib.hid fun W hW => height_any S lr lrp W (h4.keep (.of hW)))
        (Lib.hid fun W hW => top_makes S lr r k v lrp rp ka va kc vc W (hsS hS hW) (h4.keep (.of hW)) (hr.keep (.of hW)) (hk.keep (.of hW)) (hv.keep (.of hW)) (by omega))
        (Lib.hid fun W p hW hp => top_makes S ll (.node lr k v r) lk lv llp p lka lva lkc lvc W (hsS hS hW) (h3.keep (.of hW)) hp (h1.keep (.of hW)) (h2.keep (.of hW)) (by simp only [Tr.n]; omega))
    · cases lr with
      | nil => simp [Tr.h] at hc
      | node a ik iv d =>
        have e : Tr.rotR (.node ll lk lv (.node a ik iv d)) k v r = .node (.node ll lk lv a) ik iv (.node d k v r) := by simp [Tr.rotR, hc]
        rw [e]
        have H4 := h4
        obtain ⟨c, ika, ikc, iva, ivc, ilp, irp, rfl, _, _, ⟨e0, e1, e2, e3, _, _⟩, g1, g2, g3, g4⟩ := h4
        simp only [Tr.n] at hn
        exact turnR_two b c llp ilp irp rp ka va lka lva ika iva k.length kc v.length vc lk.length lkc lv.length lvc ik.length ikc iv.length ivc ll.h (Tr.h (.node a ik iv d)) w (fun W p => TrAt S W (.node ll lk lv a) p) (fun W p => TrAt S W (.node d k v r) p) _ (by omega) ⟨c0, c1, c2, c3⟩ ⟨e0, e1, e2, e3⟩
          (Lib.hid fun W hW => height_any S ll llp W (h3.keep (.of hW))) (Lib.hid fun W hW => height_any S _ _ W (H4.keep (.of hW)))
          (Lib.hid fun W hW => top_makes S ll a lk lv llp ilp lka lva lkc lvc W (hsS hS hW) (h3.keep (.of hW)) (g3.keep (.of hW)) (h1.keep (.of hW)) (h2.keep (.of hW)) (by omega))
          (Lib.hid fun W hW => top_makes S d r k v irp rp ka va kc vc W (hsS hS hW) (g4.keep (.of hW)) (hr.keep (.of hW)) (hk.keep (.of hW)) (hv.keep (.of hW)) (by omega))
          (Lib.hid fun W W' p hW hp => hp.keep (.of hW)) (Lib.hid fun W W' p hW hp => hp.keep (.of hW))
          (Lib.hid fun W p p' hW hp hp' => top_makes S (.node ll lk lv a) (.node d k v r) ik iv p p' ika iva ikc ivc W (hsS hS hW) hp hp' (g1.keep (.of hW)) (g2.keep (.of hW)) (by simp only [Tr.n]; omega))
theorem turnedLeft_any (S : Nat → Prop) (l r : Tre) (k v : List Vl) (lp rp ka va : Option Addr) (kc vc : Nat) (w : World) (hS : ∀ b, w.heap.size ≤ b → S b) (hl : TrAt S w l lp) (hr : TrAt S w r rp) (hk : RwS S w ka k) (hv : RwS S w va v) (hn : l.n + r.n ≤ 1073741823) (hh : 0 < r.h) :
    Makes 62 #[.pointer lp, .agg #[.slice ka k.length kc, .slice va v.length vc], .pointer rp] w (fun W p => TrAt S W (Tr.rotL l k v r) p) := by
  cases r with
  | nil => simp [Tr.h] at hh
  | node rl rk rv rr =>
    obtain ⟨b, lka, lkc, lva, lvc, llp, lrp, rfl, _, _, ⟨c0, c1, c2, c3, _, _⟩, h1, h2, h3, h4⟩ := hr
    simp only [Tr.n] at hn
    by_cases hc : rl.h ≤ rr.h
    · have e : Tr.rotL l k v (.node rl rk rv rr) = .node (.node l k v rl) rk rv rr := by simp [Tr.rotL, hc]
      rw [e]
      exact turnL_one b llp lrp lp ka va lka lva k.length kc v.length vc rk.length lkc rv.length lvc rl.h rr.h w (fun W p => TrAt S W (.node l k v rl) p) _ hc ⟨c0, c1, c2, c3⟩
        (Lib.hid fun W hW => height_any S rl llp W (h3.keep (.of hW))) (Lib.hid fun W hW => height_any S rr lrp W (h4.keep (.of hW)))
        (Lib.hid fun W hW => top_makes S l rl k v lp llp ka va kc vc W (hsS hS hW) (hl.keep (.of hW)) (h3.keep (.of hW)) (hk.keep (.of hW)) (hv.keep (.of hW)) (by omega))
        (Lib.hid fun W p hW hp => top_makes S (.node l k v rl) rr rk rv p lrp lka lva lkc lvc W (hsS hS hW) hp (h4.keep (.of hW)) (h1.keep (.of hW)) (h2.keep (.of hW)) (by simp only [Tr.n]; omega))
    · cases rl with
      | nil => simp [Tr.h] at hc
      | node a ik iv d =>
        have e : Tr.rotL l k v (.node (.node a ik iv d) rk rv rr) = .node (.node l k v a) ik iv (.node d rk rv rr) := by simp [Tr.rotL, hc]
        rw [e]
        have H3 := h3
        obtain ⟨c, ika, ikc, iva, ivc, ilp, irp, rfl, _, _, ⟨e0, e1, e2, e3, _, _⟩, g1, g2, g3, g4⟩ := h3
        simp only [Tr.n] at hn
        exact turnL_two b c lrp ilp irp lp ka va lka lva ika iva k.length kc v.length vc rk.length lkc rv.length lvc ik.length ikc iv.length ivc rr.h (Tr.h (.node a ik iv d)) w (fun W p => TrAt S W (.node l k v a) p) (fun W p => TrAt S W (.node d rk rv rr) p) _ (by omega) ⟨c0, c1, c2, c3⟩ ⟨e0, e1, e2, e3⟩
          (Lib.hid fun W hW => height_any S rr lrp W (h4.keep (.of hW))) (Lib.hid fun W hW => height_any S _ _ W (H3.keep (.of hW)))
          (Lib.hid fun W hW => top_makes S l a k v lp ilp ka va kc vc W (hsS hS hW) (hl.keep (.of hW)) (g3.keep (.of hW)) (hk.keep (.of hW)) (hv.keep (.of hW)) (by omega))
          (Lib.hid fun W hW => top_makes S d rr rk rv irp lrp lka lva lkc lvc W (hsS hS hW) (g4.keep (.of hW)) (h4.keep (.of hW)) (h1.keep (.of hW)) (h2.keep (.of hW)) (by omega))
          (Lib.hid fun W W' p hW hp => hp.keep (.of hW)) (Lib.hid fun W W' p hW hp => hp.keep (.of hW))
          (Lib.hid fun W p p' hW hp hp' => top_makes S (.node l k v a) (.node d rk rv rr) ik iv p p' ika iva ikc ivc W (hsS hS hW) hp hp' (g1.keep (.of hW)) (g2.keep (.of hW)) (by simp only [Tr.n]; omega))
set_option maxRecDepth 100000 in
set_option maxHeartbeats 3200000 in
theorem balanced_gen (x y m q kc vc : Nat) (lp rp ka va : Ptr) (w : World) (P : World → Ptr → Prop) (hx : x ≤ 1073741824) (hy : y ≤ 1073741824)
    (H1 : Hid (∀ W, w.grownBy W none → Calls Try.prog 30 #[.pointer lp] W fun e w' => e = .returned (.int .i64 x) ∧ W = w'))
    (H2 : Hid (∀ W, w.grownBy W none → Calls Try.prog 30 #[.pointer rp] W fun e w' => e = .returned (.int .i64 y) ∧ W = w'))
    (TR : Hid (x = y + 2 → ∀ W, w.grownBy W none → Makes 61 #[.pointer lp, .agg #[.slice ka m kc, .slice va q vc], .pointer rp] W P))
    (TL : Hid (y = x + 2 → ∀ W, w.grownBy W none → Makes 62 #[.pointer lp, .agg #[.slice ka m kc, .slice va q vc], .pointer rp] W P))
    (TT : Hid (x ≠ y + 2 → y ≠ x + 2 → ∀ W, w.grownBy W none → Makes 58 #[.pointer lp, .agg #[.slice ka m kc, .slice va q vc], .pointer rp] W P)) :
    Makes 50 #[.pointer lp, .agg #[.slice ka m kc, .slice va q vc], .pointer rp] w P := by
  have K0 := Lib.hid (World.grownBy_alloc w (.cells #[.slice ka m kc, .slice va q vc] 86) none)
  obtain ⟨x0, x1⟩ := Box2.new w (.slice ka m kc) (.slice va q vc) 86
  unfold Makes
  have hw : IntKind.i64.wrap ((x : Int) - y) = (x : Int) - y := by rw [IntKind.wrap_i64]; omega
  by_cases c1 : x = y + 2
  · have T := Lib.hid (fun W hW => Makes.calls (TR.out c1 W hW))
    have d1 : ((x : Int) - y == 2) = true := beq_iff_eq.2 (by omega)
    clear c1 TL TT TR
    go_enter Try.func50, Try.ntmps50
    go_wp2_with fail
    refine (H1.out _ K0.out).mono ?_
    rintro e w1 ⟨rfl, rfl⟩
    go_wp2_with fail
    refine (H2.out _ K0.out).mono ?_
    rintro e w1 ⟨rfl, rfl⟩
    go_wp2_with fail
    refine (T.out _ K0.out).mono ?_
    rintro e w2 ⟨⟨p, rfl, hp⟩, hg⟩
    have D := Lib.hid (And.intro hp (K0.out.trans hg))
    clear hp hg
    go_wp2_with fail
    go_ret
    exact ⟨⟨_, rfl, D.out.1⟩, D.out.2⟩
  · by_cases c2 : y = x + 2
    · have T := Lib.hid (fun W hW => Makes.calls (TL.out c2 W hW))
      have d1 : ((x : Int) - y == 2) = false := beq_eq_false_iff_ne.2 (by omega)
      have d2 : ((x : Int) - y == -2) = true := beq_iff_eq.2 (by omega)
      clear c1 c2 TL TT TR
      go_enter Try.func50, Try.ntmps50
      go_wp2_with fail
      refine (H1.out _ K0.out).mono ?_
      rintro e w1 ⟨rfl, rfl⟩
      go_wp2_with fail
      refine (H2.out _ K0.out).mono ?_
      rintro e w1 ⟨rfl, rfl⟩
      go_wp2_with fail
      refine (T.out _ K0.out).mono ?_
      rintro e w2 ⟨⟨p, rfl, hp⟩, hg⟩
      have D := Lib.hid (And.intro hp (K0.out.trans hg))
      clear hp hg
      go_wp2_with fail
      go_ret
      exact ⟨⟨_, rfl, D.out.1⟩, D.out.2⟩
    · have T := Lib.hid (fun W hW => Makes.calls (TT.out c1 c2 W hW))
      have d1 : ((x : Int) - y == 2) = false := beq_eq_false_iff_ne.2 (by omega)
      have d2 : ((x : Int) - y == -2) = false := beq_eq_false_iff_ne.2 (by omega)
      clear c1 c2 TL TT TR
      go_enter Try.func50, Try.ntmps50
      go_wp2_with fail
      refine (H1.out _ K0.out).mono ?_
      rintro e w1 ⟨rfl, rfl⟩
      go_wp2_with fail
      refine (H2.out _ K0.out).mono ?_
      rintro e w1 ⟨rfl, rfl⟩
      go_wp2_with fail
      refine (T.out _ K0.out).mono ?_
      rintro e w2 ⟨⟨p, rfl, hp⟩, hg⟩
      have D := Lib.hid (And.intro hp (K0.out.trans hg))
      clear hp hg
      go_wp2_with fail
      go_ret
      exact ⟨⟨_, rfl, D.out.1⟩, D.out.2⟩
theorem balanced_any (S : Nat → Prop) (l r : Tre) (k v : List Vl) (lp rp ka va : Option Addr) (kc vc : Nat) (w : World) (hS : ∀ b, w.heap.size ≤ b → S b) (hl : TrAt S w l lp) (hr : TrAt S w r rp) (hk : RwS S w ka k) (hv : RwS S w va v) (hn : l.n + r.n ≤ 1073741823) :
    Makes 50 #[.pointer lp, .agg #[.slice ka k.length kc, .slice va v.length vc], .pointer rp] w (fun W p => TrAt S W (Tr.bal l k v r) p) := by
  have a1 := Tr.h_le l
  have a2 := Tr.h_le r
  refine balanced_gen l.h r.h k.length v.length kc vc lp rp ka va w _ (by omega) (by omega) (Lib.hid fun W hW => height_any S l lp W (hl.keep (.of hW))) (Lib.hid fun W hW => height_any S r rp W (hr.keep (.of hW))) (Lib.hid fun hc W hW => ?_) (Lib.hid fun hc W hW => ?_) (Lib.hid fun hc hc' W hW => ?_)
  · have e : Tr.bal l k v r = Tr.rotR l k v r := by unfold Tr.bal; rw [if_pos hc]
    rw [e]
    exact turnedRight_any S l r k v lp rp ka va kc vc W (hsS hS hW) (hl.keep (.of hW)) (hr.keep (.of hW)) (hk.keep (.of hW)) (hv.keep (.of hW)) hn (by omega)
  · have e : Tr.bal l k v r = Tr.rotL l k v r := by unfold Tr.bal; rw [if_neg (by omega), if_pos hc]
    rw [e]
    exact turnedLeft_any S l r k v lp rp ka va kc vc W (hsS hS hW) (hl.keep (.of hW)) (hr.keep (.of hW)) (hk.keep (.of hW)) (hv.keep (.of hW)) hn (by omega)
  · have e : Tr.bal l k v r = .node l k v r := by unfold Tr.bal; rw [if_neg hc, if_neg hc']
    rw [e]
    exact top_makes S l r k v lp rp ka va kc vc W (hsS hS hW) (hl.keep (.of hW)) (hr.keep (.of hW)) (hk.keep (.of hW)) (hv.keep (.of hW)) (by omega)
end Go.Proofs.Ytlmoefiajioeoaa
