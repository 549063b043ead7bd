/- tree's turnedRight, turnedLeft and balanced at trees in memory. What schema's review and Check answer at any tables. tree's put. -/
import Derived.Test.YtnfpomjcofhppaaGreatDoorZb08
import Derived.Test.YtnfpomjcofhppaaGreatDoorZb10
import Derived.Deep.DeepCutAuto
namespace Go.Proofs.YtnfpomjcofhppaaGreatDoor
open Go.RowKit

theorem top_makes (S : Nat → Prop) (l r : Tre) (k v : List Vl) (lp rp ka va : Option Addr) (kc vc : Nat) (w : World) (hS : ∀ b, w.heap.size ≤ b → S b) (hl : TrAt S w l lp) (hr : TrAt S w r rp) (hk : RwS S w ka k) (hv : RwS S w va v) (hn : l.n + r.n ≤ 1073741824) :
    Makes 98 #[.pointer lp, .agg #[.slice ka k.length kc, .slice va v.length vc], .pointer rp] w (fun W p => TrAt S W (.node l k v r) p) := top_any S l r k v lp rp ka va kc vc w hS hl hr hk hv hn
theorem hsS {S : Nat → Prop} {w W : World} (hS : ∀ b, w.heap.size ≤ b → S b) (hg : w.grownBy W none) : ∀ b, W.heap.size ≤ b → S b := fun b hb => hS b (Nat.le_trans hg.size hb)
theorem turnedRight_any (S : Nat → Prop) (l r : Tre) (k v : List Vl) (lp rp ka va : Option Addr) (kc vc : Nat) (w : World) (hS : ∀ b, w.heap.size ≤ b → S b) (hl : TrAt S w l lp) (hr : TrAt S w r rp) (hk : RwS S w ka k) (hv : RwS S w va v) (hn : l.n + r.n ≤ 1073741823) (hh : 0 < l.h) :
    Makes 96 #[.pointer lp, .agg #[.slice ka k.length kc, .slice va v.length vc], .pointer rp] w (fun W p => TrAt S W (Tr.rotR l k v r) p) := by
  cases l with
  | nil => simp [Tr.h] at hh
  | node ll lk lv lr =>
    obtain ⟨b, lka, lkc, lva, lvc, llp, lrp, rfl, _, _, ⟨c0, c1, c2, c3, _, _⟩, h1, h2, h3, h4⟩ := hl
    simp only [Tr.n] at hn
    by_cases hc : lr.h ≤ ll.h
    · have e : Tr.rotR (.node ll lk lv lr) k v r = .node ll lk lv (.node lr k v r) := by simp [Tr.rotR, hc]
      rw [e]
      exact turnR_one b llp lrp rp ka va lka lva k.length kc v.length vc lk.length lkc lv.length lvc ll.h lr.h w (fun W p => TrAt S W (.node lr k v r) p) _ hc ⟨c0, c1, c2, c3⟩
        (Lib.hid fun W hW => height_any S ll llp W (h3.keep (.of hW))) (Lib.hid fun W hW => height_any S lr lrp W (h4.keep (.of hW)))
        (Lib.hid fun W hW => top_makes S lr r k v lrp rp ka va kc vc W (hsS hS hW) (h4.keep (.of hW)) (hr.keep (.of hW)) (hk.keep (.of hW)) (hv.keep (.of hW)) (by omega))
        (Lib.hid fun W p hW hp => top_makes S ll (.node lr k v r) lk lv llp p lka lva lkc lvc W (hsS hS hW) (h3.keep (.of hW)) hp (h1.keep (.of hW)) (h2.keep (.of hW)) (by simp only [Tr.n]; omega))
    · cases lr with
      | nil => simp [Tr.h] at hc
      | node a ik iv d =>
        have e : Tr.rotR (.node ll lk lv (.node a ik iv d)) k v r = .node (.node ll lk lv a) ik iv (.node d k v r) := by simp [Tr.rotR, hc]
        rw [e]
        have H4 := h4
        obtain ⟨c, ika, ikc, iva, ivc, ilp, irp, rfl, _, _, ⟨e0, e1, e2, e3, _, _⟩, g1, g2, g3, g4⟩ := h4
        simp only [Tr.n] at hn
        exact turnR_two b c llp ilp irp rp ka va lka lva ika iva k.length kc v.length vc lk.length lkc lv.length lvc ik.length ikc iv.length ivc ll.h (Tr.h (.node a ik iv d)) w (fun W p => TrAt S W (.node ll lk lv a) p) (fun W p => TrAt S W (.node d k v r) p) _ (by omega) ⟨c0, c1, c2, c3⟩ ⟨e0, e1, e2, e3⟩
          (Lib.hid fun W hW => height_any S ll llp W (h3.keep (.of hW))) (Lib.hid fun W hW => height_any S _ _ W (H4.keep (.of hW)))
          (Lib.hid fun W hW => top_makes S ll a lk lv llp ilp lka lva lkc lvc W (hsS hS hW) (h3.keep (.of hW)) (g3.keep (.of hW)) (h1.keep (.of hW)) (h2.keep (.of hW)) (by omega))
          (Lib.hid fun W hW => top_makes S d r k v irp rp ka va kc vc W (hsS hS hW) (g4.keep (.of hW)) (hr.keep (.of hW)) (hk.keep (.of hW)) (hv.keep (.of hW)) (by omega))
          (Lib.hid fun W W' p hW hp => hp.keep (.of hW)) (Lib.hid fun W W' p hW hp => hp.keep (.of hW))
          (Lib.hid fun W p p' hW hp hp' => top_makes S (.node ll lk lv a) (.node d k v r) ik iv p p' ika iva ikc ivc W (hsS hS hW) hp hp' (g1.keep (.of hW)) (g2.keep (.of hW)) (by simp only [Tr.n]; omega))
theorem turnedLeft_any (S : Nat → Prop) (l r : Tre) (k v : List Vl) (lp rp ka va : Option Addr) (kc vc : Nat) (w : World) (hS : ∀ b, w.heap.size ≤ b → S b) (hl : TrAt S w l lp) (hr : TrAt S w r rp) (hk : RwS S w ka k) (hv : RwS S w va v) (hn : l.n + r.n ≤ 1073741823) (hh : 0 < r.h) :
    Makes 97 #[.pointer lp, .agg #[.slice ka k.length kc, .slice va v.length vc], .pointer rp] w (fun W p => TrAt S W (Tr.rotL l k v r) p) := by
  cases r with
  | nil => simp [Tr.h] at hh
  | node rl rk rv rr =>
    obtain ⟨b, lka, lkc, lva, lvc, llp, lrp, rfl, _, _, ⟨c0, c1, c2, c3, _, _⟩, h1, h2, h3, h4⟩ := hr
    simp only [Tr.n] at hn
    by_cases hc : rl.h ≤ rr.h
    · have e : Tr.rotL l k v (.node rl rk rv rr) = .node (.node l k v rl) rk rv rr := by simp [Tr.rotL, hc]
      rw [e]
      exact turnL_one b llp lrp lp ka va lka lva k.length kc v.length vc rk.length lkc rv.length lvc rl.h rr.h w (fun W p => TrAt S W (.node l k v rl) p) _ hc ⟨c0, c1, c2, c3⟩
        (Lib.hid fun W hW => height_any S rl llp W (h3.keep (.of hW))) (Lib.hid fun W hW => height_any S rr lrp W (h4.keep (.of hW)))
        (Lib.hid fun W hW => top_makes S l rl k v lp llp ka va kc vc W (hsS hS hW) (hl.keep (.of hW)) (h3.keep (.of hW)) (hk.keep (.of hW)) (hv.keep (.of hW)) (by omega))
        (Lib.hid fun W p hW hp => top_makes S (.node l k v rl) rr rk rv p lrp lka lva lkc lvc W (hsS hS hW) hp (h4.keep (.of hW)) (h1.keep (.of hW)) (h2.keep (.of hW)) (by simp only [Tr.n]; omega))
    · cases rl with
      | nil => simp [Tr.h] at hc
      | node a ik iv d =>
        have e : Tr.rotL l k v (.node (.node a ik iv d) rk rv rr) = .node (.node l k v a) ik iv (.node d rk rv rr) := by simp [Tr.rotL, hc]
        rw [e]
        have H3 := h3
        obtain ⟨c, ika, ikc, iva, ivc, ilp, irp, rfl, _, _, ⟨e0, e1, e2, e3, _, _⟩, g1, g2, g3, g4⟩ := h3
        simp only [Tr.n] at hn
        exact turnL_two b c lrp ilp irp lp ka va lka lva ika iva k.length kc v.length vc rk.length lkc rv.length lvc ik.length ikc iv.length ivc rr.h (Tr.h (.node a ik iv d)) w (fun W p => TrAt S W (.node l k v a) p) (fun W p => TrAt S W (.node d rk rv rr) p) _ (by omega) ⟨c0, c1, c2, c3⟩ ⟨e0, e1, e2, e3⟩
          (Lib.hid fun W hW => height_any S rr lrp W (h4.keep (.of hW))) (Lib.hid fun W hW => height_any S _ _ W (H3.keep (.of hW)))
          (Lib.hid fun W hW => top_makes S l a k v lp ilp ka va kc vc W (hsS hS hW) (hl.keep (.of hW)) (g3.keep (.of hW)) (hk.keep (.of hW)) (hv.keep (.of hW)) (by omega))
          (Lib.hid fun W hW => top_makes S d rr rk rv irp lrp lka lva lkc lvc W (hsS hS hW) (g4.keep (.of hW)) (h4.keep (.of hW)) (h1.keep (.of hW)) (h2.keep (.of hW)) (by omega))
          (Lib.hid fun W W' p hW hp => hp.keep (.of hW)) (Lib.hid fun W W' p hW hp => hp.keep (.of hW))
          (Lib.hid fun W p p' hW hp hp' => top_makes S (.node l k v a) (.node d rk rv rr) ik iv p p' ika iva ikc ivc W (hsS hS hW) hp hp' (g1.keep (.of hW)) (g2.keep (.of hW)) (by simp only [Tr.n]; omega))
set_option maxRecDepth 100000 in
set_option maxHeartbeats 3200000 in
theorem balanced_gen (x y m q kc vc : Nat) (lp rp ka va : Ptr) (w : World) (P : World → Ptr → Prop) (hx : x ≤ 1073741824) (hy : y ≤ 1073741824)
    (H1 : Hid (∀ W, w.grownBy W none → Calls Tryz.prog 95 #[.pointer lp] W fun e w' => e = .returned (.int .i64 x) ∧ W = w'))
    (H2 : Hid (∀ W, w.grownBy W none → Calls Tryz.prog 95 #[.pointer rp] W fun e w' => e = .returned (.int .i64 y) ∧ W = w'))
    (TR : Hid (x = y + 2 → ∀ W, w.grownBy W none → Makes 96 #[.pointer lp, .agg #[.slice ka m kc, .slice va q vc], .pointer rp] W P))
    (TL : Hid (y = x + 2 → ∀ W, w.grownBy W none → Makes 97 #[.pointer lp, .agg #[.slice ka m kc, .slice va q vc], .pointer rp] W P))
    (TT : Hid (x ≠ y + 2 → y ≠ x + 2 → ∀ W, w.grownBy W none → Makes 98 #[.pointer lp, .agg #[.slice ka m kc, .slice va q vc], .pointer rp] W P)) :
    Makes 80 #[.pointer lp, .agg #[.slice ka m kc, .slice va q vc], .pointer rp] w P := by
  have K0 := Lib.hid (World.grownBy_alloc w (.cells #[.slice ka m kc, .slice va q vc] 174) none)
  obtain ⟨x0, x1⟩ := Box2.new w (.slice ka m kc) (.slice va q vc) 174
  unfold Makes
  have hw : IntKind.i64.wrap ((x : Int) - y) = (x : Int) - y := by rw [IntKind.wrap_i64]; omega
  by_cases c1 : x = y + 2
  · have T := Lib.hid (fun W hW => Makes.calls (TR.out c1 W hW))
    have d1 : ((x : Int) - y == 2) = true := beq_iff_eq.2 (by omega)
    clear c1 TL TT TR
    go_enter Tryz.func80, Tryz.ntmps80
    go_wp2_with fail
    refine (H1.out _ K0.out).mono ?_
    rintro e w1 ⟨rfl, rfl⟩
    go_wp2_with fail
    refine (H2.out _ K0.out).mono ?_
    rintro e w1 ⟨rfl, rfl⟩
    go_wp2_with fail
    refine (T.out _ K0.out).mono ?_
    rintro e w2 ⟨⟨p, rfl, hp⟩, hg⟩
    have D := Lib.hid (And.intro hp (K0.out.trans hg))
    clear hp hg
    go_wp2_with fail
    go_ret
    exact ⟨⟨_, rfl, D.out.1⟩, D.out.2⟩
  · by_cases c2 : y = x + 2
    · have T := Lib.hid (fun W hW => Makes.calls (TL.out c2 W hW))
      have d1 : ((x : Int) - y == 2) = false := beq_eq_false_iff_ne.2 (by omega)
      have d2 : ((x : Int) - y == -2) = true := beq_iff_eq.2 (by omega)
      clear c1 c2 TL TT TR
      go_enter Tryz.func80, Tryz.ntmps80
      go_wp2_with fail
      refine (H1.out _ K0.out).mono ?_
      rintro e w1 ⟨rfl, rfl⟩
      go_wp2_with fail
      refine (H2.out _ K0.out).mono ?_
      rintro e w1 ⟨rfl, rfl⟩
      go_wp2_with fail
      refine (T.out _ K0.out).mono ?_
      rintro e w2 ⟨⟨p, rfl, hp⟩, hg⟩
      have D := Lib.hid (And.intro hp (K0.out.trans hg))
      clear hp hg
      go_wp2_with fail
      go_ret
      exact ⟨⟨_, rfl, D.out.1⟩, D.out.2⟩
    · have T := Lib.hid (fun W hW => Makes.calls (TT.out c1 c2 W hW))
      have d1 : ((x : Int) - y == 2) = false := beq_eq_false_iff_ne.2 (by omega)
      have d2 : ((x : Int) - y == -2) = false := beq_eq_false_iff_ne.2 (by omega)
      clear c1 c2 TL TT TR
      go_enter Tryz.func80, Tryz.ntmps80
      go_wp2_with fail
      refine (H1.out _ K0.out).mono ?_
      rintro e w1 ⟨rfl, rfl⟩
      go_wp2_with fail
      refine (H2.out _ K0.out).mono ?_
      rintro e w1 ⟨rfl, rfl⟩
      go_wp2_with fail
      refine (T.out _ K0.out).mono ?_
      rintro e w2 ⟨⟨p, rfl, hp⟩, hg⟩
      have D := Lib.hid (And.intro hp (K0.out.trans hg))
      clear hp hg
      go_wp2_with fail
      go_ret
      exact ⟨⟨_, rfl, D.out.1⟩, D.out.2⟩
theorem balanced_any (S : Nat → Prop) (l r : Tre) (k v : List Vl) (lp rp ka va : Option Addr) (kc vc : Nat) (w : World) (hS : ∀ b, w.heap.size ≤ b → S b) (hl : TrAt S w l lp) (hr : TrAt S w r rp) (hk : RwS S w ka k) (hv : RwS S w va v) (hn : l.n + r.n ≤ 1073741823) :
    Makes 80 #[.pointer lp, .agg #[.slice ka k.length kc, .slice va v.length vc], .pointer rp] w (fun W p => TrAt S W (Tr.bal l k v r) p) := by
  have a1 := Tr.h_le l
  have a2 := Tr.h_le r
  refine balanced_gen l.h r.h k.length v.length kc vc lp rp ka va w _ (by omega) (by omega) (Lib.hid fun W hW => height_any S l lp W (hl.keep (.of hW))) (Lib.hid fun W hW => height_any S r rp W (hr.keep (.of hW))) (Lib.hid fun hc W hW => ?_) (Lib.hid fun hc W hW => ?_) (Lib.hid fun hc hc' W hW => ?_)
  · have e : Tr.bal l k v r = Tr.rotR l k v r := by unfold Tr.bal; rw [if_pos hc]
    rw [e]
    exact turnedRight_any S l r k v lp rp ka va kc vc W (hsS hS hW) (hl.keep (.of hW)) (hr.keep (.of hW)) (hk.keep (.of hW)) (hv.keep (.of hW)) hn (by omega)
  · have e : Tr.bal l k v r = Tr.rotL l k v r := by unfold Tr.bal; rw [if_neg (by omega), if_pos hc]
    rw [e]
    exact turnedLeft_any S l r k v lp rp ka va kc vc W (hsS hS hW) (hl.keep (.of hW)) (hr.keep (.of hW)) (hk.keep (.of hW)) (hv.keep (.of hW)) hn (by omega)
  · have e : Tr.bal l k v r = .node l k v r := by unfold Tr.bal; rw [if_neg hc, if_neg hc']
    rw [e]
    exact top_makes S l r k v lp rp ka va kc vc W (hsS hS hW) (hl.keep (.of hW)) (hr.keep (.of hW)) (hk.keep (.of hW)) (hv.keep (.of hW)) (by omega)
end Go.Proofs.YtnfpomjcofhppaaGreatDoor
namespace Go.Proofs.YtnfpomjcofhppaaGreatDoor
open Go.RowKit

/-- The first flaw: of the table of number k, told by y. -/
def Flaw6 (F M T : Nat → Prop) (n k : Nat) (y : Int) : Prop := k < n ∧ (∀ i, i < k → F i ∧ M i ∧ T i) ∧ (¬ F k ∧ y = 3 ∨ F k ∧ ¬ M k ∧ y = 2 ∨ F k ∧ M k ∧ ¬ T k ∧ y = 23)
theorem yes6 {P : Prop} {p : Program} {f : FuncId} {vs : Array Value} {W : World} (hp : P) (h : Calls p f vs W fun e w' => (P ∧ e = .returned .nilIface ∨ ¬ P ∧ ∃ ty q, e = .returned (.iface ty q)) ∧ W.grownBy w' none) : Calls p f vs W fun e w' => e = .returned .nilIface ∧ W.grownBy w' none :=
  h.mono fun e w' h => ⟨by rcases h.1 with ⟨_, h⟩ | ⟨h, _⟩; exact h; exact absurd hp h, h.2⟩
theorem no6 {P : Prop} {p : Program} {f : FuncId} {vs : Array Value} {W : World} (hp : ¬ P) (h : Calls p f vs W fun e w' => (P ∧ e = .returned .nilIface ∨ ¬ P ∧ ∃ ty q, e = .returned (.iface ty q)) ∧ W.grownBy w' none) : Calls p f vs W fun e w' => (∃ ty q, e = .returned (.iface ty q)) ∧ W.grownBy w' none :=
  h.mono fun e w' h => ⟨by rcases h.1 with ⟨h, _⟩ | ⟨_, h⟩; exact absurd h hp; exact h, h.2⟩
set_option maxRecDepth 100000 in
set_option maxHeartbeats 3200000 in
theorem review_walk (a : Option Addr) (cap : Nat) (l : List Tb) (w : World) (h : TabsAt w.heap.size w a l) (hcap : l.length ≤ cap) (F M T : Nat → Prop)
    (HF0 : ∀ k, k < l.length → ∀ W, w.grownBy W none → Calls Tryz.prog 72 #[.int .i64 k, .agg #[.string (l.getD k default).n, .slice (l.getD k default).a (l.getD k default).l.length (l.getD k default).cap, .int .i64 (l.getD k default).k]] W fun e w' => (F k ∧ e = .returned .nilIface ∨ ¬ F k ∧ ∃ ty q, e = .returned (.iface ty q)) ∧ W.grownBy w' none)
    (HM0 : ∀ k, k < l.length → ∀ W, w.grownBy W none → Calls Tryz.prog 73 #[.agg #[.string (l.getD k default).n, .slice (l.getD k default).a (l.getD k default).l.length (l.getD k default).cap, .int .i64 (l.getD k default).k]] W fun e w' => (M k ∧ e = .returned .nilIface ∨ ¬ M k ∧ ∃ ty q, e = .returned (.iface ty q)) ∧ W.grownBy w' none)
    (HW0 : ∀ k, k < l.length → ∀ W, w.grownBy W none → Calls Tryz.prog 74 #[.slice a k cap, .agg #[.string (l.getD k default).n, .slice (l.getD k default).a (l.getD k default).l.length (l.getD k default).cap, .int .i64 (l.getD k default).k]] W fun e w' => (T k ∧ e = .returned .nilIface ∨ ¬ T k ∧ ∃ ty q, e = .returned (.iface ty q)) ∧ W.grownBy w' none) :
    Calls Tryz.prog 55 #[.slice a l.length cap] w fun e w' => ((∀ i, i < l.length → F i ∧ M i ∧ T i) ∧ e = .returned .nilIface ∨ ∃ k y, Flaw6 F M T l.length k y ∧ ∃ ty p, e = .returned (.iface 145 (.agg #[.int .i64 k, .int .i64 y, .iface ty p]))) ∧ w.grownBy w' none := by
  have HF := Lib.hid HF0
  have HM := Lib.hid HM0
  have HW := Lib.hid HW0
  have H := Lib.hid h
  have hlen := h.1
  obtain ⟨n, hn⟩ : ∃ n, n = l.length := ⟨_, rfl⟩
  have Hn := Lib.hid hn
  rw [← hn] at hlen hcap HF HM HW ⊢
  clear h hn HF0 HM0 HW0
  go_enter Tryz.func55, Tryz.ntmps55
  go_wp2_with fail
  go_loopw [10] (fun i wr => ∃ (k : Nat), i = .int .i64 k ∧ k ≤ n ∧ Hid (∀ i, i < k → F i ∧ M i ∧ T i) ∧ Hid (w.grownBy wr none)) (fun i _ => n - (intOf i).toNat)
  case atStart => exact ⟨0, rfl, by omega, Lib.hid (fun i hi => by omega), Lib.hid (grown_refl6 _ _)⟩
  case round =>
    obtain ⟨k, rfl, hk, E, KR⟩ := hrel
    by_cases hlt : k < n
    · obtain ⟨b, off, rfl, _, c0, c1, c2⟩ := (H.out.keep KR.out (by simp)).at (i := k) (by rw [← Hn.out]; exact hlt)
      have HF1 := Lib.hid (HF.out k hlt)
      have HM1 := Lib.hid (HM.out k hlt)
      have HW1 := Lib.hid (HW.out k hlt)
      clear HF HM HW
      generalize l.getD k default = x at *
      obtain ⟨xn, xa, xc, xl, xk⟩ := x
      simp only at c0 c1 c2 HF1 HM1 HW1
      generalize xl.length = xm at *
      have bx := Lib.hid (box3_new6 wr (.string xn) (.slice xa xm xc) (.int .i64 xk) 50)
      have KA := Lib.hid (KR.out.trans (World.grownBy_alloc wr (.cells #[.string xn, .slice xa xm xc, .int .i64 xk] 50) none))
      have j0 : (k : Int) ≤ cap := by omega
      by_cases hF : F k
      · have HF2 := Lib.hid (fun W hW => yes6 hF (HF1.out W hW))
        by_cases hM : M k
        · have HM2 := Lib.hid (fun W hW => yes6 hM (HM1.out W hW))
          by_cases hT : T k
          · have HW2 := Lib.hid (fun W hW => yes6 hT (HW1.out W hW))
            have E2 : Hid (∀ i, i < k + 1 → F i ∧ M i ∧ T i) := Lib.hid fun i hi => by
              by_cases e : i = k
              · rw [e]; exact ⟨hF, hM, hT⟩
              · exact E.out i (by omega)
            clear HF1 HM1 HW1 hF hM hT
            go_wp2_with fail
            refine (HF2.out _ KA.out).mono ?_
            rintro e w2 ⟨rfl, hg⟩
            have K2 := Lib.hid (KA.out.trans hg)
            have d0 := hg.cell bx.out.1 (by simp)
            have d1 := hg.cell bx.out.2.1 (by simp)
            have d2 := hg.cell bx.out.2.2 (by simp)
            have B2 := Lib.hid (And.intro d0 (And.intro d1 d2))
            clear hg
            go_wp2_with fail
            refine (HM2.out _ K2.out).mono ?_
            rintro e w3 ⟨rfl, hg⟩
            have K3 := Lib.hid (K2.out.trans hg)
            have e0 := hg.cell B2.out.1 (by simp)
            have e1 := hg.cell B2.out.2.1 (by simp)
            have e2 := hg.cell B2.out.2.2 (by simp)
            clear hg d0 d1 d2 c0 c1 c2
            go_wp2_with fail
            go_region_with (go_at_call 74; (with_reducible refine (HW2.out _ (by first | exact K3.out | exact grown_drew6 K3.out)).mono ?_); rintro e w4 ⟨rfl, hg4⟩; have K4 := Lib.hid hg4)
            all_goals
              go_wp2_with fail
              go_roundw
              case rel => exact ⟨k + 1, by go_num, by omega, E2, Lib.hid ((grown_drew6 K3.out).trans K4.out)⟩
              case measure => simp [intOf]; omega
          · have HW2 := Lib.hid (fun W hW => no6 hT (HW1.out W hW))
            have FL : Hid (Flaw6 F M T n k 23) := Lib.hid ⟨hlt, E.out, .inr (.inr ⟨hF, hM, hT, rfl⟩)⟩
            clear HF1 HM1 HW1 hF hM hT
            go_wp2_with fail
            refine (HF2.out _ KA.out).mono ?_
            rintro e w2 ⟨rfl, hg⟩
            have K2 := Lib.hid (KA.out.trans hg)
            have d0 := hg.cell bx.out.1 (by simp)
            have d1 := hg.cell bx.out.2.1 (by simp)
            have d2 := hg.cell bx.out.2.2 (by simp)
            have B2 := Lib.hid (And.intro d0 (And.intro d1 d2))
            clear hg
            go_wp2_with fail
            refine (HM2.out _ K2.out).mono ?_
            rintro e w3 ⟨rfl, hg⟩
            have K3 := Lib.hid (K2.out.trans hg)
            have e0 := hg.cell B2.out.1 (by simp)
            have e1 := hg.cell B2.out.2.1 (by simp)
            have e2 := hg.cell B2.out.2.2 (by simp)
            clear hg d0 d1 d2 c0 c1 c2
            go_wp2_with fail
            go_region_with (go_at_call 74; (with_reducible refine (HW2.out _ (by first | exact K3.out | exact grown_drew6 K3.out)).mono ?_); rintro e w4 ⟨⟨ty, p, rfl⟩, hg4⟩; have K4 := Lib.hid hg4)
            all_goals
              have K5 := Lib.hid ((grown_drew6 K3.out).trans K4.out)
              go_wp2_with fail
              go_ret
              exact ⟨.inr ⟨k, 23, FL.out, ty, p, rfl⟩, K5.out⟩
        · have HM2 := Lib.hid (fun W hW => no6 hM (HM1.out W hW))
          have FL : Hid (Flaw6 F M T n k 2) := Lib.hid ⟨hlt, E.out, .inr (.inl ⟨hF, hM, rfl⟩)⟩
          clear HF1 HM1 HW1 hF hM
          go_wp2_with fail
          refine (HF2.out _ KA.out).mono ?_
          rintro e w2 ⟨rfl, hg⟩
          have K2 := Lib.hid (KA.out.trans hg)
          have d0 := hg.cell bx.out.1 (by simp)
          have d1 := hg.cell bx.out.2.1 (by simp)
          have d2 := hg.cell bx.out.2.2 (by simp)
          clear hg
          go_wp2_with fail
          refine (HM2.out _ K2.out).mono ?_
          rintro e w3 ⟨⟨ty, p, rfl⟩, hg3⟩
          have K3 := Lib.hid (K2.out.trans hg3)
          clear hg3
          go_wp2_with fail
          go_ret
          exact ⟨.inr ⟨k, 2, FL.out, ty, p, rfl⟩, K3.out⟩
      · have HF2 := Lib.hid (fun W hW => no6 hF (HF1.out W hW))
        have FL : Hid (Flaw6 F M T n k 3) := Lib.hid ⟨hlt, E.out, .inl ⟨hF, rfl⟩⟩
        clear HF1 HM1 HW1 hF
        go_wp2_with fail
        refine (HF2.out _ KA.out).mono ?_
        rintro e w3 ⟨⟨ty, p, rfl⟩, hg3⟩
        have K3 := Lib.hid (KA.out.trans hg3)
        clear hg3
        go_wp2_with fail
        go_ret
        exact ⟨.inr ⟨k, 3, FL.out, ty, p, rfl⟩, K3.out⟩
    · obtain rfl : k = n := by omega
      go_wp2_with fail
      go_ret
      exact ⟨.inl ⟨E.out, rfl⟩, KR.out⟩
end Go.Proofs.YtnfpomjcofhppaaGreatDoor
namespace Go.Proofs.YtnfpomjcofhppaaGreatDoor
open Go.RowKit

theorem Tr.bal_n {K R : Type} (l : Tr K R) (k : K) (v : R) (r : Tr K R) : (Tr.bal l k v r).n = l.n + 1 + r.n := by
  rw [Tr.n_toL, Tr.bal_toL, Tr.n_toL l, Tr.n_toL r, List.length_append, List.length_cons]
  omega
theorem Tr.put_n {K R : Type} (c : K → K → Int) (k : K) (v : R) : ∀ t : Tr K R, (Tr.put c k v t).n ≤ t.n + 1
  | .nil => by simp [Tr.put, Tr.n]
  | .node l k' v' r => by
    have h1 := Tr.put_n c k v l
    have h2 := Tr.put_n c k v r
    simp only [Tr.put]
    split
    · rw [Tr.bal_n]; simp only [Tr.n]; omega
    · split
      · rw [Tr.bal_n]; simp only [Tr.n]; omega
      · simp only [Tr.n]; omega
set_option maxRecDepth 100000 in
set_option maxHeartbeats 6400000 in
theorem put_lt (b : Nat) (lp rp ka va tka tva : Ptr) (m kc q vc tm tkc tq tvc n : Nat) (c : Int) (w : World) (P1 P2 : World → Ptr → Prop) (hn : 0 < n) (hc : c < 0)
    (HB : Box4 b w (.slice tka tm tkc) (.slice tva tq tvc) (.pointer lp) (.pointer rp))
    (HL : Hid (∀ W, w.grownBy W none → Calls Tryz.prog 45 #[.pointer (some ⟨b, 0, none⟩)] W fun e w' => e = .returned (.int .i64 n) ∧ W = w'))
    (HC : Hid (∀ W, w.grownBy W none → Calls Tryz.prog 79 #[.slice ka m kc, .slice tka tm tkc] W fun e w' => e = .returned (.int .i64 c) ∧ W.grownBy w' none))
    (T1 : Hid (∀ W, w.grownBy W none → Makes 83 #[.pointer lp, .agg #[.slice ka m kc, .slice va q vc]] W P1))
    (T2 : Hid (∀ W p, w.grownBy W none → P1 W p → Makes 80 #[.pointer p, .agg #[.slice tka tm tkc, .slice tva tq tvc], .pointer rp] W P2)) :
    Makes 83 #[.pointer (some ⟨b, 0, none⟩), .agg #[.slice ka m kc, .slice va q vc]] w P2 := by
  have K0 := Lib.hid (World.grownBy_alloc w (.cells #[.slice ka m kc, .slice va q vc] 174) none)
  have B0 := Lib.hid (HB.keep K0.out)
  have X0 := Lib.hid (Box2.new w (.slice ka m kc) (.slice va q vc) 174)
  have F := Lib.hid (fun (W : World) (hW : (w.alloc (.cells #[.slice ka m kc, .slice va q vc] 174)).grownBy W none) => And.intro (B0.out.keep hW) (X0.out.keep hW))
  have hn' : ((n : Int) == 0) = false := beq_eq_false_iff_ne.2 (by omega)
  have C0 := Lib.hid (grown_reflT (w.alloc (.cells #[.slice ka m kc, .slice va q vc] 174)) none)
  clear HB hn
  unfold Makes
  go_enter Tryz.func83, Tryz.ntmps83
  go_upto_region 1 with fail
  generalize w.alloc (.cells #[.slice ka m kc, .slice va q vc] 174) = w0 at *
  go_wp2_with fail
  refine (HL.out _ K0.out).mono ?_
  rintro e w1 ⟨rfl, rfl⟩
  go_upto_region 3 with fail
  clear hn' HL
  obtain ⟨⟨b0, b1, b2, b3⟩, x0, x1⟩ := F.out _ C0.out
  go_cut [5] (fun s5 wx => s5 = .int .i64 c ∧ Hid (w0.grownBy wx none))
  case first =>
    go_region_with (go_at_call 79; (with_reducible refine (HC.out _ (by first | exact K0.out | exact grown_drewT K0.out)).mono ?_); rintro e w2 ⟨rfl, hg2⟩; have G2 := Lib.hid ((grown_drewT C0.out).trans hg2); clear hg2)
    all_goals
      go_wp2_with fail
      go_meet
      exact ⟨rfl, G2⟩
  case rest =>
  obtain ⟨rfl, G0⟩ := hcut
  clear b0 b1 b2 b3 x0 x1 HC
  obtain ⟨⟨b0, b1, b2, b3⟩, x0, x1⟩ := F.out _ G0.out
  have T1' := Lib.hid (Makes.calls (T1.out wc.drew (grown_drewT (K0.out.trans G0.out))))
  clear T1
  go_upto_region 5 with fail
  go_region_held3 (fun w' => (w'.cell? ⟨b, 0, none⟩ = some (.slice tka tm tkc) ∧ w'.cell? ⟨b, 1, none⟩ = some (.slice tva tq tvc) ∧ w'.cell? ⟨b, 2, none⟩ = some (.pointer lp) ∧ w'.cell? ⟨b, 3, none⟩ = some (.pointer rp)) ∧ w'.cell? ⟨w.heap.size, 0, none⟩ = some (.slice ka m kc) ∧ w'.cell? ⟨w.heap.size, 1, none⟩ = some (.slice va q vc)) (first | exact F.out _ G1.out | exact F.out _ (grown_drewT G0.out) | exact F.out _ G2.out) (first
    | (go_at_call 83; (with_reducible refine T1'.out.mono ?_); rintro e w2 ⟨⟨p1, rfl, hp1⟩, hg2⟩; have G1 := Lib.hid ((grown_drewT G0.out).trans hg2); have T2' := Lib.hid (Makes.calls (T2.out _ p1 (K0.out.trans G1.out) hp1)); clear hg2 hp1)
    | (go_at_call 80; (with_reducible refine T2'.out.mono ?_); rintro e w3 ⟨⟨p2, rfl, hp2⟩, hg3⟩; have G2 := Lib.hid (G1.out.trans hg3); have Hp2 := Lib.hid hp2; clear hg3 hp2))
  go_wp2_with fail
  go_ret
  exact ⟨⟨_, rfl, Hp2.out⟩, K0.out.trans G2.out⟩
set_option maxRecDepth 100000 in
set_option maxHeartbeats 6400000 in
theorem put_gt (b : Nat) (lp rp ka va tka tva : Ptr) (m kc q vc tm tkc tq tvc n : Nat) (c : Int) (w : World) (P1 P2 : World → Ptr → Prop) (hn : 0 < n) (hc : 0 < c)
    (HB : Box4 b w (.slice tka tm tkc) (.slice tva tq tvc) (.pointer lp) (.pointer rp))
    (HL : Hid (∀ W, w.grownBy W none → Calls Tryz.prog 45 #[.pointer (some ⟨b, 0, none⟩)] W fun e w' => e = .returned (.int .i64 n) ∧ W = w'))
    (HC : Hid (∀ W, w.grownBy W none → Calls Tryz.prog 79 #[.slice ka m kc, .slice tka tm tkc] W fun e w' => e = .returned (.int .i64 c) ∧ W.grownBy w' none))
    (T1 : Hid (∀ W, w.grownBy W none → Makes 83 #[.pointer rp, .agg #[.slice ka m kc, .slice va q vc]] W P1))
    (T2 : Hid (∀ W p, w.grownBy W none → P1 W p → Makes 80 #[.pointer lp, .agg #[.slice tka tm tkc, .slice tva tq tvc], .pointer p] W P2)) :
    Makes 83 #[.pointer (some ⟨b, 0, none⟩), .agg #[.slice ka m kc, .slice va q vc]] w P2 := by
  have K0 := Lib.hid (World.grownBy_alloc w (.cells #[.slice ka m kc, .slice va q vc] 174) none)
  have B0 := Lib.hid (HB.keep K0.out)
  have X0 := Lib.hid (Box2.new w (.slice ka m kc) (.slice va q vc) 174)
  have F := Lib.hid (fun (W : World) (hW : (w.alloc (.cells #[.slice ka m kc, .slice va q vc] 174)).grownBy W none) => And.intro (B0.out.keep hW) (X0.out.keep hW))
  have hn' : ((n : Int) == 0) = false := beq_eq_false_iff_ne.2 (by omega)
  have C0 := Lib.hid (grown_reflT (w.alloc (.cells #[.slice ka m kc, .slice va q vc] 174)) none)
  have hc' : ¬ c < 0 := by omega
  clear HB hn
  unfold Makes
  go_enter Tryz.func83, Tryz.ntmps83
  go_upto_region 1 with fail
  generalize w.alloc (.cells #[.slice ka m kc, .slice va q vc] 174) = w0 at *
  go_wp2_with fail
  refine (HL.out _ K0.out).mono ?_
  rintro e w1 ⟨rfl, rfl⟩
  go_upto_region 3 with fail
  clear hn' HL
  obtain ⟨⟨b0, b1, b2, b3⟩, x0, x1⟩ := F.out _ C0.out
  go_cut [5] (fun s5 wx => s5 = .int .i64 c ∧ Hid (w0.grownBy wx none))
  case first =>
    go_region_with (go_at_call 79; (with_reducible refine (HC.out _ (by first | exact K0.out | exact grown_drewT K0.out)).mono ?_); rintro e w2 ⟨rfl, hg2⟩; have G2 := Lib.hid ((grown_drewT C0.out).trans hg2); clear hg2)
    all_goals
      go_wp2_with fail
      go_meet
      exact ⟨rfl, G2⟩
  case rest =>
  obtain ⟨rfl, G0⟩ := hcut
  clear b0 b1 b2 b3 x0 x1 HC
  obtain ⟨⟨b0, b1, b2, b3⟩, x0, x1⟩ := F.out _ G0.out
  have T1' := Lib.hid (Makes.calls (T1.out wc.drew (grown_drewT (K0.out.trans G0.out))))
  clear T1
  go_upto_region 7 with fail
  go_region_held3 (fun w' => (w'.cell? ⟨b, 0, none⟩ = some (.slice tka tm tkc) ∧ w'.cell? ⟨b, 1, none⟩ = some (.slice tva tq tvc) ∧ w'.cell? ⟨b, 2, none⟩ = some (.pointer lp) ∧ w'.cell? ⟨b, 3, none⟩ = some (.pointer rp)) ∧ w'.cell? ⟨w.heap.size, 0, none⟩ = some (.slice ka m kc) ∧ w'.cell? ⟨w.heap.size, 1, none⟩ = some (.slice va q vc)) (first | exact F.out _ G1.out | exact F.out _ (grown_drewT G0.out) | exact F.out _ G2.out) (first
    | (go_at_call 83; (with_reducible refine T1'.out.mono ?_); rintro e w2 ⟨⟨p1, rfl, hp1⟩, hg2⟩; have G1 := Lib.hid ((grown_drewT G0.out).trans hg2); have T2' := Lib.hid (Makes.calls (T2.out _ p1 (K0.out.trans G1.out) hp1)); clear hg2 hp1)
    | (go_at_call 80; (with_reducible refine T2'.out.mono ?_); rintro e w3 ⟨⟨p2, rfl, hp2⟩, hg3⟩; have G2 := Lib.hid (G1.out.trans hg3); have Hp2 := Lib.hid hp2; clear hg3 hp2))
  go_wp2_with fail
  go_ret
  exact ⟨⟨_, rfl, Hp2.out⟩, K0.out.trans G2.out⟩
set_option maxRecDepth 100000 in
set_option maxHeartbeats 6400000 in
theorem put_eq (b : Nat) (lp rp ka va tka tva : Ptr) (m kc q vc tm tkc tq tvc n : Nat) (c : Int) (w : World) (P2 : World → Ptr → Prop) (hn : 0 < n) (hc : c = 0)
    (HB : Box4 b w (.slice tka tm tkc) (.slice tva tq tvc) (.pointer lp) (.pointer rp))
    (HL : Hid (∀ W, w.grownBy W none → Calls Tryz.prog 45 #[.pointer (some ⟨b, 0, none⟩)] W fun e w' => e = .returned (.int .i64 n) ∧ W = w'))
    (HC : Hid (∀ W, w.grownBy W none → Calls Tryz.prog 79 #[.slice ka m kc, .slice tka tm tkc] W fun e w' => e = .returned (.int .i64 c) ∧ W.grownBy w' none))
    (T1 : Hid (∀ W, w.grownBy W none → Makes 98 #[.pointer lp, .agg #[.slice ka m kc, .slice va q vc], .pointer rp] W P2)) :
    Makes 83 #[.pointer (some ⟨b, 0, none⟩), .agg #[.slice ka m kc, .slice va q vc]] w P2 := by
  have K0 := Lib.hid (World.grownBy_alloc w (.cells #[.slice ka m kc, .slice va q vc] 174) none)
  have B0 := Lib.hid (HB.keep K0.out)
  have X0 := Lib.hid (Box2.new w (.slice ka m kc) (.slice va q vc) 174)
  have F := Lib.hid (fun (W : World) (hW : (w.alloc (.cells #[.slice ka m kc, .slice va q vc] 174)).grownBy W none) => And.intro (B0.out.keep hW) (X0.out.keep hW))
  have hn' : ((n : Int) == 0) = false := beq_eq_false_iff_ne.2 (by omega)
  have C0 := Lib.hid (grown_reflT (w.alloc (.cells #[.slice ka m kc, .slice va q vc] 174)) none)
  have hc1 : ¬ c < 0 := by omega
  have hc2 : ¬ 0 < c := by omega
  clear HB hn hc
  unfold Makes
  go_enter Tryz.func83, Tryz.ntmps83
  go_upto_region 1 with fail
  generalize w.alloc (.cells #[.slice ka m kc, .slice va q vc] 174) = w0 at *
  go_wp2_with fail
  refine (HL.out _ K0.out).mono ?_
  rintro e w1 ⟨rfl, rfl⟩
  go_upto_region 3 with fail
  clear hn' HL
  obtain ⟨⟨b0, b1, b2, b3⟩, x0, x1⟩ := F.out _ C0.out
  go_cut [5] (fun s5 wx => s5 = .int .i64 c ∧ Hid (w0.grownBy wx none))
  case first =>
    go_region_with (go_at_call 79; (with_reducible refine (HC.out _ (by first | exact K0.out | exact grown_drewT K0.out)).mono ?_); rintro e w2 ⟨rfl, hg2⟩; have G2 := Lib.hid ((grown_drewT C0.out).trans hg2); clear hg2)
    all_goals
      go_wp2_with fail
      go_meet
      exact ⟨rfl, G2⟩
  case rest =>
  obtain ⟨rfl, G0⟩ := hcut
  clear b0 b1 b2 b3 x0 x1 HC
  obtain ⟨⟨b0, b1, b2, b3⟩, x0, x1⟩ := F.out _ G0.out
  have T1' := Lib.hid (Makes.calls (T1.out wc.drew (grown_drewT (K0.out.trans G0.out))))
  clear T1
  go_upto_region 8 with fail
  go_region_held3 (fun w' => (w'.cell? ⟨b, 0, none⟩ = some (.slice tka tm tkc) ∧ w'.cell? ⟨b, 1, none⟩ = some (.slice tva tq tvc) ∧ w'.cell? ⟨b, 2, none⟩ = some (.pointer lp) ∧ w'.cell? ⟨b, 3, none⟩ = some (.pointer rp)) ∧ w'.cell? ⟨w.heap.size, 0, none⟩ = some (.slice ka m kc) ∧ w'.cell? ⟨w.heap.size, 1, none⟩ = some (.slice va q vc)) (first | exact F.out _ G1.out | exact F.out _ (grown_drewT G0.out)) ((go_at_call 98; (with_reducible refine T1'.out.mono ?_); rintro e w2 ⟨⟨p1, rfl, hp1⟩, hg2⟩; have G1 := Lib.hid ((grown_drewT G0.out).trans hg2); have Hp1 := Lib.hid hp1; clear hg2 hp1))
  go_wp2_with fail
  go_ret
  exact ⟨⟨_, rfl, Hp1.out⟩, K0.out.trans G1.out⟩
set_option maxRecDepth 100000 in
set_option maxHeartbeats 6400000 in
theorem put_nil (ka va : Ptr) (m kc q vc : Nat) (w : World) (P2 : World → Ptr → Prop)
    (HL : Hid (∀ W, w.grownBy W none → Calls Tryz.prog 45 #[.pointer none] W fun e w' => e = .returned (.int .i64 0) ∧ W = w'))
    (T1 : Hid (∀ W, w.grownBy W none → Makes 98 #[.pointer none, .agg #[.slice ka m kc, .slice va q vc], .pointer none] W P2)) :
    Makes 83 #[.pointer none, .agg #[.slice ka m kc, .slice va q vc]] w P2 := by
  have K0 := Lib.hid (World.grownBy_alloc w (.cells #[.slice ka m kc, .slice va q vc] 174) none)
  obtain ⟨x0, x1⟩ := Box2.new w (.slice ka m kc) (.slice va q vc) 174
  have T1' := Lib.hid (Makes.calls (T1.out _ K0.out))
  unfold Makes
  go_enter Tryz.func83, Tryz.ntmps83
  go_wp2_with fail
  refine (HL.out _ K0.out).mono ?_
  rintro e w1 ⟨rfl, rfl⟩
  go_wp2_with fail
  refine T1'.out.mono ?_
  rintro e w2 ⟨⟨p1, rfl, hp1⟩, hg2⟩
  have D := Lib.hid (And.intro hp1 (K0.out.trans hg2))
  clear hp1 hg2
  go_wp2_with fail
  go_ret
  exact ⟨⟨_, rfl, D.out.1⟩, D.out.2⟩
abbrev ordR := rowsOrd
theorem rows_grown (a a' : Option Addr) (cap cap' : Nat) (l m : List Vl) (w : World) (h : RowAt w a l) (h' : RowAt w a' m) :
    Calls Tryz.prog 79 #[.slice a l.length cap, .slice a' m.length cap'] w fun e w' => e = .returned (.int .i64 (rowsOrd l m)) ∧ w.grownBy w' none := (rows_any a a' cap cap' l m w h h').mono fun _ _ h => ⟨h.1, grown_belowT h.2 none⟩
theorem put_any (S : Nat → Prop) (k v : List Vl) (ka va : Option Addr) (kc vc : Nat) : ∀ (t : Tre) (p : Option Addr) (w : World), (∀ b, w.heap.size ≤ b → S b) → TrAt S w t p → RwS S w ka k → RwS S w va v → t.n ≤ 1000000000 →
    Makes 83 #[.pointer p, .agg #[.slice ka k.length kc, .slice va v.length vc]] w (fun W p => TrAt S W (Tr.put rowsOrd k v t) p)
  | .nil, p, w, hS, h, hk, hv, _ => by
    obtain rfl : p = none := h
    exact put_nil ka va k.length kc v.length vc w _ (Lib.hid fun W _ => len_any S .nil none W rfl) (Lib.hid fun W hW => top_makes S .nil .nil k v none none ka va kc vc W (hsS hS hW) rfl rfl (hk.keep (.of hW)) (hv.keep (.of hW)) (by simp [Tr.n]))
  | .node l k' v' r, p, w, hS, h, hk, hv, hn => by
    have H := h
    obtain ⟨b, tka, tkc, tva, tvc, lp, rp, rfl, _, _, ⟨c0, c1, c2, c3, _, _⟩, h1, h2, h3, h4⟩ := h
    have hn0 : 0 < Tr.n (.node l k' v' r) := by simp [Tr.n]; omega
    have pl := Tr.put_n rowsOrd k v l
    have pr := Tr.put_n rowsOrd k v r
    have hnn : l.n + 1 + r.n ≤ 1000000000 := by simpa [Tr.n] using hn
    have HL := Lib.hid (fun W (hW : w.grownBy W none) => len_any S _ _ W (H.keep (.of hW)))
    have HC := Lib.hid (fun W (hW : w.grownBy W none) => rows_grown ka tka kc tkc k k' W ((hk.keep (.of hW)).row) ((h1.keep (.of hW)).row))
    by_cases hlt : rowsOrd k k' < 0
    · have e : Tr.put rowsOrd k v (.node l k' v' r) = Tr.bal (Tr.put rowsOrd k v l) k' v' r := by simp only [Tr.put]; rw [if_pos hlt]
      rw [e]
      exact put_lt b lp rp ka va tka tva k.length kc v.length vc k'.length tkc v'.length tvc _ _ w (fun W p => TrAt S W (Tr.put rowsOrd k v l) p) _ hn0 hlt ⟨c0, c1, c2, c3⟩ HL HC
        (Lib.hid fun W hW => put_any S k v ka va kc vc l lp W (hsS hS hW) (h3.keep (.of hW)) (hk.keep (.of hW)) (hv.keep (.of hW)) (by omega))
        (Lib.hid fun W p hW hp => balanced_any S (Tr.put rowsOrd k v l) r k' v' p rp tka tva tkc tvc W (hsS hS hW) hp (h4.keep (.of hW)) (h1.keep (.of hW)) (h2.keep (.of hW)) (by omega))
    · by_cases hgt : 0 < rowsOrd k k'
      · have e : Tr.put rowsOrd k v (.node l k' v' r) = Tr.bal l k' v' (Tr.put rowsOrd k v r) := by simp only [Tr.put]; rw [if_neg hlt, if_pos hgt]
        rw [e]
        exact put_gt b lp rp ka va tka tva k.length kc v.length vc k'.length tkc v'.length tvc _ _ w (fun W p => TrAt S W (Tr.put rowsOrd k v r) p) _ hn0 hgt ⟨c0, c1, c2, c3⟩ HL HC
          (Lib.hid fun W hW => put_any S k v ka va kc vc r rp W (hsS hS hW) (h4.keep (.of hW)) (hk.keep (.of hW)) (hv.keep (.of hW)) (by omega))
          (Lib.hid fun W p hW hp => balanced_any S l (Tr.put rowsOrd k v r) k' v' lp p tka tva tkc tvc W (hsS hS hW) (h3.keep (.of hW)) hp (h1.keep (.of hW)) (h2.keep (.of hW)) (by omega))
      · have e : Tr.put rowsOrd k v (.node l k' v' r) = .node l k v r := by simp only [Tr.put]; rw [if_neg hlt, if_neg hgt]
        rw [e]
        exact put_eq b lp rp ka va tka tva k.length kc v.length vc k'.length tkc v'.length tvc _ _ w _ hn0 (by omega) ⟨c0, c1, c2, c3⟩ HL HC
          (Lib.hid fun W hW => top_makes S l r k v lp rp ka va kc vc W (hsS hS hW) (h3.keep (.of hW)) (h4.keep (.of hW)) (hk.keep (.of hW)) (hv.keep (.of hW)) (by omega))
end Go.Proofs.YtnfpomjcofhppaaGreatDoor
