/- What schema's review and Check answer at any tables. tree's put. What schema's Check answers at any tables. -/
import Derived.Test.YtaggacffjbjchaaGreatDoorZa10
import Derived.Deep.DeepCutAuto
namespace Go.Proofs.YtaggacffjbjchaaGreatDoor
open Go.RowKit

/-- The first flaw: of the table of number k, told by y. -/
def Flaw6 (F M T : Nat → Prop) (n k : Nat) (y : Int) : Prop := k < n ∧ (∀ i, i < k → F i ∧ M i ∧ T i) ∧ (¬ F k ∧ y = 3 ∨ F k ∧ ¬ M k ∧ y = 2 ∨ F k ∧ M k ∧ ¬ T k ∧ y = 23)
theorem yes6 {P : Prop} {p : Program} {f : FuncId} {vs : Array Value} {W : World} (hp : P) (h : Calls p f vs W fun e w' => (P ∧ e = .returned .nilIface ∨ ¬ P ∧ ∃ ty q, e = .returned (.iface ty q)) ∧ W.grownBy w' none) : Calls p f vs W fun e w' => e = .returned .nilIface ∧ W.grownBy w' none :=
  h.mono fun e w' h => ⟨by rcases h.1 with ⟨_, h⟩ | ⟨h, _⟩; exact h; exact absurd hp h, h.2⟩
theorem no6 {P : Prop} {p : Program} {f : FuncId} {vs : Array Value} {W : World} (hp : ¬ P) (h : Calls p f vs W fun e w' => (P ∧ e = .returned .nilIface ∨ ¬ P ∧ ∃ ty q, e = .returned (.iface ty q)) ∧ W.grownBy w' none) : Calls p f vs W fun e w' => (∃ ty q, e = .returned (.iface ty q)) ∧ W.grownBy w' none :=
  h.mono fun e w' h => ⟨by rcases h.1 with ⟨h, _⟩ | ⟨_, h⟩; exact absurd h hp; exact h, h.2⟩
set_option maxRecDepth 100000 in
set_option maxHeartbeats 3200000 in
theorem review_walk (a : Option Addr) (cap : Nat) (l : List Tb) (w : World) (h : TabsAt w.heap.size w a l) (hcap : l.length ≤ cap) (F M T : Nat → Prop)
    (HF0 : ∀ k, k < l.length → ∀ W, w.grownBy W none → Calls Tryz.prog 78 #[.int .i64 k, .agg #[.string (l.getD k default).n, .slice (l.getD k default).a (l.getD k default).l.length (l.getD k default).cap, .int .i64 (l.getD k default).k]] W fun e w' => (F k ∧ e = .returned .nilIface ∨ ¬ F k ∧ ∃ ty q, e = .returned (.iface ty q)) ∧ W.grownBy w' none)
    (HM0 : ∀ k, k < l.length → ∀ W, w.grownBy W none → Calls Tryz.prog 79 #[.agg #[.string (l.getD k default).n, .slice (l.getD k default).a (l.getD k default).l.length (l.getD k default).cap, .int .i64 (l.getD k default).k]] W fun e w' => (M k ∧ e = .returned .nilIface ∨ ¬ M k ∧ ∃ ty q, e = .returned (.iface ty q)) ∧ W.grownBy w' none)
    (HW0 : ∀ k, k < l.length → ∀ W, w.grownBy W none → Calls Tryz.prog 80 #[.slice a k cap, .agg #[.string (l.getD k default).n, .slice (l.getD k default).a (l.getD k default).l.length (l.getD k default).cap, .int .i64 (l.getD k default).k]] W fun e w' => (T k ∧ e = .returned .nilIface ∨ ¬ T k ∧ ∃ ty q, e = .returned (.iface ty q)) ∧ W.grownBy w' none) :
    Calls Tryz.prog 57 #[.slice a l.length cap] w fun e w' => ((∀ i, i < l.length → F i ∧ M i ∧ T i) ∧ e = .returned .nilIface ∨ ∃ k y, Flaw6 F M T l.length k y ∧ ∃ ty p, e = .returned (.iface 132 (.agg #[.int .i64 k, .int .i64 y, .iface ty p]))) ∧ w.grownBy w' none := by
  have HF := Lib.hid HF0
  have HM := Lib.hid HM0
  have HW := Lib.hid HW0
  have H := Lib.hid h
  have hlen := h.1
  obtain ⟨n, hn⟩ : ∃ n, n = l.length := ⟨_, rfl⟩
  have Hn := Lib.hid hn
  rw [← hn] at hlen hcap HF HM HW ⊢
  clear h hn HF0 HM0 HW0
  go_enter Tryz.func57, Tryz.ntmps57
  go_wp2_with fail
  go_loopw [10] (fun i wr => ∃ (k : Nat), i = .int .i64 k ∧ k ≤ n ∧ Hid (∀ i, i < k → F i ∧ M i ∧ T i) ∧ Hid (w.grownBy wr none)) (fun i _ => n - (intOf i).toNat)
  case atStart => exact ⟨0, rfl, by omega, Lib.hid (fun i hi => by omega), Lib.hid (grown_refl6 _ _)⟩
  case round =>
    obtain ⟨k, rfl, hk, E, KR⟩ := hrel
    by_cases hlt : k < n
    · obtain ⟨b, off, rfl, _, c0, c1, c2⟩ := (H.out.keep KR.out (by simp)).at (i := k) (by rw [← Hn.out]; exact hlt)
      have HF1 := Lib.hid (HF.out k hlt)
      have HM1 := Lib.hid (HM.out k hlt)
      have HW1 := Lib.hid (HW.out k hlt)
      clear HF HM HW
      generalize l.getD k default = x at *
      obtain ⟨xn, xa, xc, xl, xk⟩ := x
      simp only at c0 c1 c2 HF1 HM1 HW1
      generalize xl.length = xm at *
      have bx := Lib.hid (box3_new6 wr (.string xn) (.slice xa xm xc) (.int .i64 xk) 38)
      have KA := Lib.hid (KR.out.trans (World.grownBy_alloc wr (.cells #[.string xn, .slice xa xm xc, .int .i64 xk] 38) none))
      have j0 : (k : Int) ≤ cap := by omega
      by_cases hF : F k
      · have HF2 := Lib.hid (fun W hW => yes6 hF (HF1.out W hW))
        by_cases hM : M k
        · have HM2 := Lib.hid (fun W hW => yes6 hM (HM1.out W hW))
          by_cases hT : T k
          · have HW2 := Lib.hid (fun W hW => yes6 hT (HW1.out W hW))
            have E2 : Hid (∀ i, i < k + 1 → F i ∧ M i ∧ T i) := Lib.hid fun i hi => by
              by_cases e : i = k
              · rw [e]; exact ⟨hF, hM, hT⟩
              · exact E.out i (by omega)
            clear HF1 HM1 HW1 hF hM hT
            go_wp2_with fail
            refine (HF2.out _ KA.out).mono ?_
            rintro e w2 ⟨rfl, hg⟩
            have K2 := Lib.hid (KA.out.trans hg)
            have d0 := hg.cell bx.out.1 (by simp)
            have d1 := hg.cell bx.out.2.1 (by simp)
            have d2 := hg.cell bx.out.2.2 (by simp)
            have B2 := Lib.hid (And.intro d0 (And.intro d1 d2))
            clear hg
            go_wp2_with fail
            refine (HM2.out _ K2.out).mono ?_
            rintro e w3 ⟨rfl, hg⟩
            have K3 := Lib.hid (K2.out.trans hg)
            have e0 := hg.cell B2.out.1 (by simp)
            have e1 := hg.cell B2.out.2.1 (by simp)
            have e2 := hg.cell B2.out.2.2 (by simp)
            clear hg d0 d1 d2 c0 c1 c2
            go_wp2_with fail
            go_region_with (go_at_call 80; (with_reducible refine (HW2.out _ (by first | exact K3.out | exact grown_drew6 K3.out)).mono ?_); rintro e w4 ⟨rfl, hg4⟩; have K4 := Lib.hid hg4)
            all_goals
              go_wp2_with fail
              go_roundw
              case rel => exact ⟨k + 1, by go_num, by omega, E2, Lib.hid ((grown_drew6 K3.out).trans K4.out)⟩
              case measure => simp [intOf]; omega
          · have HW2 := Lib.hid (fun W hW => no6 hT (HW1.out W hW))
            have FL : Hid (Flaw6 F M T n k 23) := Lib.hid ⟨hlt, E.out, .inr (.inr ⟨hF, hM, hT, rfl⟩)⟩
            clear HF1 HM1 HW1 hF hM hT
            go_wp2_with fail
            refine (HF2.out _ KA.out).mono ?_
            rintro e w2 ⟨rfl, hg⟩
            have K2 := Lib.hid (KA.out.trans hg)
            have d0 := hg.cell bx.out.1 (by simp)
            have d1 := hg.cell bx.out.2.1 (by simp)
            have d2 := hg.cell bx.out.2.2 (by simp)
            have B2 := Lib.hid (And.intro d0 (And.intro d1 d2))
            clear hg
            go_wp2_with fail
            refine (HM2.out _ K2.out).mono ?_
            rintro e w3 ⟨rfl, hg⟩
            have K3 := Lib.hid (K2.out.trans hg)
            have e0 := hg.cell B2.out.1 (by simp)
            have e1 := hg.cell B2.out.2.1 (by simp)
            have e2 := hg.cell B2.out.2.2 (by simp)
            clear hg d0 d1 d2 c0 c1 c2
            go_wp2_with fail
            go_region_with (go_at_call 80; (with_reducible refine (HW2.out _ (by first | exact K3.out | exact grown_drew6 K3.out)).mono ?_); rintro e w4 ⟨⟨ty, p, rfl⟩, hg4⟩; have K4 := Lib.hid hg4)
            all_goals
              have K5 := Lib.hid ((grown_drew6 K3.out).trans K4.out)
              go_wp2_with fail
              go_ret
              exact ⟨.inr ⟨k, 23, FL.out, ty, p, rfl⟩, K5.out⟩
        · have HM2 := Lib.hid (fun W hW => no6 hM (HM1.out W hW))
          have FL : Hid (Flaw6 F M T n k 2) := Lib.hid ⟨hlt, E.out, .inr (.inl ⟨hF, hM, rfl⟩)⟩
          clear HF1 HM1 HW1 hF hM
          go_wp2_with fail
          refine (HF2.out _ KA.out).mono ?_
          rintro e w2 ⟨rfl, hg⟩
          have K2 := Lib.hid (KA.out.trans hg)
          have d0 := hg.cell bx.out.1 (by simp)
          have d1 := hg.cell bx.out.2.1 (by simp)
          have d2 := hg.cell bx.out.2.2 (by simp)
          clear hg
          go_wp2_with fail
          refine (HM2.out _ K2.out).mono ?_
          rintro e w3 ⟨⟨ty, p, rfl⟩, hg3⟩
          have K3 := Lib.hid (K2.out.trans hg3)
          clear hg3
          go_wp2_with fail
          go_ret
          exact ⟨.inr ⟨k, 2, FL.out, ty, p, rfl⟩, K3.out⟩
      · have HF2 := Lib.hid (fun W hW => no6 hF (HF1.out W hW))
        have FL : Hid (Flaw6 F M T n k 3) := Lib.hid ⟨hlt, E.out, .inl ⟨hF, rfl⟩⟩
        clear HF1 HM1 HW1 hF
        go_wp2_with fail
        refine (HF2.out _ KA.out).mono ?_
        rintro e w3 ⟨⟨ty, p, rfl⟩, hg3⟩
        have K3 := Lib.hid (KA.out.trans hg3)
        clear hg3
        go_wp2_with fail
        go_ret
        exact ⟨.inr ⟨k, 3, FL.out, ty, p, rfl⟩, K3.out⟩
    · obtain rfl : k = n := by omega
      go_wp2_with fail
      go_ret
      exact ⟨.inl ⟨E.out, rfl⟩, KR.out⟩
end Go.Proofs.YtaggacffjbjchaaGreatDoor
namespace Go.Proofs.YtaggacffjbjchaaGreatDoor
open Go.RowKit

theorem Tr.bal_n {K R : Type} (l : Tr K R) (k : K) (v : R) (r : Tr K R) : (Tr.bal l k v r).n = l.n + 1 + r.n := by
  rw [Tr.n_toL, Tr.bal_toL, Tr.n_toL l, Tr.n_toL r, List.length_append, List.length_cons]
  omega
theorem Tr.put_n {K R : Type} (c : K → K → Int) (k : K) (v : R) : ∀ t : Tr K R, (Tr.put c k v t).n ≤ t.n + 1
  | .nil => by simp [Tr.put, Tr.n]
  | .node l k' v' r => by
    have h1 := Tr.put_n c k v l
    have h2 := Tr.put_n c k v r
    simp only [Tr.put]
    split
    · rw [Tr.bal_n]; simp only [Tr.n]; omega
    · split
      · rw [Tr.bal_n]; simp only [Tr.n]; omega
      · simp only [Tr.n]; omega
set_option maxRecDepth 100000 in
set_option maxHeartbeats 6400000 in
theorem put_lt (b : Nat) (lp rp ka va tka tva : Ptr) (m kc q vc tm tkc tq tvc n : Nat) (c : Int) (w : World) (P1 P2 : World → Ptr → Prop) (hn : 0 < n) (hc : c < 0)
    (HB : Box4 b w (.slice tka tm tkc) (.slice tva tq tvc) (.pointer lp) (.pointer rp))
    (HL : Hid (∀ W, w.grownBy W none → Calls Tryz.prog 54 #[.pointer (some ⟨b, 0, none⟩)] W fun e w' => e = .returned (.int .i64 n) ∧ W = w'))
    (HC : Hid (∀ W, w.grownBy W none → Calls Tryz.prog 76 #[.slice ka m kc, .slice tka tm tkc] W fun e w' => e = .returned (.int .i64 c) ∧ W.grownBy w' none))
    (T1 : Hid (∀ W, w.grownBy W none → Makes 105 #[.pointer lp, .agg #[.slice ka m kc, .slice va q vc]] W P1))
    (T2 : Hid (∀ W p, w.grownBy W none → P1 W p → Makes 102 #[.pointer p, .agg #[.slice tka tm tkc, .slice tva tq tvc], .pointer rp] W P2)) :
    Makes 105 #[.pointer (some ⟨b, 0, none⟩), .agg #[.slice ka m kc, .slice va q vc]] w P2 := by
  have K0 := Lib.hid (World.grownBy_alloc w (.cells #[.slice ka m kc, .slice va q vc] 164) none)
  have B0 := Lib.hid (HB.keep K0.out)
  have X0 := Lib.hid (Box2.new w (.slice ka m kc) (.slice va q vc) 164)
  have F := Lib.hid (fun (W : World) (hW : (w.alloc (.cells #[.slice ka m kc, .slice va q vc] 164)).grownBy W none) => And.intro (B0.out.keep hW) (X0.out.keep hW))
  have hn' : ((n : Int) == 0) = false := beq_eq_false_iff_ne.2 (by omega)
  have C0 := Lib.hid (grown_reflT (w.alloc (.cells #[.slice ka m kc, .slice va q vc] 164)) none)
  clear HB hn
  unfold Makes
  go_enter Tryz.func105, Tryz.ntmps105
  go_upto_region 1 with fail
  generalize w.alloc (.cells #[.slice ka m kc, .slice va q vc] 164) = w0 at *
  go_wp2_with fail
  refine (HL.out _ K0.out).mono ?_
  rintro e w1 ⟨rfl, rfl⟩
  go_upto_region 3 with fail
  clear hn' HL
  obtain ⟨⟨b0, b1, b2, b3⟩, x0, x1⟩ := F.out _ C0.out
  go_cut [5] (fun s5 wx => s5 = .int .i64 c ∧ Hid (w0.grownBy wx none))
  case first =>
    go_region_with (go_at_call 76; (with_reducible refine (HC.out _ (by first | exact K0.out | exact grown_drewT K0.out)).mono ?_); rintro e w2 ⟨rfl, hg2⟩; have G2 := Lib.hid ((grown_drewT C0.out).trans hg2); clear hg2)
    all_goals
      go_wp2_with fail
      go_meet
      exact ⟨rfl, G2⟩
  case rest =>
  obtain ⟨rfl, G0⟩ := hcut
  clear b0 b1 b2 b3 x0 x1 HC
  obtain ⟨⟨b0, b1, b2, b3⟩, x0, x1⟩ := F.out _ G0.out
  have T1' := Lib.hid (Makes.calls (T1.out wc.drew (grown_drewT (K0.out.trans G0.out))))
  clear T1
  go_upto_region 5 with fail
  go_region_held3 (fun w' => (w'.cell? ⟨b, 0, none⟩ = some (.slice tka tm tkc) ∧ w'.cell? ⟨b, 1, none⟩ = some (.slice tva tq tvc) ∧ w'.cell? ⟨b, 2, none⟩ = some (.pointer lp) ∧ w'.cell? ⟨b, 3, none⟩ = some (.pointer rp)) ∧ w'.cell? ⟨w.heap.size, 0, none⟩ = some (.slice ka m kc) ∧ w'.cell? ⟨w.heap.size, 1, none⟩ = some (.slice va q vc)) (first | exact F.out _ G1.out | exact F.out _ (grown_drewT G0.out) | exact F.out _ G2.out) (first
    | (go_at_call 105; (with_reducible refine T1'.out.mono ?_); rintro e w2 ⟨⟨p1, rfl, hp1⟩, hg2⟩; have G1 := Lib.hid ((grown_drewT G0.out).trans hg2); have T2' := Lib.hid (Makes.calls (T2.out _ p1 (K0.out.trans G1.out) hp1)); clear hg2 hp1)
    | (go_at_call 102; (with_reducible refine T2'.out.mono ?_); rintro e w3 ⟨⟨p2, rfl, hp2⟩, hg3⟩; have G2 := Lib.hid (G1.out.trans hg3); have Hp2 := Lib.hid hp2; clear hg3 hp2))
  go_wp2_with fail
  go_ret
  exact ⟨⟨_, rfl, Hp2.out⟩, K0.out.trans G2.out⟩
set_option maxRecDepth 100000 in
set_option maxHeartbeats 6400000 in
theorem put_gt (b : Nat) (lp rp ka va tka tva : Ptr) (m kc q vc tm tkc tq tvc n : Nat) (c : Int) (w : World) (P1 P2 : World → Ptr → Prop) (hn : 0 < n) (hc : 0 < c)
    (HB : Box4 b w (.slice tka tm tkc) (.slice tva tq tvc) (.pointer lp) (.pointer rp))
    (HL : Hid (∀ W, w.grownBy W none → Calls Tryz.prog 54 #[.pointer (some ⟨b, 0, none⟩)] W fun e w' => e = .returned (.int .i64 n) ∧ W = w'))
    (HC : Hid (∀ W, w.grownBy W none → Calls Tryz.prog 76 #[.slice ka m kc, .slice tka tm tkc] W fun e w' => e = .returned (.int .i64 c) ∧ W.grownBy w' none))
    (T1 : Hid (∀ W, w.grownBy W none → Makes 105 #[.pointer rp, .agg #[.slice ka m kc, .slice va q vc]] W P1))
    (T2 : Hid (∀ W p, w.grownBy W none → P1 W p → Makes 102 #[.pointer lp, .agg #[.slice tka tm tkc, .slice tva tq tvc], .pointer p] W P2)) :
    Makes 105 #[.pointer (some ⟨b, 0, none⟩), .agg #[.slice ka m kc, .slice va q vc]] w P2 := by
  have K0 := Lib.hid (World.grownBy_alloc w (.cells #[.slice ka m kc, .slice va q vc] 164) none)
  have B0 := Lib.hid (HB.keep K0.out)
  have X0 := Lib.hid (Box2.new w (.slice ka m kc) (.slice va q vc) 164)
  have F := Lib.hid (fun (W : World) (hW : (w.alloc (.cells #[.slice ka m kc, .slice va q vc] 164)).grownBy W none) => And.intro (B0.out.keep hW) (X0.out.keep hW))
  have hn' : ((n : Int) == 0) = false := beq_eq_false_iff_ne.2 (by omega)
  have C0 := Lib.hid (grown_reflT (w.alloc (.cells #[.slice ka m kc, .slice va q vc] 164)) none)
  have hc' : ¬ c < 0 := by omega
  clear HB hn
  unfold Makes
  go_enter Tryz.func105, Tryz.ntmps105
  go_upto_region 1 with fail
  generalize w.alloc (.cells #[.slice ka m kc, .slice va q vc] 164) = w0 at *
  go_wp2_with fail
  refine (HL.out _ K0.out).mono ?_
  rintro e w1 ⟨rfl, rfl⟩
  go_upto_region 3 with fail
  clear hn' HL
  obtain ⟨⟨b0, b1, b2, b3⟩, x0, x1⟩ := F.out _ C0.out
  go_cut [5] (fun s5 wx => s5 = .int .i64 c ∧ Hid (w0.grownBy wx none))
  case first =>
    go_region_with (go_at_call 76; (with_reducible refine (HC.out _ (by first | exact K0.out | exact grown_drewT K0.out)).mono ?_); rintro e w2 ⟨rfl, hg2⟩; have G2 := Lib.hid ((grown_drewT C0.out).trans hg2); clear hg2)
    all_goals
      go_wp2_with fail
      go_meet
      exact ⟨rfl, G2⟩
  case rest =>
  obtain ⟨rfl, G0⟩ := hcut
  clear b0 b1 b2 b3 x0 x1 HC
  obtain ⟨⟨b0, b1, b2, b3⟩, x0, x1⟩ := F.out _ G0.out
  have T1' := Lib.hid (Makes.calls (T1.out wc.drew (grown_drewT (K0.out.trans G0.out))))
  clear T1
  go_upto_region 7 with fail
  go_region_held3 (fun w' => (w'.cell? ⟨b, 0, none⟩ = some (.slice tka tm tkc) ∧ w'.cell? ⟨b, 1, none⟩ = some (.slice tva tq tvc) ∧ w'.cell? ⟨b, 2, none⟩ = some (.pointer lp) ∧ w'.cell? ⟨b, 3, none⟩ = some (.pointer rp)) ∧ w'.cell? ⟨w.heap.size, 0, none⟩ = some (.slice ka m kc) ∧ w'.cell? ⟨w.heap.size, 1, none⟩ = some (.slice va q vc)) (first | exact F.out _ G1.out | exact F.out _ (grown_drewT G0.out) | exact F.out _ G2.out) (first
    | (go_at_call 105; (with_reducible refine T1'.out.mono ?_); rintro e w2 ⟨⟨p1, rfl, hp1⟩, hg2⟩; have G1 := Lib.hid ((grown_drewT G0.out).trans hg2); have T2' := Lib.hid (Makes.calls (T2.out _ p1 (K0.out.trans G1.out) hp1)); clear hg2 hp1)
    | (go_at_call 102; (with_reducible refine T2'.out.mono ?_); rintro e w3 ⟨⟨p2, rfl, hp2⟩, hg3⟩; have G2 := Lib.hid (G1.out.trans hg3); have Hp2 := Lib.hid hp2; clear hg3 hp2))
  go_wp2_with fail
  go_ret
  exact ⟨⟨_, rfl, Hp2.out⟩, K0.out.trans G2.out⟩
set_option maxRecDepth 100000 in
set_option maxHeartbeats 6400000 in
theorem put_eq (b : Nat) (lp rp ka va tka tva : Ptr) (m kc q vc tm tkc tq tvc n : Nat) (c : Int) (w : World) (P2 : World → Ptr → Prop) (hn : 0 < n) (hc : c = 0)
    (HB : Box4 b w (.slice tka tm tkc) (.slice tva tq tvc) (.pointer lp) (.pointer rp))
    (HL : Hid (∀ W, w.grownBy W none → Calls Tryz.prog 54 #[.pointer (some ⟨b, 0, none⟩)] W fun e w' => e = .returned (.int .i64 n) ∧ W = w'))
    (HC : Hid (∀ W, w.grownBy W none → Calls Tryz.prog 76 #[.slice ka m kc, .slice tka tm tkc] W fun e w' => e = .returned (.int .i64 c) ∧ W.grownBy w' none))
    (T1 : Hid (∀ W, w.grownBy W none → Makes 122 #[.pointer lp, .agg #[.slice ka m kc, .slice va q vc], .pointer rp] W P2)) :
    Makes 105 #[.pointer (some ⟨b, 0, none⟩), .agg #[.slice ka m kc, .slice va q vc]] w P2 := by
  have K0 := Lib.hid (World.grownBy_alloc w (.cells #[.slice ka m kc, .slice va q vc] 164) none)
  have B0 := Lib.hid (HB.keep K0.out)
  have X0 := Lib.hid (Box2.new w (.slice ka m kc) (.slice va q vc) 164)
  have F := Lib.hid (fun (W : World) (hW : (w.alloc (.cells #[.slice ka m kc, .slice va q vc] 164)).grownBy W none) => And.intro (B0.out.keep hW) (X0.out.keep hW))
  have hn' : ((n : Int) == 0) = false := beq_eq_false_iff_ne.2 (by omega)
  have C0 := Lib.hid (grown_reflT (w.alloc (.cells #[.slice ka m kc, .slice va q vc] 164)) none)
  have hc1 : ¬ c < 0 := by omega
  have hc2 : ¬ 0 < c := by omega
  clear HB hn hc
  unfold Makes
  go_enter Tryz.func105, Tryz.ntmps105
  go_upto_region 1 with fail
  generalize w.alloc (.cells #[.slice ka m kc, .slice va q vc] 164) = w0 at *
  go_wp2_with fail
  refine (HL.out _ K0.out).mono ?_
  rintro e w1 ⟨rfl, rfl⟩
  go_upto_region 3 with fail
  clear hn' HL
  obtain ⟨⟨b0, b1, b2, b3⟩, x0, x1⟩ := F.out _ C0.out
  go_cut [5] (fun s5 wx => s5 = .int .i64 c ∧ Hid (w0.grownBy wx none))
  case first =>
    go_region_with (go_at_call 76; (with_reducible refine (HC.out _ (by first | exact K0.out | exact grown_drewT K0.out)).mono ?_); rintro e w2 ⟨rfl, hg2⟩; have G2 := Lib.hid ((grown_drewT C0.out).trans hg2); clear hg2)
    all_goals
      go_wp2_with fail
      go_meet
      exact ⟨rfl, G2⟩
  case rest =>
  obtain ⟨rfl, G0⟩ := hcut
  clear b0 b1 b2 b3 x0 x1 HC
  obtain ⟨⟨b0, b1, b2, b3⟩, x0, x1⟩ := F.out _ G0.out
  have T1' := Lib.hid (Makes.calls (T1.out wc.drew (grown_drewT (K0.out.trans G0.out))))
  clear T1
  go_upto_region 8 with fail
  go_region_held3 (fun w' => (w'.cell? ⟨b, 0, none⟩ = some (.slice tka tm tkc) ∧ w'.cell? ⟨b, 1, none⟩ = some (.slice tva tq tvc) ∧ w'.cell? ⟨b, 2, none⟩ = some (.pointer lp) ∧ w'.cell? ⟨b, 3, none⟩ = some (.pointer rp)) ∧ w'.cell? ⟨w.heap.size, 0, none⟩ = some (.slice ka m kc) ∧ w'.cell? ⟨w.heap.size, 1, none⟩ = some (.slice va q vc)) (first | exact F.out _ G1.out | exact F.out _ (grown_drewT G0.out)) ((go_at_call 122; (with_reducible refine T1'.out.mono ?_); rintro e w2 ⟨⟨p1, rfl, hp1⟩, hg2⟩; have G1 := Lib.hid ((grown_drewT G0.out).trans hg2); have Hp1 := Lib.hid hp1; clear hg2 hp1))
  go_wp2_with fail
  go_ret
  exact ⟨⟨_, rfl, Hp1.out⟩, K0.out.trans G1.out⟩
set_option maxRecDepth 100000 in
set_option maxHeartbeats 6400000 in
theorem put_nil (ka va : Ptr) (m kc q vc : Nat) (w : World) (P2 : World → Ptr → Prop)
    (HL : Hid (∀ W, w.grownBy W none → Calls Tryz.prog 54 #[.pointer none] W fun e w' => e = .returned (.int .i64 0) ∧ W = w'))
    (T1 : Hid (∀ W, w.grownBy W none → Makes 122 #[.pointer none, .agg #[.slice ka m kc, .slice va q vc], .pointer none] W P2)) :
    Makes 105 #[.pointer none, .agg #[.slice ka m kc, .slice va q vc]] w P2 := by
  have K0 := Lib.hid (World.grownBy_alloc w (.cells #[.slice ka m kc, .slice va q vc] 164) none)
  obtain ⟨x0, x1⟩ := Box2.new w (.slice ka m kc) (.slice va q vc) 164
  have T1' := Lib.hid (Makes.calls (T1.out _ K0.out))
  unfold Makes
  go_enter Tryz.func105, Tryz.ntmps105
  go_wp2_with fail
  refine (HL.out _ K0.out).mono ?_
  rintro e w1 ⟨rfl, rfl⟩
  go_wp2_with fail
  refine T1'.out.mono ?_
  rintro e w2 ⟨⟨p1, rfl, hp1⟩, hg2⟩
  have D := Lib.hid (And.intro hp1 (K0.out.trans hg2))
  clear hp1 hg2
  go_wp2_with fail
  go_ret
  exact ⟨⟨_, rfl, D.out.1⟩, D.out.2⟩
abbrev ordR := rowsOrd
theorem rows_grown (a a' : Option Addr) (cap cap' : Nat) (l m : List Vl) (w : World) (h : RowAt w a l) (h' : RowAt w a' m) :
    Calls Tryz.prog 76 #[.slice a l.length cap, .slice a' m.length cap'] w fun e w' => e = .returned (.int .i64 (rowsOrd l m)) ∧ w.grownBy w' none := (rows_any a a' cap cap' l m w h h').mono fun _ _ h => ⟨h.1, grown_belowT h.2 none⟩
theorem put_any (S : Nat → Prop) (k v : List Vl) (ka va : Option Addr) (kc vc : Nat) : ∀ (t : Tre) (p : Option Addr) (w : World), (∀ b, w.heap.size ≤ b → S b) → TrAt S w t p → RwS S w ka k → RwS S w va v → t.n ≤ 1000000000 →
    Makes 105 #[.pointer p, .agg #[.slice ka k.length kc, .slice va v.length vc]] w (fun W p => TrAt S W (Tr.put rowsOrd k v t) p)
  | .nil, p, w, hS, h, hk, hv, _ => by
    obtain rfl : p = none := h
    exact put_nil ka va k.length kc v.length vc w _ (Lib.hid fun W _ => len_any S .nil none W rfl) (Lib.hid fun W hW => top_makes S .nil .nil k v none none ka va kc vc W (hsS hS hW) rfl rfl (hk.keep (.of hW)) (hv.keep (.of hW)) (by simp [Tr.n]))
  | .node l k' v' r, p, w, hS, h, hk, hv, hn => by
    have H := h
    obtain ⟨b, tka, tkc, tva, tvc, lp, rp, rfl, _, _, ⟨c0, c1, c2, c3, _, _⟩, h1, h2, h3, h4⟩ := h
    have hn0 : 0 < Tr.n (.node l k' v' r) := by simp [Tr.n]; omega
    have pl := Tr.put_n rowsOrd k v l
    have pr := Tr.put_n rowsOrd k v r
    have hnn : l.n + 1 + r.n ≤ 1000000000 := by simpa [Tr.n] using hn
    have HL := Lib.hid (fun W (hW : w.grownBy W none) => len_any S _ _ W (H.keep (.of hW)))
    have HC := Lib.hid (fun W (hW : w.grownBy W none) => rows_grown ka tka kc tkc k k' W ((hk.keep (.of hW)).row) ((h1.keep (.of hW)).row))
    by_cases hlt : rowsOrd k k' < 0
    · have e : Tr.put rowsOrd k v (.node l k' v' r) = Tr.bal (Tr.put rowsOrd k v l) k' v' r := by simp only [Tr.put]; rw [if_pos hlt]
      rw [e]
      exact put_lt b lp rp ka va tka tva k.length kc v.length vc k'.length tkc v'.length tvc _ _ w (fun W p => TrAt S W (Tr.put rowsOrd k v l) p) _ hn0 hlt ⟨c0, c1, c2, c3⟩ HL HC
        (Lib.hid fun W hW => put_any S k v ka va kc vc l lp W (hsS hS hW) (h3.keep (.of hW)) (hk.keep (.of hW)) (hv.keep (.of hW)) (by omega))
        (Lib.hid fun W p hW hp => balanced_any S (Tr.put rowsOrd k v l) r k' v' p rp tka tva tkc tvc W (hsS hS hW) hp (h4.keep (.of hW)) (h1.keep (.of hW)) (h2.keep (.of hW)) (by omega))
    · by_cases hgt : 0 < rowsOrd k k'
      · have e : Tr.put rowsOrd k v (.node l k' v' r) = Tr.bal l k' v' (Tr.put rowsOrd k v r) := by simp only [Tr.put]; rw [if_neg hlt, if_pos hgt]
        rw [e]
        exact put_gt b lp rp ka va tka tva k.length kc v.length vc k'.length tkc v'.length tvc _ _ w (fun W p => TrAt S W (Tr.put rowsOrd k v r) p) _ hn0 hgt ⟨c0, c1, c2, c3⟩ HL HC
          (Lib.hid fun W hW => put_any S k v ka va kc vc r rp W (hsS hS hW) (h4.keep (.of hW)) (hk.keep (.of hW)) (hv.keep (.of hW)) (by omega))
          (Lib.hid fun W p hW hp => balanced_any S l (Tr.put rowsOrd k v r) k' v' lp p tka tva tkc tvc W (hsS hS hW) (h3.keep (.of hW)) hp (h1.keep (.of hW)) (h2.keep (.of hW)) (by omega))
      · have e : Tr.put rowsOrd k v (.node l k' v' r) = .node l k v r := by simp only [Tr.put]; rw [if_neg hlt, if_neg hgt]
        rw [e]
        exact put_eq b lp rp ka va tka tva k.length kc v.length vc k'.length tkc v'.length tvc _ _ w _ hn0 (by omega) ⟨c0, c1, c2, c3⟩ HL HC
          (Lib.hid fun W hW => top_makes S l r k v lp rp ka va kc vc W (hsS hS hW) (h3.keep (.of hW)) (h4.keep (.of hW)) (hk.keep (.of hW)) (hv.keep (.of hW)) (by omega))
end Go.Proofs.YtaggacffjbjchaaGreatDoor
namespace Go.Proofs.YtaggacffjbjchaaGreatDoor
open Go.RowKit

def FullG (l : List Tb) (i : Nat) : Prop := i < 6 ∧ 1 ≤ (l.getD i default).l.length ∧ (l.getD i default).l.length ≤ 8
def MalG (l : List Tb) (i : Nat) : Prop := nameB (l.getD i default).n = true ∧ 1 ≤ (l.getD i default).k ∧ (l.getD i default).k ≤ (l.getD i default).l.length ∧ ∀ j, j < (l.getD i default).l.length → colGood (l.getD i default).k j ((l.getD i default).l.getD j default)
def TwcG (l : List Tb) (i : Nat) : Prop := Apart6 (l.take i) (l.getD i default).n ∧ Once6 (l.getD i default).l (l.getD i default).l.length
/-- Right: no table of the list is flawed. -/
def RightG (l : List Tb) : Prop := ∀ i, i < l.length → FullG l i ∧ MalG l i ∧ TwcG l i
theorem review_any (a : Option Addr) (cap : Nat) (l : List Tb) (w : World) (h : TabsAt w.heap.size w a l) (hcap : l.length ≤ cap) (hcs : ∀ t ∈ l, t.l.length ≤ t.cap) (hw : WhyG w) :
    Calls Tryz.prog 57 #[.slice a l.length cap] w fun e w' => (RightG l ∧ e = .returned .nilIface ∨ ∃ k y, Flaw6 (FullG l) (MalG l) (TwcG l) l.length k y ∧ ∃ ty p, e = .returned (.iface 132 (.agg #[.int .i64 k, .int .i64 y, .iface ty p]))) ∧ w.grownBy w' none := by
  refine review_walk a cap l w h hcap (FullG l) (MalG l) (TwcG l) (fun k hk W hW => ?_) (fun k hk W hW => ?_) (fun k hk W hW => ?_)
  · exact full_any k _ _ _ _ _ W (hw.grown hW)
  · exact malformed_any _ _ _ _ _ W (((h.2.1 _ (tb_mem hk)).keep hW (by simp)).mono hW.size) (hw.grown hW)
  · have hl : (l.take k).length = k := by rw [List.length_take]; omega
    have := twice_any a (l.getD k default).a cap (l.getD k default).cap (l.take k) (l.getD k default).l (l.getD k default).n (l.getD k default).k W (((h.keep hW (by simp)).mono hW.size).pre (by omega)) (((h.2.1 _ (tb_mem hk)).keep hW (by simp)).mono hW.size) (hcs _ (tb_mem hk)) (hw.grown hW)
    rw [hl] at this
    exact this
theorem Flaw6.not {l : List Tb} {k : Nat} {y : Int} (h : Flaw6 (FullG l) (MalG l) (TwcG l) l.length k y) : ¬ RightG l := fun hr => by
  obtain ⟨h1, h2, h3⟩ := hr k h.1
  rcases h.2.2 with ⟨h, _⟩ | ⟨_, h, _⟩ | ⟨_, _, h, _⟩
  · exact h h1
  · exact h h2
  · exact h h3
set_option maxHeartbeats 1600000 in
/-- Check at any tables. -/
theorem check_any (a : Option Addr) (cap G : Nat) (l : List Tb) (w : World) (h : TabsAt w.heap.size w a l) (hcap : l.length ≤ cap) (hcs : ∀ t ∈ l, t.l.length ≤ t.cap) (hw : WhyG w) (hE : ErrT G w) :
    Calls Tryz.prog 35 #[.slice a l.length cap] w fun e w' => (RightG l ∧ e = .returned (.tuple #[.int .i64 0, .int .i64 0]) ∨ ∃ k y, Flaw6 (FullG l) (MalG l) (TwcG l) l.length k y ∧ e = .returned (.tuple #[.int .i64 k, .int .i64 y])) ∧ w.grownBy w' none := by
  have HR0 : Hid (∀ W, w.grownBy W none → Calls Tryz.prog 57 #[.slice a l.length cap] W fun e w' => (RightG l ∧ e = .returned .nilIface ∨ ∃ k y, Flaw6 (FullG l) (MalG l) (TwcG l) l.length k y ∧ ∃ ty p, e = .returned (.iface 132 (.agg #[.int .i64 k, .int .i64 y, .iface ty p]))) ∧ W.grownBy w' none) := Lib.hid fun W hW => review_any a cap l W ((h.keep hW (by simp)).mono hW.size) hcap hcs (hw.grown hW)
  by_cases hr : RightG l
  · have HR : Hid (∀ W, w.grownBy W none → Calls Tryz.prog 57 #[.slice a l.length cap] W fun e w' => e = .returned .nilIface ∧ W.grownBy w' none) := Lib.hid fun W hW => (HR0.out W hW).mono fun e w' h => ⟨by
      rcases h.1 with ⟨_, h⟩ | ⟨k, y, h, _⟩
      · exact h
      · exact absurd hr h.not, h.2⟩
    have HA := Lib.hid as_nil
    have HQ := Lib.hid hr
    clear HR0 hr h hcap hcs hw hE
    generalize l.length = n at *
    go_enter Tryz.func35, Tryz.ntmps35
    go_wp2_with fail
    refine (HR.out _ (World.grownBy_alloc _ _ _)).mono ?_
    rintro e w2 ⟨rfl, hg⟩
    have K2 := Lib.hid ((World.grownBy_alloc w _ none).trans hg)
    clear hg
    go_wp2_with fail
    refine (HA.out _ _ _).mono ?_
    rintro e w3 ⟨rfl, rfl⟩
    go_wp2_with fail
    go_ret2
    exact ⟨.inl ⟨HQ.out, rfl⟩, K2.out⟩
  · obtain ⟨FL, hFL⟩ : ∃ FL : Nat → Int → Prop, FL = fun k y => Flaw6 (FullG l) (MalG l) (TwcG l) l.length k y := ⟨_, rfl⟩
    have HR : Hid (∀ W, w.grownBy W none → Calls Tryz.prog 57 #[.slice a l.length cap] W fun e w' => (∃ (k : Nat) (y : Int) (ty : TypeId) (p : Value), FL k y ∧ e = .returned (.iface 132 (.agg #[.int .i64 k, .int .i64 y, .iface ty p]))) ∧ W.grownBy w' none) := Lib.hid fun W hW => (HR0.out W hW).mono fun e w' h => ⟨by
      rcases h.1 with ⟨h, _⟩ | ⟨k, y, h, ty, p, e⟩
      · exact absurd h hr
      · exact ⟨k, y, ty, p, by rw [hFL]; exact h, e⟩, h.2⟩
    refine (?_ : Calls Tryz.prog 35 #[.slice a l.length cap] w fun e w' => (∃ (k : Nat) (y : Int), FL k y ∧ e = .returned (.tuple #[.int .i64 k, .int .i64 y])) ∧ w.grownBy w' none).mono fun e w' ⟨⟨k, y, h, e⟩, g⟩ => ⟨.inr ⟨k, y, by rw [hFL] at h; exact h, e⟩, g⟩
    have HE := Lib.hid hE
    clear HR0 hr h hcap hcs hw hE hFL
    generalize l.length = n at *
    have G0 := Lib.hid (World.grownBy_alloc w (.cells #[.int .i64 0, .int .i64 0, .nilIface] 132) none)
    have HB := Lib.hid (box3_new6 w (.int .i64 0) (.int .i64 0) .nilIface 132)
    have HZ : Hid (∀ i, (w.alloc (.cells #[.int .i64 0, .int .i64 0, .nilIface] 132)).frozen? ⟨w.heap.size, i, none⟩ = false) := Lib.hid fun i => by
      have e := heap_alloc_new w (.cells #[.int .i64 0, .int .i64 0, .nilIface] 132)
      simp only [World.frozen?, e]
      simp
    go_enter Tryz.func35, Tryz.ntmps35
    go_wp2_with fail
    refine (HR.out _ (World.grownBy_alloc _ _ _)).mono ?_
    rintro e w2 ⟨⟨k, y, ty, p, hfl, rfl⟩, hg⟩
    have HA := Lib.hid (as_hitF k y ty p w.heap.size G _ _ _ w2 (HE.out.grown (G0.out.trans hg)) (hg.cell HB.out.1 (by simp)) (hg.cell HB.out.2.1 (by simp)) (hg.cell HB.out.2.2 (by simp)) ((hg.frozen_far ⟨w.heap.size, 0, none⟩ (by simp) (by simp)).trans (HZ.out 0)) ((hg.frozen_far ⟨w.heap.size, 1, none⟩ (by simp) (by simp)).trans (HZ.out 1)) ((hg.frozen_far ⟨w.heap.size, 2, none⟩ (by simp) (by simp)).trans (HZ.out 2)))
    have K2 := Lib.hid hg
    have FH := Lib.hid hfl
    clear hg hfl
    go_wp2_with fail
    refine HA.out.mono ?_
    rintro e w3 ⟨rfl, hh⟩
    obtain ⟨hg3, e0, e1⟩ := hh.after (K2.out.cell HB.out.1 (by simp)) (K2.out.cell HB.out.2.1 (by simp)) (K2.out.cell HB.out.2.2 (by simp))
    have K3 := Lib.hid hg3
    clear hg3 hh
    go_wp2_with fail
    go_quiet (fail)
    go_wp2_with fail
    go_ret2
    exact ⟨⟨k, y, FH.out, rfl⟩, grown_drewN6 (grown_then6 (G0.out.trans K2.out) K3.out (fun j e => by cases e; exact Nat.le_refl _)) _⟩
end Go.Proofs.YtaggacffjbjchaaGreatDoor
