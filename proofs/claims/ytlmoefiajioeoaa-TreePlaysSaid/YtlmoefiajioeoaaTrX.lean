/- tree's Delete and beside, by what they call. -/
import Derived.Test.YtlmoefiajioeoaaTrH
import Derived.Deep.DeepCutAuto
namespace Go.Proofs.Ytlmoefiajioeoaa
open Go.RowKit

set_option maxRecDepth 100000 in
set_option maxHeartbeats 6400000 in
theorem del_lt (b : Nat) (lp rp ka tka tva : Ptr) (m kc tm tkc tq tvc n : Nat) (c : Int) (w : World) (P1 P2 : World → Ptr → Prop) (hn : 0 < n) (hc : c < 0)
    (HB : Box4 b w (.slice tka tm tkc) (.slice tva tq tvc) (.pointer lp) (.pointer rp))
    (HL : Hid (∀ W, w.grownBy W none → Calls Try.prog 38 #[.pointer (some ⟨b, 0, none⟩)] W fun e w' => e = .returned (.int .i64 n) ∧ W = w'))
    (HC : Hid (∀ W, w.grownBy W none → Calls Try.prog 49 #[.slice ka m kc, .slice tka tm tkc] W fun e w' => e = .returned (.int .i64 c) ∧ W.grownBy w' none))
    (T1 : Hid (∀ W, w.grownBy W none → Makes 32 #[.pointer lp, .slice ka m kc] W P1))
    (T2 : Hid (∀ W p, w.grownBy W none → P1 W p → Makes 50 #[.pointer p, .agg #[.slice tka tm tkc, .slice tva tq tvc], .pointer rp] W P2)) :
    Makes 32 #[.pointer (some ⟨b, 0, none⟩), .slice ka m kc] w P2 := by
  have F := Lib.hid (fun (W : World) (hW : w.grownBy W none) => HB.keep hW)
  have hn' : ((n : Int) == 0) = false := beq_eq_false_iff_ne.2 (by omega)
  have C0 := Lib.hid (grown_reflT w none)
  clear HB hn
  unfold Makes
  go_enter Try.func32, Try.ntmps32
  go_wp2_with fail
  refine (HL.out _ C0.out).mono ?_
  rintro e w1 ⟨rfl, rfl⟩
  go_upto_region 3 with fail
  clear hn' HL
  obtain ⟨b0, b1, b2, b3⟩ := F.out _ C0.out
  go_wp2_with fail
  refine (HC.out _ C0.out).mono ?_
  rintro e w0 ⟨rfl, hg0⟩
  have G0 := Lib.hid hg0
  clear b0 b1 b2 b3 HC hg0
  obtain ⟨b0, b1, b2, b3⟩ := F.out _ G0.out
  have T1' := Lib.hid (Makes.calls (T1.out w0.drew (grown_drewT G0.out)))
  clear T1
  go_upto_region 5 with fail
  go_region_held3 (fun w' => w'.cell? ⟨b, 0, none⟩ = some (.slice tka tm tkc) ∧ w'.cell? ⟨b, 1, none⟩ = some (.slice tva tq tvc) ∧ w'.cell? ⟨b, 2, none⟩ = some (.pointer lp) ∧ w'.cell? ⟨b, 3, none⟩ = some (.pointer rp)) (first | exact F.out _ G1.out | exact F.out _ (grown_drewT G0.out) | exact F.out _ G2.out) (first
    | (go_at_call 32; (with_reducible refine T1'.out.mono ?_); rintro e w2 ⟨⟨p1, rfl, hp1⟩, hg2⟩; have G1 := Lib.hid ((grown_drewT G0.out).trans hg2); have T2' := Lib.hid (Makes.calls (T2.out _ p1 G1.out hp1)); clear hg2 hp1)
    | (go_at_call 50; (with_reducible refine T2'.out.mono ?_); rintro e w3 ⟨⟨p2, rfl, hp2⟩, hg3⟩; have G2 := Lib.hid (G1.out.trans hg3); have Hp2 := Lib.hid hp2; clear hg3 hp2))
  go_wp2_with fail
  go_ret
  exact ⟨⟨_, rfl, Hp2.out⟩, G2.out⟩
set_option maxRecDepth 100000 in
set_option maxHeartbeats 6400000 in
theorem del_gt (b : Nat) (lp rp ka tka tva : Ptr) (m kc tm tkc tq tvc n : Nat) (c : Int) (w : World) (P1 P2 : World → Ptr → Prop) (hn : 0 < n) (hc : 0 < c)
    (HB : Box4 b w (.slice tka tm tkc) (.slice tva tq tvc) (.pointer lp) (.pointer rp))
    (HL : Hid (∀ W, w.grownBy W none → Calls Try.prog 38 #[.pointer (some ⟨b, 0, none⟩)] W fun e w' => e = .returned (.int .i64 n) ∧ W = w'))
    (HC : Hid (∀ W, w.grownBy W none → Calls Try.prog 49 #[.slice ka m kc, .slice tka tm tkc] W fun e w' => e = .returned (.int .i64 c) ∧ W.grownBy w' none))
    (T1 : Hid (∀ W, w.grownBy W none → Makes 32 #[.pointer rp, .slice ka m kc] W P1))
    (T2 : Hid (∀ W p, w.grownBy W none → P1 W p → Makes 50 #[.pointer lp, .agg #[.slice tka tm tkc, .slice tva tq tvc], .pointer p] W P2)) :
    Makes 32 #[.pointer (some ⟨b, 0, none⟩), .slice ka m kc] w P2 := by
  have F := Lib.hid (fun (W : World) (hW : w.grownBy W none) => HB.keep hW)
  have hn' : ((n : Int) == 0) = false := beq_eq_false_iff_ne.2 (by omega)
  have C0 := Lib.hid (grown_reflT w none)
  have hc' : ¬ c < 0 := by omega
  clear HB hn
  unfold Makes
  go_enter Try.func32, Try.ntmps32
  go_wp2_with fail
  refine (HL.out _ C0.out).mono ?_
  rintro e w1 ⟨rfl, rfl⟩
  go_upto_region 3 with fail
  clear hn' HL
  obtain ⟨b0, b1, b2, b3⟩ := F.out _ C0.out
  go_wp2_with fail
  refine (HC.out _ C0.out).mono ?_
  rintro e w0 ⟨rfl, hg0⟩
  have G0 := Lib.hid hg0
  clear b0 b1 b2 b3 HC hg0
  obtain ⟨b0, b1, b2, b3⟩ := F.out _ G0.out
  have T1' := Lib.hid (Makes.calls (T1.out w0.drew (grown_drewT G0.out)))
  clear T1
  go_upto_region 7 with fail
  go_region_held3 (fun w' => w'.cell? ⟨b, 0, none⟩ = some (.slice tka tm tkc) ∧ w'.cell? ⟨b, 1, none⟩ = some (.slice tva tq tvc) ∧ w'.cell? ⟨b, 2, none⟩ = some (.pointer lp) ∧ w'.cell? ⟨b, 3, none⟩ = some (.pointer rp)) (first | exact F.out _ G1.out | exact F.out _ (grown_drewT G0.out) | exact F.out _ G2.out) (first
    | (go_at_call 32; (with_reducible refine T1'.out.mono ?_); rintro e w2 ⟨⟨p1, rfl, hp1⟩, hg2⟩; have G1 := Lib.hid ((grown_drewT G0.out).trans hg2); have T2' := Lib.hid (Makes.calls (T2.out _ p1 G1.out hp1)); clear hg2 hp1)
    | (go_at_call 50; (with_reducible refine T2'.out.mono ?_); rintro e w3 ⟨⟨p2, rfl, hp2⟩, hg3⟩; have G2 := Lib.hid (G1.out.trans hg3); have Hp2 := Lib.hid hp2; clear hg3 hp2))
  go_wp2_with fail
  go_ret
  exact ⟨⟨_, rfl, Hp2.out⟩, G2.out⟩
set_option maxRecDepth 100000 in
set_option maxHeartbeats 6400000 in
theorem del_eq (b : Nat) (lp rp ka tka tva : Ptr) (m kc tm tkc tq tvc n : Nat) (c : Int) (w : World) (P2 : World → Ptr → Prop) (hn : 0 < n) (hc : c = 0)
    (HB : Box4 b w (.slice tka tm tkc) (.slice tva tq tvc) (.pointer lp) (.pointer rp))
    (HL : Hid (∀ W, w.grownBy W none → Calls Try.prog 38 #[.pointer (some ⟨b, 0, none⟩)] W fun e w' => e = .returned (.int .i64 n) ∧ W = w'))
    (HC : Hid (∀ W, w.grownBy W none → Calls Try.prog 49 #[.slice ka m kc, .slice tka tm tkc] W fun e w' => e = .returned (.int .i64 c) ∧ W.grownBy w' none))
    (T1 : Hid (∀ W, w.grownBy W none → Makes 51 #[.pointer lp, .pointer rp] W P2)) :
    Makes 32 #[.pointer (some ⟨b, 0, none⟩), .slice ka m kc] w P2 := by
  have F := Lib.hid (fun (W : World) (hW : w.grownBy W none) => HB.keep hW)
  have hn' : ((n : Int) == 0) = false := beq_eq_false_iff_ne.2 (by omega)
  have C0 := Lib.hid (grown_reflT w none)
  have hc1 : ¬ c < 0 := by omega
  have hc2 : ¬ 0 < c := by omega
  clear hc
  clear HB hn
  unfold Makes
  go_enter Try.func32, Try.ntmps32
  go_wp2_with fail
  refine (HL.out _ C0.out).mono ?_
  rintro e w1 ⟨rfl, rfl⟩
  go_upto_region 3 with fail
  clear hn' HL
  obtain ⟨b0, b1, b2, b3⟩ := F.out _ C0.out
  go_wp2_with fail
  refine (HC.out _ C0.out).mono ?_
  rintro e w0 ⟨rfl, hg0⟩
  have G0 := Lib.hid hg0
  clear b0 b1 b2 b3 HC hg0
  obtain ⟨b0, b1, b2, b3⟩ := F.out _ G0.out
  have T1' := Lib.hid (Makes.calls (T1.out w0.drew (grown_drewT G0.out)))
  clear T1
  go_upto_region 8 with fail
  go_region_held3 (fun w' => w'.cell? ⟨b, 0, none⟩ = some (.slice tka tm tkc) ∧ w'.cell? ⟨b, 1, none⟩ = some (.slice tva tq tvc) ∧ w'.cell? ⟨b, 2, none⟩ = some (.pointer lp) ∧ w'.cell? ⟨b, 3, none⟩ = some (.pointer rp)) (first | exact F.out _ G1.out | exact F.out _ (grown_drewT G0.out)) ((go_at_call 51; (with_reducible refine T1'.out.mono ?_); rintro e w2 ⟨⟨p1, rfl, hp1⟩, hg2⟩; have G1 := Lib.hid ((grown_drewT G0.out).trans hg2); have Hp1 := Lib.hid hp1; clear hg2 hp1))
  go_wp2_with fail
  go_ret
  exact ⟨⟨_, rfl, Hp1.out⟩, G1.out⟩
set_option maxHeartbeats 3200000 in
theorem del_nil (ka : Ptr) (m kc : Nat) (w : World) (P2 : World → Ptr → Prop) (hP : P2 w none)
    (HL : Hid (∀ W, w.grownBy W none → Calls Try.prog 38 #[.pointer none] W fun e w' => e = .returned (.int .i64 0) ∧ W = w')) :
    Makes 32 #[.pointer none, .slice ka m kc] w P2 := by
  have C0 := Lib.hid (grown_reflT w none)
  have HP := Lib.hid hP
  clear hP
  unfold Makes
  go_enter Try.func32, Try.ntmps32
  go_wp2_with fail
  refine (HL.out _ C0.out).mono ?_
  rintro e w1 ⟨rfl, rfl⟩
  go_wp2_with fail
  go_ret
  exact ⟨⟨_, rfl, HP.out⟩, C0.out⟩
set_option maxRecDepth 100000 in
set_option maxHeartbeats 6400000 in
theorem beside_nil (lp : Ptr) (w : World) (P2 : World → Ptr → Prop) (hP : P2 w lp) : Makes 51 #[.pointer lp, .pointer none] w P2 := by
  have HP := Lib.hid hP
  clear hP
  unfold Makes
  go_enter Try.func51, Try.ntmps51
  go_wp2_with fail
  go_ret
  exact ⟨⟨_, rfl, HP.out⟩, grown_reflT _ _⟩
set_option maxRecDepth 100000 in
set_option maxHeartbeats 6400000 in
theorem beside_gen (r : Addr) (lp : Ptr) (w : World) (P1 P2 : World → Ptr → Prop) (pp dp : Nat) (Q : World → Prop) (P0 : World → Ptr → Nat → Ptr → Nat → Nat → Ptr → Nat → Nat → Prop)
    (HW : Hid (Calls Try.prog 41 #[.pointer (some r), .slice none 0 0] w fun e w' => e = .returned (walkF pp dp) ∧ Q w' ∧ w.grownBy w' none))
    (HN : Hid (∀ W, Q W → w.grownBy W none → Calls Try.prog 53 #[.pointer (some ⟨pp, 0, none⟩), .pointer (some ⟨dp, 0, none⟩)] W fun e w' => (∃ b ka m kc va q vc, e = .returned (.pointer (some ⟨b, 0, none⟩)) ∧ w'.cell? ⟨b, 0, none⟩ = some (.slice ka m kc) ∧ w'.cell? ⟨b, 1, none⟩ = some (.slice va q vc) ∧ P0 w' (some ⟨b, 0, none⟩) b ka m kc va q vc) ∧ w.grownBy w' none))
    (T1 : Hid (∀ W W' p b ka m kc va q vc, w.grownBy W none → P0 W p b ka m kc va q vc → W.grownBy W' none → Makes 32 #[.pointer (some r), .slice ka m kc] W' P1))
    (T2 : Hid (∀ W W' p b ka m kc va q vc p1, w.grownBy W none → P0 W p b ka m kc va q vc → W.grownBy W' none → P1 W' p1 → Makes 50 #[.pointer lp, .agg #[.slice ka m kc, .slice va q vc], .pointer p1] W' P2)) :
    Makes 51 #[.pointer lp, .pointer (some r)] w P2 := by
  unfold Makes
  go_enter Try.func51, Try.ntmps51
  go_wp2_with fail
  refine HW.out.mono ?_
  rintro e w1 ⟨rfl, hq, hg1⟩
  have N1 := Lib.hid (HN.out _ hq hg1)
  clear hq hg1 HN HW
  go_wp2_with fail
  refine N1.out.mono ?_
  rintro e w2 ⟨⟨b, ka, m, kc, va, q, vc, rfl, c0, c1, h0⟩, hg2⟩
  have G2 := Lib.hid hg2
  have F := Lib.hid (fun (W : World) (hW : w2.grownBy W none) => And.intro (hW.cell c0 (by simp)) (hW.cell c1 (by simp)))
  have T1' := Lib.hid (Makes.calls (T1.out _ w2.drew _ _ _ _ _ _ _ _ hg2 h0 (grown_drewT (grown_reflT w2 none))))
  have T2' := Lib.hid (fun W' p1 h h' => Makes.calls (T2.out _ W' _ _ _ _ _ _ _ _ p1 hg2 h0 h h'))
  have C2 := Lib.hid (grown_reflT w2 none)
  clear hg2 h0 T1 T2 N1
  go_upto_region 4 with fail
  go_region_held3 (fun w' => w'.cell? ⟨b, 0, none⟩ = some (.slice ka m kc) ∧ w'.cell? ⟨b, 1, none⟩ = some (.slice va q vc)) (first | exact F.out _ E1.out | exact F.out _ (grown_drewT C2.out) | exact F.out _ E2.out) (first
    | (go_at_call 32; (with_reducible refine T1'.out.mono ?_); rintro e w3 ⟨⟨p1, rfl, hp1⟩, hg3⟩; have E1 := Lib.hid ((grown_drewT C2.out).trans hg3); have T3' := Lib.hid (T2'.out _ p1 E1.out hp1); clear hg3 hp1)
    | (go_at_call 50; (with_reducible refine T3'.out.mono ?_); rintro e w4 ⟨⟨p2, rfl, hp2⟩, hg4⟩; have E2 := Lib.hid (E1.out.trans hg4); have Hp2 := Lib.hid hp2; clear hg4 hp2))
  go_wp2_with fail
  go_ret
  exact ⟨⟨_, rfl, Hp2.out⟩, G2.out.trans E2.out⟩
end Go.Proofs.Ytlmoefiajioeoaa
