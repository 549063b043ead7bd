/- tree's put. -/
import Derived.Test.YtlmoefiajioeoaaTrBal
import Derived.Deep.DeepCutAuto
namespace Go.Proofs.Ytlmoefiajioeoaa
open Go.RowKit

theorem Tr.bal_n {K R : Type} (l : Tr K R) (k : K) (v : R) (r : Tr K R) : (Tr.bal l k v r).n = l.n + 1 + r.n := by
  rw [Tr.n_toL, Tr.bal_toL, Tr.n_toL l, Tr.n_toL r, List.length_append, List.length_cons]
  omega
theorem Tr.put_n {K R : Type} (c : K → K → Int) (k : K) (v : R) : ∀ t : Tr K R, (Tr.put c k v t).n ≤ t.n + 1
  | .nil => by simp [Tr.put, Tr.n]
  | .node l k' v' r => by
    have h1 := Tr.put_n c k v l
    have h2 := Tr.put_n c k v r
    simp only [Tr.put]
    split
    · rw [Tr.bal_n]; simp only [Tr.n]; omega
    · split
      · rw [Tr.bal_n]; simp only [Tr.n]; omega
      · simp only [Tr.n]; omega
set_option maxRecDepth 100000 in
set_option maxHeartbeats 6400000 in
theorem put_lt (b : Nat) (lp rp ka va tka tva : Ptr) (m kc q vc tm tkc tq tvc n : Nat) (c : Int) (w : World) (P1 P2 : World → Ptr → Prop) (hn : 0 < n) (hc : c < 0)
    (HB : Box4 b w (.slice tka tm tkc) (.slice tva tq tvc) (.pointer lp) (.pointer rp))
    (HL : Hid (∀ W, w.grownBy W none → Calls Try.prog 38 #[.pointer (some ⟨b, 0, none⟩)] W fun e w' => e = .returned (.int .i64 n) ∧ W = w'))
    (HC : Hid (∀ W, w.grownBy W none → Calls Try.prog 49 #[.slice ka m kc, .slice tka tm tkc] W fun e w' => e = .returned (.int .i64 c) ∧ W.grownBy w' none))
    (T1 : Hid (∀ W, w.grownBy W none → Makes 48 #[.pointer lp, .agg #[.slice ka m kc, .slice va q vc]] W P1))
    (T2 : Hid (∀ W p, w.grownBy W none → P1 W p → Makes 50 #[.pointer p, .agg #[.slice tka tm tkc, .slice tva tq tvc], .pointer rp] W P2)) :
    Makes 48 #[.pointer (some ⟨b, 0, none⟩), .agg #[.slice ka m kc, .slice va q vc]] w P2 := by
  have K0 := Lib.hid (World.grownBy_alloc w (.cells #[.slice ka m kc, .slice va q vc] 86) none)
  have B0 := Lib.hid (HB.keep K0.out)
  have X0 := Lib.hid (Box2.new w (.slice ka m kc) (.slice va q vc) 86)
  have F := Lib.hid (fun (W : World) (hW : (w.alloc (.cells #[.slice ka m kc, .slice va q vc] 86)).grownBy W none) => And.intro (B0.out.keep hW) (X0.out.keep hW))
  have hn' : ((n : Int) == 0) = false := beq_eq_false_iff_ne.2 (by omega)
  have C0 := Lib.hid (grown_reflT (w.alloc (.cells #[.slice ka m kc, .slice va q vc] 86)) none)
  clear HB hn
  unfold Makes
  go_enter Try.func48, Try.ntmps48
  go_upto_region 1 with fail
  generalize w.alloc (.cells #[.slice ka m kc, .slice va q vc] 86) = w0 at *
  go_wp2_with fail
  refine (HL.out _ K0.out).mono ?_
  rintro e w1 ⟨rfl, rfl⟩
  go_upto_region 3 with fail
  clear hn' HL
  obtain ⟨⟨b0, b1, b2, b3⟩, x0, x1⟩ := F.out _ C0.out
  go_cut [5] (fun s5 wx => s5 = .int .i64 c ∧ Hid (w0.grownBy wx none))
  case first =>
    go_region_with (go_at_call 49; (with_reducible refine (HC.out _ (by first | exact K0.out | exact grown_drewT K0.out)).mono ?_); rintro e w2 ⟨rfl, hg2⟩; have G2 := Lib.hid ((grown_drewT C0.out).trans hg2); clear hg2)
    all_goals
      go_wp2_with fail
      go_meet
      exact ⟨rfl, G2⟩
  case rest =>
  obtain ⟨rfl, G0⟩ := hcut
  clear b0 b1 b2 b3 x0 x1 HC
  obtain ⟨⟨b0, b1, b2, b3⟩, x0, x1⟩ := F.out _ G0.out
  have T1' := Lib.hid (Makes.calls (T1.out wc.drew (grown_drewT (K0.out.trans G0.out))))
  clear T1
  go_upto_region 5 with fail
  go_region_held3 (fun w' => (w'.cell? ⟨b, 0, none⟩ = some (.slice tka tm tkc) ∧ w'.cell? ⟨b, 1, none⟩ = some (.slice tva tq tvc) ∧ w'.cell? ⟨b, 2, none⟩ = some (.pointer lp) ∧ w'.cell? ⟨b, 3, none⟩ = some (.pointer rp)) ∧ w'.cell? ⟨w.heap.size, 0, none⟩ = some (.slice ka m kc) ∧ w'.cell? ⟨w.heap.size, 1, none⟩ = some (.slice va q vc)) (first | exact F.out _ G1.out | exact F.out _ (grown_drewT G0.out) | exact F.out _ G2.out) (first
    | (go_at_call 48; (with_reducible refine T1'.out.mono ?_); rintro e w2 ⟨⟨p1, rfl, hp1⟩, hg2⟩; have G1 := Lib.hid ((grown_drewT G0.out).trans hg2); have T2' := Lib.hid (Makes.calls (T2.out _ p1 (K0.out.trans G1.out) hp1)); clear hg2 hp1)
    | (go_at_call 50; (with_reducible refine T2'.out.mono ?_); rintro e w3 ⟨⟨p2, rfl, hp2⟩, hg3⟩; have G2 := Lib.hid (G1.out.trans hg3); have Hp2 := Lib.hid hp2; clear hg3 hp2))
  go_wp2_with fail
  go_ret
  exact ⟨⟨_, rfl, Hp2.out⟩, K0.out.trans G2.out⟩
set_option maxRecDepth 100000 in
set_option maxHeartbeats 6400000 in
theorem put_gt (b : Nat) (lp rp ka va tka tva : Ptr) (m kc q vc tm tkc tq tvc n : Nat) (c : Int) (w : World) (P1 P2 : World → Ptr → Prop) (hn : 0 < n) (hc : 0 < c)
    (HB : Box4 b w (.slice tka tm tkc) (.slice tva tq tvc) (.pointer lp) (.pointer rp))
    (HL : Hid (∀ W, w.grownBy W none → Calls Try.prog 38 #[.pointer (some ⟨b, 0, none⟩)] W fun e w' => e = .returned (.int .i64 n) ∧ W = w'))
    (HC : Hid (∀ W, w.grownBy W none → Calls Try.prog 49 #[.slice ka m kc, .slice tka tm tkc] W fun e w' => e = .returned (.int .i64 c) ∧ W.grownBy w' none))
    (T1 : Hid (∀ W, w.grownBy W none → Makes 48 #[.pointer rp, .agg #[.slice ka m kc, .slice va q vc]] W P1))
    (T2 : Hid (∀ W p, w.grownBy W none → P1 W p → Makes 50 #[.pointer lp, .agg #[.slice tka tm tkc, .slice tva tq tvc], .pointer p] W P2)) :
    Makes 48 #[.pointer (some ⟨b, 0, none⟩), .agg #[.slice ka m kc, .slice va q vc]] w P2 := by
  have K0 := Lib.hid (World.grownBy_alloc w (.cells #[.slice ka m kc, .slice va q vc] 86) none)
  have B0 := Lib.hid (HB.keep K0.out)
  have X0 := Lib.hid (Box2.new w (.slice ka m kc) (.slice va q vc) 86)
  have F := Lib.hid (fun (W : World) (hW : (w.alloc (.cells #[.slice ka m kc, .slice va q vc] 86)).grownBy W none) => And.intro (B0.out.keep hW) (X0.out.keep hW))
  have hn' : ((n : Int) == 0) = false := beq_eq_false_iff_ne.2 (by omega)
  have C0 := Lib.hid (grown_reflT (w.alloc (.cells #[.slice ka m kc, .slice va q vc] 86)) none)
  have hc' : ¬ c < 0 := by omega
  clear HB hn
  unfold Makes
  go_enter Try.func48, Try.ntmps48
  go_upto_region 1 with fail
  generalize w.alloc (.cells #[.slice ka m kc, .slice va q vc] 86) = w0 at *
  go_wp2_with fail
  refine (HL.out _ K0.out).mono ?_
  rintro e w1 ⟨rfl, rfl⟩
  go_upto_region 3 with fail
  clear hn' HL
  obtain ⟨⟨b0, b1, b2, b3⟩, x0, x1⟩ := F.out _ C0.out
  go_cut [5] (fun s5 wx => s5 = .int .i64 c ∧ Hid (w0.grownBy wx none))
  case first =>
    go_region_with (go_at_call 49; (with_reducible refine (HC.out _ (by first | exact K0.out | exact grown_drewT K0.out)).mono ?_); rintro e w2 ⟨rfl, hg2⟩; have G2 := Lib.hid ((grown_drewT C0.out).trans hg2); clear hg2)
    all_goals
      go_wp2_with fail
      go_meet
      exact ⟨rfl, G2⟩
  case rest =>
  obtain ⟨rfl, G0⟩ := hcut
  clear b0 b1 b2 b3 x0 x1 HC
  obtain ⟨⟨b0, b1, b2, b3⟩, x0, x1⟩ := F.out _ G0.out
  have T1' := Lib.hid (Makes.calls (T1.out wc.drew (grown_drewT (K0.out.trans G0.out))))
  clear T1
  go_upto_region 7 with fail
  go_region_held3 (fun w' => (w'.cell? ⟨b, 0, none⟩ = some (.slice tka tm tkc) ∧ w'.cell? ⟨b, 1, none⟩ = some (.slice tva tq tvc) ∧ w'.cell? ⟨b, 2, none⟩ = some (.pointer lp) ∧ w'.cell? ⟨b, 3, none⟩ = some (.pointer rp)) ∧ w'.cell? ⟨w.heap.size, 0, none⟩ = some (.slice ka m kc) ∧ w'.cell? ⟨w.heap.size, 1, none⟩ = some (.slice va q vc)) (first | exact F.out _ G1.out | exact F.out _ (grown_drewT G0.out) | exact F.out _ G2.out) (first
    | (go_at_call 48; (with_reducible refine T1'.out.mono ?_); rintro e w2 ⟨⟨p1, rfl, hp1⟩, hg2⟩; have G1 := Lib.hid ((grown_drewT G0.out).trans hg2); have T2' := Lib.hid (Makes.calls (T2.out _ p1 (K0.out.trans G1.out) hp1)); clear hg2 hp1)
    | (go_at_call 50; (with_reducible refine T2'.out.mono ?_); rintro e w3 ⟨⟨p2, rfl, hp2⟩, hg3⟩; have G2 := Lib.hid (G1.out.trans hg3); have Hp2 := Lib.hid hp2; clear hg3 hp2))
  go_wp2_with fail
  go_ret
  exact ⟨⟨_, rfl, Hp2.out⟩, K0.out.trans G2.out⟩
set_option maxRecDepth 100000 in
set_option maxHeartbeats 6400000 in
theorem put_eq (b : Nat) (lp rp ka va tka tva : Ptr) (m kc q vc tm tkc tq tvc n : Nat) (c : Int) (w : World) (P2 : World → Ptr → Prop) (hn : 0 < n) (hc : c = 0)
    (HB : Box4 b w (.slice tka tm tkc) (.slice tva tq tvc) (.pointer lp) (.pointer rp))
    (HL : Hid (∀ W, w.grownBy W none → Calls Try.prog 38 #[.pointer (some ⟨b, 0, none⟩)] W fun e w' => e = .returned (.int .i64 n) ∧ W = w'))
    (HC : Hid (∀ W, w.grownBy W none → Calls Try.prog 49 #[.slice ka m kc, .slice tka tm tkc] W fun e w' => e = .returned (.int .i64 c) ∧ W.grownBy w' none))
    (T1 : Hid (∀ W, w.grownBy W none → Makes 58 #[.pointer lp, .agg #[.slice ka m kc, .slice va q vc], .pointer rp] W P2)) :
    Makes 48 #[.pointer (some ⟨b, 0, none⟩), .agg #[.slice ka m kc, .slice va q vc]] w P2 := by
  have K0 := Lib.hid (World.grownBy_alloc w (.cells #[.slice ka m kc, .slice va q vc] 86) none)
  have B0 := Lib.hid (HB.keep K0.out)
  have X0 := Lib.hid (Box2.new w (.slice ka m kc) (.slice va q vc) 86)
  have F := Lib.hid (fun (W : World) (hW : (w.alloc (.cells #[.slice ka m kc, .slice va q vc] 86)).grownBy W none) => And.intro (B0.out.keep hW) (X0.out.keep hW))
  have hn' : ((n : Int) == 0) = false := beq_eq_false_iff_ne.2 (by omega)
  have C0 := Lib.hid (grown_reflT (w.alloc (.cells #[.slice ka m kc, .slice va q vc] 86)) none)
  have hc1 : ¬ c < 0 := by omega
  have hc2 : ¬ 0 < c := by omega
  clear HB hn hc
  unfold Makes
  go_enter Try.func48, Try.ntmps48
  go_upto_region 1 with fail
  generalize w.alloc (.cells #[.slice ka m kc, .slice va q vc] 86) = w0 at *
  go_wp2_with fail
  refine (HL.out _ K0.out).mono ?_
  rintro e w1 ⟨rfl, rfl⟩
  go_upto_region 3 with fail
  clear hn' HL
  obtain ⟨⟨b0, b1, b2, b3⟩, x0, x1⟩ := F.out _ C0.out
  go_cut [5] (fun s5 wx => s5 = .int .i64 c ∧ Hid (w0.grownBy wx none))
  case first =>
    go_region_with (go_at_call 49; (with_reducible refine (HC.out _ (by first | exact K0.out | exact grown_drewT K0.out)).mono ?_); rintro e w2 ⟨rfl, hg2⟩; have G2 := Lib.hid ((grown_drewT C0.out).trans hg2); clear hg2)
    all_goals
      go_wp2_with fail
      go_meet
      exact ⟨rfl, G2⟩
  case rest =>
  obtain ⟨rfl, G0⟩ := hcut
  clear b0 b1 b2 b3 x0 x1 HC
  obtain ⟨⟨b0, b1, b2, b3⟩, x0, x1⟩ := F.out _ G0.out
  have T1' := Lib.hid (Makes.calls (T1.out wc.drew (grown_drewT (K0.out.trans G0.out))))
  clear T1
  go_upto_region 8 with fail
  go_region_held3 (fun w' => (w'.cell? ⟨b, 0, none⟩ = some (.slice tka tm tkc) ∧ w'.cell? ⟨b, 1, none⟩ = some (.slice tva tq tvc) ∧ w'.cell? ⟨b, 2, none⟩ = some (.pointer lp) ∧ w'.cell? ⟨b, 3, none⟩ = some (.pointer rp)) ∧ w'.cell? ⟨w.heap.size, 0, none⟩ = some (.slice ka m kc) ∧ w'.cell? ⟨w.heap.size, 1, none⟩ = some (.slice va q vc)) (first | exact F.out _ G1.out | exact F.out _ (grown_drewT G0.out)) ((go_at_call 58; (with_reducible refine T1'.out.mono ?_); rintro e w2 ⟨⟨p1, rfl, hp1⟩, hg2⟩; have G1 := Lib.hid ((grown_drewT G0.out).trans hg2); have Hp1 := Lib.hid hp1; clear hg2 hp1))
  go_wp2_with fail
  go_ret
  exact ⟨⟨_, rfl, Hp1.out⟩, K0.out.trans G1.out⟩
set_option maxRecDepth 100000 in
set_option maxHeartbeats 6400000 in
theorem put_nil (ka va : Ptr) (m kc q vc : Nat) (w : World) (P2 : World → Ptr → Prop)
    (HL : Hid (∀ W, w.grownBy W none → Calls Try.prog 38 #[.pointer none] W fun e w' => e = .returned (.int .i64 0) ∧ W = w'))
    (T1 : Hid (∀ W, w.grownBy W none → Makes 58 #[.pointer none, .agg #[.slice ka m kc, .slice va q vc], .pointer none] W P2)) :
    Makes 48 #[.pointer none, .agg #[.slice ka m kc, .slice va q vc]] w P2 := by
  have K0 := Lib.hid (World.grownBy_alloc w (.cells #[.slice ka m kc, .slice va q vc] 86) none)
  obtain ⟨x0, x1⟩ := Box2.new w (.slice ka m kc) (.slice va q vc) 86
  have T1' := Lib.hid (Makes.calls (T1.out _ K0.out))
  unfold Makes
  go_enter Try.func48, Try.ntmps48
  go_wp2_with fail
  refine (HL.out _ K0.out).mono ?_
  rintro e w1 ⟨rfl, rfl⟩
  go_wp2_with fail
  refine T1'.out.mono ?_
  rintro e w2 ⟨⟨p1, rfl, hp1⟩, hg2⟩
  have D := Lib.hid (And.intro hp1 (K0.out.trans hg2))
  clear hp1 hg2
  go_wp2_with fail
  go_ret
  exact ⟨⟨_, rfl, D.out.1⟩, D.out.2⟩
abbrev ordR := rowsOrd
theorem rows_grown (a a' : Option Addr) (cap cap' : Nat) (l m : List Vl) (w : World) (h : RowAt w a l) (h' : RowAt w a' m) :
    Calls Try.prog 49 #[.slice a l.length cap, .slice a' m.length cap'] w fun e w' => e = .returned (.int .i64 (rowsOrd l m)) ∧ w.grownBy w' none := (rows_any a a' cap cap' l m w h h').mono fun _ _ h => ⟨h.1, grown_belowT h.2 none⟩
theorem put_any (S : Nat → Prop) (k v : List Vl) (ka va : Option Addr) (kc vc : Nat) : ∀ (t : Tre) (p : Option Addr) (w : World), (∀ b, w.heap.size ≤ b → S b) → TrAt S w t p → RwS S w ka k → RwS S w va v → t.n ≤ 1000000000 →
    Makes 48 #[.pointer p, .agg #[.slice ka k.length kc, .slice va v.length vc]] w (fun W p => TrAt S W (Tr.put rowsOrd k v t) p)
  | .nil, p, w, hS, h, hk, hv, _ => by
    obtain rfl : p = none := h
    exact put_nil ka va k.length kc v.length vc w _ (Lib.hid fun W _ => len_any S .nil none W rfl) (Lib.hid fun W hW => top_makes S .nil .nil k v none none ka va kc vc W (hsS hS hW) rfl rfl (hk.keep (.of hW)) (hv.keep (.of hW)) (by simp [Tr.n]))
  | .node l k' v' r, p, w, hS, h, hk, hv, hn => by
    have H := h
    obtain ⟨b, tka, tkc, tva, tvc, lp, rp, rfl, _, _, ⟨c0, c1, c2, c3, _, _⟩, h1, h2, h3, h4⟩ := h
    have hn0 : 0 < Tr.n (.node l k' v' r) := by simp [Tr.n]; omega
    have pl := Tr.put_n rowsOrd k v l
    have pr := Tr.put_n rowsOrd k v r
    have hnn : l.n + 1 + r.n ≤ 1000000000 := by simpa [Tr.n] using hn
    have HL := Lib.hid (fun W (hW : w.grownBy W none) => len_any S _ _ W (H.keep (.of hW)))
    have HC := Lib.hid (fun W (hW : w.grownBy W none) => rows_grown ka tka kc tkc k k' W ((hk.keep (.of hW)).row) ((h1.keep (.of hW)).row))
    by_cases hlt : rowsOrd k k' < 0
    · have e : Tr.put rowsOrd k v (.node l k' v' r) = Tr.bal (Tr.put rowsOrd k v l) k' v' r := by simp only [Tr.put]; rw [if_pos hlt]
      rw [e]
      exact put_lt b lp rp ka va tka tva k.length kc v.length vc k'.length tkc v'.length tvc _ _ w (fun W p => TrAt S W (Tr.put rowsOrd k v l) p) _ hn0 hlt ⟨c0, c1, c2, c3⟩ HL HC
        (Lib.hid fun W hW => put_any S k v ka va kc vc l lp W (hsS hS hW) (h3.keep (.of hW)) (hk.keep (.of hW)) (hv.keep (.of hW)) (by omega))
        (Lib.hid fun W p hW hp => balanced_any S (Tr.put rowsOrd k v l) r k' v' p rp tka tva tkc tvc W (hsS hS hW) hp (h4.keep (.of hW)) (h1.keep (.of hW)) (h2.keep (.of hW)) (by omega))
    · by_cases hgt : 0 < rowsOrd k k'
      · have e : Tr.put rowsOrd k v (.node l k' v' r) = Tr.bal l k' v' (Tr.put rowsOrd k v r) := by simp only [Tr.put]; rw [if_neg hlt, if_pos hgt]
        rw [e]
        exact put_gt b lp rp ka va tka tva k.length kc v.length vc k'.length tkc v'.length tvc _ _ w (fun W p => TrAt S W (Tr.put rowsOrd k v r) p) _ hn0 hgt ⟨c0, c1, c2, c3⟩ HL HC
          (Lib.hid fun W hW => put_any S k v ka va kc vc r rp W (hsS hS hW) (h4.keep (.of hW)) (hk.keep (.of hW)) (hv.keep (.of hW)) (by omega))
          (Lib.hid fun W p hW hp => balanced_any S l (Tr.put rowsOrd k v r) k' v' lp p tka tva tkc tvc W (hsS hS hW) (h3.keep (.of hW)) hp (h1.keep (.of hW)) (h2.keep (.of hW)) (by omega))
      · have e : Tr.put rowsOrd k v (.node l k' v' r) = .node l k v r := by simp only [Tr.put]; rw [if_neg hlt, if_neg hgt]
        rw [e]
        exact put_eq b lp rp ka va tka tva k.length kc v.length vc k'.length tkc v'.length tvc _ _ w _ hn0 (by omega) ⟨c0, c1, c2, c3⟩ HL HC
          (Lib.hid fun W hW => top_makes S l r k v lp rp ka va kc vc W (hsS hS hW) (h3.keep (.of hW)) (h4.keep (.of hW)) (hk.keep (.of hW)) (hv.keep (.of hW)) (by omega))
end Go.Proofs.Ytlmoefiajioeoaa
