/- tree's turnedRight and turnedLeft. -/
import Derived.Test.YtlmoefiajioeoaaTrT
import Derived.Deep.DeepCutAuto
namespace Go.Proofs.Ytlmoefiajioeoaa
open Go.RowKit

def Box2 (b : Nat) (W : World) (x y : Value) : Prop := W.cell? ⟨b, 0, none⟩ = some x ∧ W.cell? ⟨b, 1, none⟩ = some y
theorem Box2.keep {b : Nat} {W W' : World} {x y : Value} (h : Box2 b W x y) (hg : W.grownBy W' none) : Box2 b W' x y := ⟨hg.cell h.1 (by simp), hg.cell h.2 (by simp)⟩
theorem Box2.new (w : World) (x y : Value) (T : TypeId) : Box2 w.heap.size (w.alloc (.cells #[x, y] T)) x y := ⟨cell_of_row _ _ 0 _ _ _ (heap_alloc_new w _), cell_of_row _ _ 1 _ _ _ (heap_alloc_new w _)⟩
def Box4 (b : Nat) (W : World) (x y z u : Value) : Prop := W.cell? ⟨b, 0, none⟩ = some x ∧ W.cell? ⟨b, 1, none⟩ = some y ∧ W.cell? ⟨b, 2, none⟩ = some z ∧ W.cell? ⟨b, 3, none⟩ = some u
theorem Box4.keep {b : Nat} {W W' : World} {x y z u : Value} (h : Box4 b W x y z u) (hg : W.grownBy W' none) : Box4 b W' x y z u := ⟨hg.cell h.1 (by simp), hg.cell h.2.1 (by simp), hg.cell h.2.2.1 (by simp), hg.cell h.2.2.2 (by simp)⟩
abbrev Ptr := Option Addr
/-- A call that makes a tree. -/
def Makes (f : FuncId) (args : Array Value) (w : World) (P : World → Ptr → Prop) : Prop :=
  Calls Try.prog f args w fun e w' => (∃ q, e = .returned (.pointer q) ∧ P w' q) ∧ w.grownBy w' none
theorem Makes.calls {f : FuncId} {args : Array Value} {w : World} {P : World → Ptr → Prop} (h : Makes f args w P) : Calls Try.prog f args w fun e w' => (∃ q, e = .returned (.pointer q) ∧ P w' q) ∧ w.grownBy w' none := h
set_option maxRecDepth 100000 in
set_option maxHeartbeats 6400000 in
theorem turnR_one (b : Nat) (llp lrp rp ka va lka lva : Ptr) (m kc q vc lm lkc lq lvc x y : Nat) (w : World) (P1 P2 : World → Ptr → Prop) (hxy : y ≤ x)
    (HB : Box4 b w (.slice lka lm lkc) (.slice lva lq lvc) (.pointer llp) (.pointer lrp))
    (H1 : Hid (∀ W, w.grownBy W none → Calls Try.prog 30 #[.pointer llp] W fun e w' => e = .returned (.int .i64 x) ∧ W = w'))
    (H2 : Hid (∀ W, w.grownBy W none → Calls Try.prog 30 #[.pointer lrp] W fun e w' => e = .returned (.int .i64 y) ∧ W = w'))
    (T1 : Hid (∀ W, w.grownBy W none → Makes 58 #[.pointer lrp, .agg #[.slice ka m kc, .slice va q vc], .pointer rp] W P1))
    (T2 : Hid (∀ W p, w.grownBy W none → P1 W p → Makes 58 #[.pointer llp, .agg #[.slice lka lm lkc, .slice lva lq lvc], .pointer p] W P2)) :
    Makes 61 #[.pointer (some ⟨b, 0, none⟩), .agg #[.slice ka m kc, .slice va q vc], .pointer rp] w P2 := by
  have K0 := Lib.hid (World.grownBy_alloc w (.cells #[.slice ka m kc, .slice va q vc] 86) none)
  have B0 := Lib.hid (HB.keep K0.out)
  have X0 := Lib.hid (Box2.new w (.slice ka m kc) (.slice va q vc) 86)
  have F := Lib.hid (fun (W : World) (hW : (w.alloc (.cells #[.slice ka m kc, .slice va q vc] 86)).grownBy W none) => And.intro (B0.out.keep hW) (X0.out.keep hW))
  have hxy' : (y : Int) ≤ x := by omega
  clear hxy HB
  have C0 := Lib.hid (grown_reflT (w.alloc (.cells #[.slice ka m kc, .slice va q vc] 86)) none)
  obtain ⟨b0, b1, b2, b3⟩ := B0.out
  unfold Makes
  go_enter Try.func61, Try.ntmps61
  go_upto_region 1 with fail
  generalize w.alloc (.cells #[.slice ka m kc, .slice va q vc] 86) = w0 at *
  go_cut [18] (fun s18 wx => s18 = .bool true ∧ Hid (w0.grownBy wx none))
  case first =>
    have Q1 := Lib.hid (fun n => (H1.out (w0.drewN n) (grown_drewNT K0.out n)).mono fun e w'' h => And.intro h.1 h.2.symm)
    have Q2 := Lib.hid (fun n => (H2.out (w0.drewN n) (grown_drewNT K0.out n)).mono fun e w'' h => And.intro h.1 h.2.symm)
    go_quiet ((first | (go_at_call 30; with_reducible exact Calls.quiet_of_same (Q1.out _)) | (go_at_call 30; with_reducible exact Calls.quiet_of_same (Q2.out _))))
    go_wp2_with fail
    go_meet
    exact ⟨by simp, Lib.hid (grown_drewNT C0.out _)⟩
  case rest =>
  obtain ⟨rfl, G0⟩ := hcut
  clear b0 b1 b2 b3 H1 H2 hxy'
  obtain ⟨⟨b0, b1, b2, b3⟩, x0, x1⟩ := F.out _ G0.out
  have T1' := Lib.hid (Makes.calls (T1.out wc.drew (grown_drewT (K0.out.trans G0.out))))
  clear T1
  go_upto_region 2 with fail
  go_region_held3 (fun w' => (w'.cell? ⟨b, 0, none⟩ = some (.slice lka lm lkc) ∧ w'.cell? ⟨b, 1, none⟩ = some (.slice lva lq lvc) ∧ w'.cell? ⟨b, 2, none⟩ = some (.pointer llp) ∧ w'.cell? ⟨b, 3, none⟩ = some (.pointer lrp)) ∧ w'.cell? ⟨w.heap.size, 0, none⟩ = some (.slice ka m kc) ∧ w'.cell? ⟨w.heap.size, 1, none⟩ = some (.slice va q vc)) (first | exact F.out _ G1.out | exact F.out _ (grown_drewT G0.out) | exact F.out _ G2.out) (first
    | (go_at_call 58; (with_reducible refine T1'.out.mono ?_); rintro e w2 ⟨⟨p1, rfl, hp1⟩, hg2⟩; have G1 := Lib.hid ((grown_drewT G0.out).trans hg2); have T2' := Lib.hid (Makes.calls (T2.out _ p1 (K0.out.trans G1.out) hp1)); clear hg2 hp1)
    | (go_at_call 58; (with_reducible refine T2'.out.mono ?_); rintro e w3 ⟨⟨p2, rfl, hp2⟩, hg3⟩; have G2 := Lib.hid (G1.out.trans hg3); have Hp2 := Lib.hid hp2; clear hg3 hp2))
  go_wp2_with fail
  go_ret
  exact ⟨⟨_, rfl, Hp2.out⟩, K0.out.trans G2.out⟩
set_option maxRecDepth 100000 in
set_option maxHeartbeats 6400000 in
theorem turnR_two (b c : Nat) (llp ilp irp rp ka va lka lva ika iva : Ptr) (m kc q vc lm lkc lq lvc im ikc iq ivc x y : Nat) (w : World) (P1 P2 P3 : World → Ptr → Prop) (hxy : x < y)
    (HB : Box4 b w (.slice lka lm lkc) (.slice lva lq lvc) (.pointer llp) (.pointer (some ⟨c, 0, none⟩)))
    (HC : Box4 c w (.slice ika im ikc) (.slice iva iq ivc) (.pointer ilp) (.pointer irp))
    (H1 : Hid (∀ W, w.grownBy W none → Calls Try.prog 30 #[.pointer llp] W fun e w' => e = .returned (.int .i64 x) ∧ W = w'))
    (H2 : Hid (∀ W, w.grownBy W none → Calls Try.prog 30 #[.pointer (some ⟨c, 0, none⟩)] W fun e w' => e = .returned (.int .i64 y) ∧ W = w'))
    (T1 : Hid (∀ W, w.grownBy W none → Makes 58 #[.pointer llp, .agg #[.slice lka lm lkc, .slice lva lq lvc], .pointer ilp] W P1))
    (T2 : Hid (∀ W, w.grownBy W none → Makes 58 #[.pointer irp, .agg #[.slice ka m kc, .slice va q vc], .pointer rp] W P2))
    (P1k : Hid (∀ W W' p, W.grownBy W' none → P1 W p → P1 W' p)) (P2k : Hid (∀ W W' p, W.grownBy W' none → P2 W p → P2 W' p))
    (T3 : Hid (∀ W p p', w.grownBy W none → P1 W p → P2 W p' → Makes 58 #[.pointer p, .agg #[.slice ika im ikc, .slice iva iq ivc], .pointer p'] W P3)) :
    Makes 61 #[.pointer (some ⟨b, 0, none⟩), .agg #[.slice ka m kc, .slice va q vc], .pointer rp] w P3 := by
  have K0 := Lib.hid (World.grownBy_alloc w (.cells #[.slice ka m kc, .slice va q vc] 86) none)
  have B0 := Lib.hid (HB.keep K0.out)
  have C1 := Lib.hid (HC.keep K0.out)
  have X0 := Lib.hid (Box2.new w (.slice ka m kc) (.slice va q vc) 86)
  have F := Lib.hid (fun (W : World) (hW : (w.alloc (.cells #[.slice ka m kc, .slice va q vc] 86)).grownBy W none) => And.intro (B0.out.keep hW) (And.intro (C1.out.keep hW) (X0.out.keep hW)))
  have hxy' : (x : Int) < y := by omega
  clear hxy HB HC
  have C0 := Lib.hid (grown_reflT (w.alloc (.cells #[.slice ka m kc, .slice va q vc] 86)) none)
  obtain ⟨b0, b1, b2, b3⟩ := B0.out
  unfold Makes
  go_enter Try.func61, Try.ntmps61
  go_upto_region 1 with fail
  generalize w.alloc (.cells #[.slice ka m kc, .slice va q vc] 86) = w0 at *
  go_cut [18] (fun s18 wx => s18 = .bool false ∧ Hid (w0.grownBy wx none))
  case first =>
    have Q1 := Lib.hid (fun n => (H1.out (w0.drewN n) (grown_drewNT K0.out n)).mono fun e w'' h => And.intro h.1 h.2.symm)
    have Q2 := Lib.hid (fun n => (H2.out (w0.drewN n) (grown_drewNT K0.out n)).mono fun e w'' h => And.intro h.1 h.2.symm)
    go_quiet ((first | (go_at_call 30; with_reducible exact Calls.quiet_of_same (Q1.out _)) | (go_at_call 30; with_reducible exact Calls.quiet_of_same (Q2.out _))))
    go_wp2_with fail
    go_meet
    exact ⟨by simp; try omega, Lib.hid (grown_drewNT C0.out _)⟩
  case rest =>
  obtain ⟨rfl, G0⟩ := hcut
  clear b0 b1 b2 b3 H1 H2 hxy'
  obtain ⟨⟨b0, b1, b2, b3⟩, ⟨c0, c1, c2, c3⟩, x0, x1⟩ := F.out _ G0.out
  have T1' := Lib.hid (fun W hW => Makes.calls (T1.out W (K0.out.trans hW)))
  have T2' := Lib.hid (fun W hW => Makes.calls (T2.out W (K0.out.trans hW)))
  clear T1 T2
  go_upto_region 4 with fail
  go_region_held3 (fun w' => (w'.cell? ⟨b, 0, none⟩ = some (.slice lka lm lkc) ∧ w'.cell? ⟨b, 1, none⟩ = some (.slice lva lq lvc) ∧ w'.cell? ⟨b, 2, none⟩ = some (.pointer llp) ∧ w'.cell? ⟨b, 3, none⟩ = some (.pointer (some ⟨c, 0, none⟩))) ∧ (w'.cell? ⟨c, 0, none⟩ = some (.slice ika im ikc) ∧ w'.cell? ⟨c, 1, none⟩ = some (.slice iva iq ivc) ∧ w'.cell? ⟨c, 2, none⟩ = some (.pointer ilp) ∧ w'.cell? ⟨c, 3, none⟩ = some (.pointer irp)) ∧ w'.cell? ⟨w.heap.size, 0, none⟩ = some (.slice ka m kc) ∧ w'.cell? ⟨w.heap.size, 1, none⟩ = some (.slice va q vc)) (first | exact F.out _ G3.out | exact F.out _ G2.out | exact F.out _ G1.out | exact F.out _ (grown_drewT G0.out)) (first
    | (go_at_call 58; (with_reducible refine (T1'.out _ (by first | exact G2.out | exact grown_drewT G0.out)).mono ?_); rintro e w2 ⟨⟨p1, rfl, hp1⟩, hg2⟩; have G1 := Lib.hid (show w0.grownBy w2 none by first | exact G2.out.trans hg2 | exact (grown_drewT G0.out).trans hg2); have D1 := Lib.hid hp1; have E2 := Lib.hid (fun p h => P2k.out _ _ p hg2 h); clear hg2 hp1)
    | (go_at_call 58; (with_reducible refine (T2'.out _ (by first | exact G1.out | exact grown_drewT G0.out)).mono ?_); rintro e w3 ⟨⟨p2, rfl, hp2⟩, hg3⟩; have G2 := Lib.hid (show w0.grownBy w3 none by first | exact G1.out.trans hg3 | exact (grown_drewT G0.out).trans hg3); have D2 := Lib.hid hp2; have E1 := Lib.hid (fun p h => P1k.out _ _ p hg3 h); clear hg3 hp2)
    | (go_at_call 58; (with_reducible refine (Makes.calls (T3.out _ p1 p2 (by first | exact K0.out.trans G2.out | exact K0.out.trans G1.out) (by first | exact D1.out | exact E1.out _ D1.out) (by first | exact D2.out | exact E2.out _ D2.out))).mono ?_); rintro e w4 ⟨⟨p3, rfl, hp3⟩, hg4⟩; have G3 := Lib.hid (show w0.grownBy w4 none by first | exact G2.out.trans hg4 | exact G1.out.trans hg4); have Hp3 := Lib.hid hp3; clear hg4 hp3))
  all_goals
    go_wp2_with fail
    go_ret
    exact ⟨⟨_, rfl, Hp3.out⟩, K0.out.trans G3.out⟩
set_option maxRecDepth 100000 in
set_option maxHeartbeats 6400000 in
theorem turnL_one (b : Nat) (llp lrp rp ka va lka lva : Ptr) (m kc q vc lm lkc lq lvc x y : Nat) (w : World) (P1 P2 : World → Ptr → Prop) (hxy : x ≤ y)
    (HB : Box4 b w (.slice lka lm lkc) (.slice lva lq lvc) (.pointer llp) (.pointer lrp))
    (H1 : Hid (∀ W, w.grownBy W none → Calls Try.prog 30 #[.pointer llp] W fun e w' => e = .returned (.int .i64 x) ∧ W = w'))
    (H2 : Hid (∀ W, w.grownBy W none → Calls Try.prog 30 #[.pointer lrp] W fun e w' => e = .returned (.int .i64 y) ∧ W = w'))
    (T1 : Hid (∀ W, w.grownBy W none → Makes 58 #[.pointer rp, .agg #[.slice ka m kc, .slice va q vc], .pointer llp] W P1))
    (T2 : Hid (∀ W p, w.grownBy W none → P1 W p → Makes 58 #[.pointer p, .agg #[.slice lka lm lkc, .slice lva lq lvc], .pointer lrp] W P2)) :
    Makes 62 #[.pointer rp, .agg #[.slice ka m kc, .slice va q vc], .pointer (some ⟨b, 0, none⟩)] w P2 := by
  have K0 := Lib.hid (World.grownBy_alloc w (.cells #[.slice ka m kc, .slice va q vc] 86) none)
  have B0 := Lib.hid (HB.keep K0.out)
  have X0 := Lib.hid (Box2.new w (.slice ka m kc) (.slice va q vc) 86)
  have F := Lib.hid (fun (W : World) (hW : (w.alloc (.cells #[.slice ka m kc, .slice va q vc] 86)).grownBy W none) => And.intro (B0.out.keep hW) (X0.out.keep hW))
  have hxy' : (x : Int) ≤ y := by omega
  clear hxy HB
  have C0 := Lib.hid (grown_reflT (w.alloc (.cells #[.slice ka m kc, .slice va q vc] 86)) none)
  obtain ⟨b0, b1, b2, b3⟩ := B0.out
  unfold Makes
  go_enter Try.func62, Try.ntmps62
  go_upto_region 1 with fail
  generalize w.alloc (.cells #[.slice ka m kc, .slice va q vc] 86) = w0 at *
  go_cut [18] (fun s18 wx => s18 = .bool true ∧ Hid (w0.grownBy wx none))
  case first =>
    have Q1 := Lib.hid (fun n => (H1.out (w0.drewN n) (grown_drewNT K0.out n)).mono fun e w'' h => And.intro h.1 h.2.symm)
    have Q2 := Lib.hid (fun n => (H2.out (w0.drewN n) (grown_drewNT K0.out n)).mono fun e w'' h => And.intro h.1 h.2.symm)
    go_quiet ((first | (go_at_call 30; with_reducible exact Calls.quiet_of_same (Q1.out _)) | (go_at_call 30; with_reducible exact Calls.quiet_of_same (Q2.out _))))
    go_wp2_with fail
    go_meet
    exact ⟨by simp, Lib.hid (grown_drewNT C0.out _)⟩
  case rest =>
  obtain ⟨rfl, G0⟩ := hcut
  clear b0 b1 b2 b3 H1 H2 hxy'
  obtain ⟨⟨b0, b1, b2, b3⟩, x0, x1⟩ := F.out _ G0.out
  have T1' := Lib.hid (Makes.calls (T1.out wc.drew (grown_drewT (K0.out.trans G0.out))))
  clear T1
  go_upto_region 2 with fail
  go_region_held3 (fun w' => (w'.cell? ⟨b, 0, none⟩ = some (.slice lka lm lkc) ∧ w'.cell? ⟨b, 1, none⟩ = some (.slice lva lq lvc) ∧ w'.cell? ⟨b, 2, none⟩ = some (.pointer llp) ∧ w'.cell? ⟨b, 3, none⟩ = some (.pointer lrp)) ∧ w'.cell? ⟨w.heap.size, 0, none⟩ = some (.slice ka m kc) ∧ w'.cell? ⟨w.heap.size, 1, none⟩ = some (.slice va q vc)) (first | exact F.out _ G1.out | exact F.out _ (grown_drewT G0.out) | exact F.out _ G2.out) (first
    | (go_at_call 58; (with_reducible refine T1'.out.mono ?_); rintro e w2 ⟨⟨p1, rfl, hp1⟩, hg2⟩; have G1 := Lib.hid ((grown_drewT G0.out).trans hg2); have T2' := Lib.hid (Makes.calls (T2.out _ p1 (K0.out.trans G1.out) hp1)); clear hg2 hp1)
    | (go_at_call 58; (with_reducible refine T2'.out.mono ?_); rintro e w3 ⟨⟨p2, rfl, hp2⟩, hg3⟩; have G2 := Lib.hid (G1.out.trans hg3); have Hp2 := Lib.hid hp2; clear hg3 hp2))
  go_wp2_with fail
  go_ret
  exact ⟨⟨_, rfl, Hp2.out⟩, K0.out.trans G2.out⟩
set_option maxRecDepth 100000 in
set_option maxHeartbeats 6400000 in
theorem turnL_two (b c : Nat) (llp ilp irp rp ka va lka lva ika iva : Ptr) (m kc q vc lm lkc lq lvc im ikc iq ivc x y : Nat) (w : World) (P1 P2 P3 : World → Ptr → Prop) (hxy : x < y)
    (HB : Box4 b w (.slice lka lm lkc) (.slice lva lq lvc) (.pointer (some ⟨c, 0, none⟩)) (.pointer llp))
    (HC : Box4 c w (.slice ika im ikc) (.slice iva iq ivc) (.pointer ilp) (.pointer irp))
    (H1 : Hid (∀ W, w.grownBy W none → Calls Try.prog 30 #[.pointer llp] W fun e w' => e = .returned (.int .i64 x) ∧ W = w'))
    (H2 : Hid (∀ W, w.grownBy W none → Calls Try.prog 30 #[.pointer (some ⟨c, 0, none⟩)] W fun e w' => e = .returned (.int .i64 y) ∧ W = w'))
    (T1 : Hid (∀ W, w.grownBy W none → Makes 58 #[.pointer rp, .agg #[.slice ka m kc, .slice va q vc], .pointer ilp] W P1))
    (T2 : Hid (∀ W, w.grownBy W none → Makes 58 #[.pointer irp, .agg #[.slice lka lm lkc, .slice lva lq lvc], .pointer llp] W P2))
    (P1k : Hid (∀ W W' p, W.grownBy W' none → P1 W p → P1 W' p)) (P2k : Hid (∀ W W' p, W.grownBy W' none → P2 W p → P2 W' p))
    (T3 : Hid (∀ W p p', w.grownBy W none → P1 W p → P2 W p' → Makes 58 #[.pointer p, .agg #[.slice ika im ikc, .slice iva iq ivc], .pointer p'] W P3)) :
    Makes 62 #[.pointer rp, .agg #[.slice ka m kc, .slice va q vc], .pointer (some ⟨b, 0, none⟩)] w P3 := by
  have K0 := Lib.hid (World.grownBy_alloc w (.cells #[.slice ka m kc, .slice va q vc] 86) none)
  have B0 := Lib.hid (HB.keep K0.out)
  have C1 := Lib.hid (HC.keep K0.out)
  have X0 := Lib.hid (Box2.new w (.slice ka m kc) (.slice va q vc) 86)
  have F := Lib.hid (fun (W : World) (hW : (w.alloc (.cells #[.slice ka m kc, .slice va q vc] 86)).grownBy W none) => And.intro (B0.out.keep hW) (And.intro (C1.out.keep hW) (X0.out.keep hW)))
  have hxy' : (x : Int) < y := by omega
  clear hxy HB HC
  have C0 := Lib.hid (grown_reflT (w.alloc (.cells #[.slice ka m kc, .slice va q vc] 86)) none)
  obtain ⟨b0, b1, b2, b3⟩ := B0.out
  unfold Makes
  go_enter Try.func62, Try.ntmps62
  go_upto_region 1 with fail
  generalize w.alloc (.cells #[.slice ka m kc, .slice va q vc] 86) = w0 at *
  go_cut [18] (fun s18 wx => s18 = .bool false ∧ Hid (w0.grownBy wx none))
  case first =>
    have Q1 := Lib.hid (fun n => (H1.out (w0.drewN n) (grown_drewNT K0.out n)).mono fun e w'' h => And.intro h.1 h.2.symm)
    have Q2 := Lib.hid (fun n => (H2.out (w0.drewN n) (grown_drewNT K0.out n)).mono fun e w'' h => And.intro h.1 h.2.symm)
    go_quiet ((first | (go_at_call 30; with_reducible exact Calls.quiet_of_same (Q1.out _)) | (go_at_call 30; with_reducible exact Calls.quiet_of_same (Q2.out _))))
    go_wp2_with fail
    go_meet
    exact ⟨by simp; try omega, Lib.hid (grown_drewNT C0.out _)⟩
  case rest =>
  obtain ⟨rfl, G0⟩ := hcut
  clear b0 b1 b2 b3 H1 H2 hxy'
  obtain ⟨⟨b0, b1, b2, b3⟩, ⟨c0, c1, c2, c3⟩, x0, x1⟩ := F.out _ G0.out
  have T1' := Lib.hid (fun W hW => Makes.calls (T1.out W (K0.out.trans hW)))
  have T2' := Lib.hid (fun W hW => Makes.calls (T2.out W (K0.out.trans hW)))
  clear T1 T2
  go_upto_region 4 with fail
  go_region_held3 (fun w' => (w'.cell? ⟨b, 0, none⟩ = some (.slice lka lm lkc) ∧ w'.cell? ⟨b, 1, none⟩ = some (.slice lva lq lvc) ∧ w'.cell? ⟨b, 2, none⟩ = some (.pointer (some ⟨c, 0, none⟩)) ∧ w'.cell? ⟨b, 3, none⟩ = some (.pointer llp)) ∧ (w'.cell? ⟨c, 0, none⟩ = some (.slice ika im ikc) ∧ w'.cell? ⟨c, 1, none⟩ = some (.slice iva iq ivc) ∧ w'.cell? ⟨c, 2, none⟩ = some (.pointer ilp) ∧ w'.cell? ⟨c, 3, none⟩ = some (.pointer irp)) ∧ w'.cell? ⟨w.heap.size, 0, none⟩ = some (.slice ka m kc) ∧ w'.cell? ⟨w.heap.size, 1, none⟩ = some (.slice va q vc)) (first | exact F.out _ G3.out | exact F.out _ G2.out | exact F.out _ G1.out | exact F.out _ (grown_drewT G0.out)) (first
    | (go_at_call 58; (with_reducible refine (T1'.out _ (by first | exact G2.out | exact grown_drewT G0.out)).mono ?_); rintro e w2 ⟨⟨p1, rfl, hp1⟩, hg2⟩; have G1 := Lib.hid (show w0.grownBy w2 none by first | exact G2.out.trans hg2 | exact (grown_drewT G0.out).trans hg2); have D1 := Lib.hid hp1; have E2 := Lib.hid (fun p h => P2k.out _ _ p hg2 h); clear hg2 hp1)
    | (go_at_call 58; (with_reducible refine (T2'.out _ (by first | exact G1.out | exact grown_drewT G0.out)).mono ?_); rintro e w3 ⟨⟨p2, rfl, hp2⟩, hg3⟩; have G2 := Lib.hid (show w0.grownBy w3 none by first | exact G1.out.trans hg3 | exact (grown_drewT G0.out).trans hg3); have D2 := Lib.hid hp2; have E1 := Lib.hid (fun p h => P1k.out _ _ p hg3 h); clear hg3 hp2)
    | (go_at_call 58; (with_reducible refine (Makes.calls (T3.out _ p1 p2 (by first | exact K0.out.trans G2.out | exact K0.out.trans G1.out) (by first | exact D1.out | exact E1.out _ D1.out) (by first | exact D2.out | exact E2.out _ D2.out))).mono ?_); rintro e w4 ⟨⟨p3, rfl, hp3⟩, hg4⟩; have G3 := Lib.hid (show w0.grownBy w4 none by first | exact G2.out.trans hg4 | exact G1.out.trans hg4); have Hp3 := Lib.hid hp3; clear hg4 hp3))
  all_goals
    go_wp2_with fail
    go_ret
    exact ⟨⟨_, rfl, Hp3.out⟩, K0.out.trans G3.out⟩
end Go.Proofs.Ytlmoefiajioeoaa
