/- The reader's query. The reader's read: a text's query, or the first thing that is wrong with it. The reader's read where no token is wrong. -/
import Derived.Test.YtppigamibgefaaaGreatDoorZp28
import Derived.Deep.Cut
import Derived.Test.YtppigamibgefaaaGreatDoorZp20
namespace Go.Proofs.YtppigamibgefaaaGreatDoor
open Go.RowKit

theorem QJ.c1 {R b : Nat} {w W : World} {st : RS} {y : Qm} (h : QJ R b w W st y) : W.cell? ⟨w.heap.size, 0, none⟩ = some (.pointer (some ⟨R, 0, none⟩)) := by
  rw [cell_of_row _ _ 0 _ _ _ h.rb]; rfl
theorem QJ.cq {R b : Nat} {w W : World} {st : RS} {y : Qm} (h : QJ R b w W st y) (i : Nat) (v : Value) (hv : y.c[i]? = some v) : W.cell? ⟨w.heap.size + 1 + 1, i, none⟩ = some v ∧ W.frozen? ⟨w.heap.size + 1 + 1, i, none⟩ = false :=
  ⟨by rw [cell_of_row _ _ i _ _ _ h.q]; exact hv, frozen_of_row _ _ i _ _ h.q⟩
theorem Qm.c1' (y : Qm) : y.c[1]? = some (.bool y.all) := rfl
theorem Qm.c2' (y : Qm) : y.c[2]? = some (.string y.table) := rfl
theorem Qm.c15' (y : Qm) : y.c[15]? = some (.int .i64 y.limit) := by
  obtain ⟨_, _, _, _, _, ⟨_, _, _, _, _, _, _, _, _, _, _, _⟩, _, _, _, _, _, _, _⟩ := y; rfl
theorem QJ.set {R b i : Nat} {w W : World} {st : RS} {y y' : Qm} {v : Value} (h : QJ R b w W st y) (hy : y.c.setIfInBounds i v = y'.c) (hm : QmS (fun j => w.heap.size + 1 + 1 < j) (W.setCell ⟨w.heap.size + 1 + 1, i, none⟩ v) y → QmS (fun j => w.heap.size + 1 + 1 < j) (W.setCell ⟨w.heap.size + 1 + 1, i, none⟩ v) y') : QJ R b w (W.setCell ⟨w.heap.size + 1 + 1, i, none⟩ v) st y' :=
  h.put (grown_cellR W _ i v) (by rw [heap_setCell_same _ _ _ _ _ _ h.q, hy]) (hm (h.keepM (grown_cellR W _ i v)))
def setL (cs : Array Value) (o : Nat) : List Value → Array Value
  | [] => cs
  | v :: vs => setL (cs.setIfInBounds o v) (o + 1) vs
theorem heap_setCells {b : Nat} {T : TypeId} : ∀ (vs : List Value) (o : Nat) (w : World) (cs : Array Value), w.heap[b]? = some (.cells cs T (0, 0)) → (w.setCells b o vs).heap[b]? = some (.cells (setL cs o vs) T (0, 0))
  | [], _, _, _, h => h
  | v :: vs, o, w, _, h => heap_setCells vs (o + 1) (w.setCell ⟨b, o, none⟩ v) _ (heap_setCell_same _ _ _ _ _ v h)
theorem grown_setCells (b : Nat) (vs : List Value) (o : Nat) (w : World) : w.grownBy (w.setCells b o vs) (some b) := by
  have h := only_setCells b vs o w
  exact ⟨h.os, h.tape, h.output, h.size, fun k hk hne => h.block k hk (fun e => hne (by rw [e]))⟩
theorem qm_cond (y : Qm) (x : Pm) : setL y.c 3 x.c = { y with cond := x : Qm }.c := by
  obtain ⟨_, _, _, _, _, ⟨_, _, _, _, _, _, _, _, _, _, _, _⟩, _, _, _, _, _, _, _⟩ := y
  obtain ⟨_, _, _, _, _, _, _, _, _, _, _, _⟩ := x
  simp [setL, Qm.c, Qm.l, Pm.c]
theorem QJ.there {R b : Nat} {w W : World} {st : RS} {y : Qm} (h : QJ R b w W st y) : W.there (w.heap.size + 1 + 1) 3 10 := fun j hj => by
  refine ⟨?_, frozen_of_row _ _ _ _ _ h.q⟩
  rw [cell_of_row _ _ _ _ _ _ h.q]
  have := y.c_size
  simp [show 3 + j < y.c.size by omega]
theorem QJ.cond {R b : Nat} {w W : World} {st : RS} {y : Qm} {x : Pm} (h : QJ R b w W st y) (hx : PmS (fun j => w.heap.size + 1 + 1 < j) W x) : QJ R b w (W.setCells (w.heap.size + 1 + 1) 3 x.c) st { y with cond := x } := by
  have hg := grown_setCells (w.heap.size + 1 + 1) x.c 3 W
  have hm := h.keepM hg
  exact h.put hg (by rw [heap_setCells _ _ _ _ h.q, qm_cond]) ⟨hm.1, hx.keep ⟨hg.size, fun k hk hlt => hg.block k hlt (by simp; omega)⟩, hm.2.2⟩
theorem query_size : (Tryz.prog.info? 34).map (·.size) = some 17 := by kernel_rfl
theorem results_qm {fn : Func} {p : Tmp} (h : fn.results = #[.cell p 34]) (tmps : Array Value) (w : World) (g : Nat) (y : Qm) (hp : tmps.getD p undef = .pointer (some ⟨g, 0, Option.none⟩)) (hg : w.heap[g]? = some (.cells y.c 34 (0, 0))) :
    (results fn tmps).run Tryz.prog w = .ok (.agg y.c) w := results_cell_row h tmps w g _ _ _ _ hp hg Tryz.underlying34 rfl (by rw [Qm.c_size]; exact query_size)
def Ge (y : Qm) : Prop := y.group = [] ∧ y.ga = Option.none ∧ y.gc = 0
def Oe (y : Qm) : Prop := y.order = [] ∧ y.oa = Option.none ∧ y.oc = 0
set_option maxRecDepth 100000 in
set_option maxHeartbeats 6400000 in
theorem pquery_any (R b : Nat) (s : RS) (w : World) (h : RdA R b 0 s w) :
    Calls Tryz.prog 61 #[.pointer (some ⟨R, 0, none⟩)] w fun e w' => ∃ y : Qm, e = .returned (.agg y.c) ∧ y.e = (queryL s).2 ∧ QmS (fun j => w.heap.size ≤ j) w' y ∧ RdGo R b 0 (queryL s).1 w w' := by
  have lR := h.lt'
  have J0 : Hid (QJ R b w (((w.alloc (.cells #[.pointer (some ⟨R, 0, none⟩)] 167)).alloc (.cells (Qm.z 0).c 34)).alloc (.cells (Qm.z (-1)).c 34)) s (Qm.z (-1))) := by
    obtain ⟨e0, e1, e2, eg, es⟩ := alloc3 w (.cells #[.pointer (some ⟨R, 0, none⟩)] 167) (.cells (Qm.z 0).c 34) (.cells (Qm.z (-1)).c 34)
    refine Lib.hid ⟨⟨h.keep eg, grown_anyR eg _⟩, e2, e0, e1, ⟨⟨.inl rfl, Nat.le_refl _⟩, ?_, ⟨.inl rfl, Nat.le_refl _⟩, .inl rfl, Nat.le_refl _⟩, lR, h.lt, ?_⟩
    · exact ⟨RwS.nil _ _ _, Nat.le_refl _, .inl rfl, Nat.le_refl _, trivial⟩
    · obtain ⟨tp, p, hf⟩ := h.far
      by_cases hh : 12 < w.heap.size
      · exact hh
      · rw [World.cell?] at hf
        simp [Array.getElem?_eq_none (by omega : w.heap.size ≤ 12)] at hf
  have HN := Lib.hid (fun st t (ht : t ≠ ⟨#[]⟩) W (hW : RdA R b 0 st W) => need_any R b 0 st t W hW ht)
  have HT := Lib.hid (fun st t (ht : t ≠ ⟨#[]⟩) W (hW : RdA R b 0 st W) => took_any R b 0 st t W hW ht)
  obtain ⟨A, hA⟩ : ∃ A, A = itemsQ (s.need bSel) := ⟨_, rfl⟩
  obtain ⟨B, hB⟩ : ∃ B, B = (A.1.need bFrom).name := ⟨_, rfl⟩
  obtain ⟨C, hC⟩ : ∃ C, C = whereQ B.1 := ⟨_, rfl⟩
  obtain ⟨D, hD⟩ : ∃ D, D = groupQ C.1 := ⟨_, rfl⟩
  obtain ⟨E, hE⟩ : ∃ E, E = orderQ D.1 := ⟨_, rfl⟩
  obtain ⟨F, hF⟩ : ∃ F, F = limitQ E.1 := ⟨_, rfl⟩
  have hr : queryL s = (F.1.fin, ⟨A.2.2, A.2.1, B.2, C.2, D.2, E.2, F.2⟩) := by subst hF hE hD hC hB hA; rfl
  rw [hr]
  have HA := Lib.hid hA
  have HB := Lib.hid hB
  have HC := Lib.hid hC
  have HD := Lib.hid hD
  have HE := Lib.hid hE
  have HF := Lib.hid hF
  clear h hr hA hB hC hD hE hF
  go_enter Tryz.func61, Tryz.ntmps61
  go_wp2_with fail
  refine (HN.out s bSel (by decide) _ J0.out.go.1).mono ?_
  rintro e w2 ⟨rfl, hg⟩
  have J2 := Lib.hid (J0.out.then hg)
  clear hg J0
  have c2 := J2.out.c1
  go_upto_if 8 with fail
  refine (HT.out (s.need bSel) bStar (by decide) _ J2.out.go.1).mono ?_
  rintro e w3 ⟨rfl, hg⟩
  have J3 := Lib.hid (J2.out.then hg)
  clear hg J2 c2
  go_upto_if 8 with fail
  go_cut [] from 4 (fun wx => Hid (∃ y : Qm, QJ R b w wx A.1 y ∧ y.e = ⟨A.2.2, A.2.1, ⟨#[]⟩, Prd.none, [], [], -1⟩ ∧ Ge y ∧ Oe y))
  case first =>
    have c3 := J3.out.c1
    cases hc : (s.need bSel).comes bStar with
    | true =>
      have J4 := Lib.hid J3.out
      rw [hc, if_pos rfl] at J4
      have e1 : A = ((s.need bSel).pass, true, []) := by rw [HA.out]; unfold itemsQ; rw [if_pos hc]
      have J5 := Lib.hid (J4.out.set (qm_all _ true) (fun hm => hm))
      obtain ⟨d1, f1⟩ := J4.out.cq 1 (.bool false) rfl
      clear J3 hc
      go_wp2_with fail
      go_meet
      rw [e1]
      exact Lib.hid ⟨_, J5.out, rfl, ⟨rfl, rfl, rfl⟩, rfl, rfl, rfl⟩
    | false =>
      have J4 := Lib.hid J3.out
      rw [hc, if_neg (by simp)] at J4
      have e1 : A = ((listF 8 itemL 9 (s.need bSel) []).1, false, (listF 8 itemL 9 (s.need bSel) []).2) := by rw [HA.out]; unfold itemsQ; rw [if_neg (by simp [hc])]
      have HL := Lib.hid (qitems_any R b w w3 _ _ J4.out ⟨rfl, rfl, rfl⟩)
      clear J3 hc
      go_wp2_with fail
      refine HL.out.mono ?_
      rintro e w4 ⟨rfl, a, cap, hq⟩
      have J5 := Lib.hid hq
      clear hq
      go_wp2_with fail
      go_meet
      rw [e1]
      exact Lib.hid ⟨_, J5.out, rfl, ⟨rfl, rfl, rfl⟩, rfl, rfl, rfl⟩
  case rest =>
  obtain ⟨y, J4, hy, hG, hO⟩ := hcut.out
  have J4 := Lib.hid J4
  have c4 := J4.out.c1
  clear hcut J3
  go_upto_if 19 with fail
  refine (HN.out A.1 bFrom (by decide) _ J4.out.go.1).mono ?_
  rintro e w5 ⟨rfl, hg⟩
  have J5 := Lib.hid (J4.out.then hg)
  clear hg J4 c4
  have c5 := J5.out.c1
  have HNm := Lib.hid (pname_any R b 0 (A.1.need bFrom) w5 J5.out.go.1)
  rw [← HB.out] at HNm
  go_upto_if 19 with fail
  refine HNm.out.mono ?_
  rintro e w6 ⟨rfl, hg⟩
  have J6 := Lib.hid (J5.out.then hg)
  clear hg J5 c5 HNm
  have c6 := J6.out.c1
  obtain ⟨d2, f2⟩ := J6.out.cq 2 (.string y.table) (Qm.c2' y)
  have J7 := Lib.hid (J6.out.set (qm_table y B.2) (fun hm => hm))
  go_upto_if 19 with fail
  refine (HT.out B.1 bWhere (by decide) _ J7.out.go.1).mono ?_
  rintro e w8 ⟨rfl, hg⟩
  have J8 := Lib.hid (J7.out.then hg)
  have hy8 : ({ y with table := B.2 } : Qm).e = ⟨A.2.2, A.2.1, B.2, Prd.none, [], [], -1⟩ := by
    rw [show ({ y with table := B.2 } : Qm).e = { y.e with table := B.2 } from rfl, hy]
  have hG8 : Ge { y with table := B.2 } := hG
  have hO8 : Oe { y with table := B.2 } := hO
  clear hg J6 J7 c6 d2 f2 hy hG hO
  generalize ({ y with table := B.2 } : Qm) = y8 at *
  go_upto_if 19 with fail
  go_cut [] from 4 (fun wx => Hid (∃ y : Qm, QJ R b w wx C.1 y ∧ y.e = ⟨A.2.2, A.2.1, B.2, C.2, [], [], -1⟩ ∧ Ge y ∧ Oe y))
  case first =>
    have c8 := J8.out.c1
    cases hc : B.1.comes bWhere with
    | true =>
      have J9 := Lib.hid J8.out
      rw [hc, if_pos rfl] at J9
      have e1 : C = anyF 20 B.1.pass := by rw [HC.out]; unfold whereQ; rw [if_pos hc]
      have HAy := Lib.hid (pwhere_any R b B.1.pass w8 J9.out.go.1)
      rw [← e1] at HAy
      have HY := Lib.hid (And.intro hy8 (And.intro hG8 hO8))
      clear J8 hc e1 hy8 hG8 hO8
      go_wp2_with fail
      refine HAy.out.mono ?_
      rintro e w9 ⟨x, rfl, hx, hxS, hg⟩
      have J10 := Lib.hid (J9.out.then hg)
      have lq := (Array.getElem?_eq_some_iff.1 J9.out.q).1
      have HX := Lib.hid (And.intro hx (hxS.mono (S' := fun j => w.heap.size + 1 + 1 < j) (fun j _ hj => by omega)))
      clear hg hx hxS J9 HAy c8
      go_wp2_with (refine wpList_store_mid rfl 31 (.tmp 22) (.tmp 21) rfl (w.heap.size + 1 + 1) 3 x.c.toArray rfl rfl (by rw [Pm.c_size]; exact J10.out.there) (by rw [Pm.c_size]; exact pred_size) (Pm.c_all _) ?_)
      go_meet
      exact Lib.hid ⟨_, J10.out.cond HX.out.2, by
        rw [show ({ y8 with cond := x } : Qm).e = { y8.e with cond := x.e } from rfl, HY.out.1, HX.out.1], HY.out.2⟩
    | false =>
      have J9 := Lib.hid J8.out
      rw [hc, if_neg (by simp)] at J9
      have e1 : C = (B.1, Prd.none) := by rw [HC.out]; unfold whereQ; rw [if_neg (by simp [hc])]
      clear J8 hc
      go_wp2_with fail
      go_meet
      rw [e1]
      exact Lib.hid ⟨_, J9.out, hy8, hG8, hO8⟩
  case rest =>
  obtain ⟨y, J4, hy, hG, hO⟩ := hcut.out
  have J4 := Lib.hid J4
  have c4 := J4.out.c1
  clear hcut J8 hy8 hG8 hO8
  go_upto_if 24 with fail
  refine (HT.out C.1 bGroup (by decide) _ J4.out.go.1).mono ?_
  rintro e w8 ⟨rfl, hg⟩
  have J8 := Lib.hid (J4.out.then hg)
  clear hg J4 c4
  go_upto_if 24 with fail
  go_cut [] from 4 (fun wx => Hid (∃ y : Qm, QJ R b w wx D.1 y ∧ y.e = ⟨A.2.2, A.2.1, B.2, C.2, D.2, [], -1⟩ ∧ Oe y))
  case first =>
    have c8 := J8.out.c1
    cases hc : C.1.comes bGroup with
    | true =>
      have J9 := Lib.hid J8.out
      rw [hc, if_pos rfl] at J9
      have e1 : D = listF 8 columnL 9 (C.1.pass.need bBy) [] := by rw [HD.out]; unfold groupQ; rw [if_pos hc]
      have HY := Lib.hid (And.intro hy (And.intro hG hO))
      clear J8 hc hy hG hO
      go_wp2_with fail
      refine (HN.out C.1.pass bBy (by decide) _ J9.out.go.1).mono ?_
      rintro e w9 ⟨rfl, hg⟩
      have J10 := Lib.hid (J9.out.then hg)
      have HL := Lib.hid (qgroup_any R b w w9 _ _ J10.out HY.out.2.1)
      rw [← e1] at HL
      clear hg J9 c8 e1
      have c9 := J10.out.c1
      go_wp2_with fail
      refine HL.out.mono ?_
      rintro e w4 ⟨rfl, a, cap, hq⟩
      have J5 := Lib.hid hq
      clear hq c9 J10
      go_wp2_with fail
      go_meet
      exact Lib.hid ⟨_, J5.out, by
        rw [show ({ y with ga := a, gc := cap, group := D.2 } : Qm).e = { y.e with group := D.2 } from rfl, HY.out.1], HY.out.2.2⟩
    | false =>
      have J9 := Lib.hid J8.out
      rw [hc, if_neg (by simp)] at J9
      have e1 : D = (C.1, []) := by rw [HD.out]; unfold groupQ; rw [if_neg (by simp [hc])]
      clear J8 hc
      go_wp2_with fail
      go_meet
      rw [e1]
      exact Lib.hid ⟨_, J9.out, hy, hO⟩
  case rest =>
  obtain ⟨y, J4, hy, hO⟩ := hcut.out
  have J4 := Lib.hid J4
  have c4 := J4.out.c1
  clear hcut J8
  go_upto_if 31 with fail
  refine (HT.out D.1 bOrder (by decide) _ J4.out.go.1).mono ?_
  rintro e w8 ⟨rfl, hg⟩
  have J8 := Lib.hid (J4.out.then hg)
  clear hg J4 c4
  go_upto_if 31 with fail
  go_cut [] from 4 (fun wx => Hid (∃ y : Qm, QJ R b w wx E.1 y ∧ y.e = ⟨A.2.2, A.2.1, B.2, C.2, D.2, E.2, -1⟩))
  case first =>
    have c8 := J8.out.c1
    cases hc : D.1.comes bOrder with
    | true =>
      have J9 := Lib.hid J8.out
      rw [hc, if_pos rfl] at J9
      have e1 : E = listF 8 keyL 9 (D.1.pass.need bBy) [] := by rw [HE.out]; unfold orderQ; rw [if_pos hc]
      have HY := Lib.hid (And.intro hy hO)
      clear J8 hc hy hO
      go_wp2_with fail
      refine (HN.out D.1.pass bBy (by decide) _ J9.out.go.1).mono ?_
      rintro e w9 ⟨rfl, hg⟩
      have J10 := Lib.hid (J9.out.then hg)
      have HL := Lib.hid (qorder_any R b w w9 _ _ J10.out HY.out.2)
      rw [← e1] at HL
      clear hg J9 c8 e1
      have c9 := J10.out.c1
      go_wp2_with fail
      refine HL.out.mono ?_
      rintro e w4 ⟨rfl, a, cap, hq⟩
      have J5 := Lib.hid hq
      clear hq c9 J10
      go_wp2_with fail
      go_meet
      exact Lib.hid ⟨_, J5.out, by
        rw [show ({ y with oa := a, oc := cap, order := E.2 } : Qm).e = { y.e with order := E.2 } from rfl, HY.out.1]⟩
    | false =>
      have J9 := Lib.hid J8.out
      rw [hc, if_neg (by simp)] at J9
      have e1 : E = (D.1, []) := by rw [HE.out]; unfold orderQ; rw [if_neg (by simp [hc])]
      clear J8 hc
      go_wp2_with fail
      go_meet
      rw [e1]
      exact Lib.hid ⟨_, J9.out, hy⟩
  case rest =>
  obtain ⟨y, J4, hy⟩ := hcut.out
  have J4 := Lib.hid J4
  have c4 := J4.out.c1
  clear hcut J8
  go_upto_if 38 with fail
  refine (HT.out E.1 bLimit (by decide) _ J4.out.go.1).mono ?_
  rintro e w8 ⟨rfl, hg⟩
  have J8 := Lib.hid (J4.out.then hg)
  clear hg J4 c4
  go_upto_if 38 with fail
  go_cut [] from 4 (fun wx => Hid (∃ y : Qm, QJ R b w wx F.1 y ∧ y.e = ⟨A.2.2, A.2.1, B.2, C.2, D.2, E.2, F.2⟩))
  case first =>
    have c8 := J8.out.c1
    cases hc : E.1.comes bLimit with
    | true =>
      have J9 := Lib.hid J8.out
      rw [hc, if_pos rfl] at J9
      have e1 : F = limitL E.1.pass := by rw [HF.out]; unfold limitQ; rw [if_pos hc]
      have HL := Lib.hid (plimit_any R b 0 E.1.pass w8 J9.out.go.1)
      rw [← e1] at HL
      have HY := Lib.hid hy
      clear J8 hc hy e1
      go_wp2_with fail
      refine HL.out.mono ?_
      rintro e w9 ⟨rfl, hg⟩
      have J10 := Lib.hid (J9.out.then hg)
      have J11 := Lib.hid (J10.out.set (qm_limit y F.2) (fun hm => hm))
      obtain ⟨d15, f15⟩ := J10.out.cq 15 (.int .i64 y.limit) (Qm.c15' y)
      clear hg J9 c8 J10
      go_wp2_with fail
      go_meet
      exact Lib.hid ⟨_, J11.out, by
        rw [show ({ y with limit := F.2 } : Qm).e = { y.e with limit := F.2 } from rfl, HY.out]⟩
    | false =>
      have J9 := Lib.hid J8.out
      rw [hc, if_neg (by simp)] at J9
      have e1 : F = (E.1, -1) := by rw [HF.out]; unfold limitQ; rw [if_neg (by simp [hc])]
      clear J8 hc
      go_wp2_with fail
      go_meet
      rw [e1]
      exact Lib.hid ⟨_, J9.out, hy⟩
  case rest =>
  obtain ⟨y, J4, hy⟩ := hcut.out
  have J4 := Lib.hid J4
  have HEn := Lib.hid (end_any R b 0 F.1 wc J4.out.go.1)
  have c4 := J4.out.c1
  clear hcut J8
  go_wp2_with fail
  refine HEn.out.mono ?_
  rintro e w5 ⟨rfl, hg⟩
  have J5 := Lib.hid (J4.out.then hg)
  clear hg J4 c4 HEn
  go_wp2_with (first
    | (refine wpList_load_row rfl 34 (.tmp 3) rfl (w.heap.size + 1 + 1) rfl 34 y.c (0, 0) _ J5.out.q Tryz.underlying34 rfl (by rw [Qm.c_size]; exact query_size) ?_)
    | (refine wpList_store_row rfl 34 (.tmp 2) (.tmp 44) rfl (w.heap.size + 1) y.c rfl rfl 34 (Qm.z 0).c J5.out.res (by rw [Qm.c_size]; exact query_size) (by rw [Qm.c_size, Qm.c_size]) (Qm.c_all _) ?_))
  have hgs := grown_setRow w5 (w.heap.size + 1) y.c
  have hbl := setRow_heap w5 (w.heap.size + 1) (Qm.z 0).c y.c _ _ J5.out.res
  have hm : QmS (fun j => w.heap.size ≤ j) (w5.setRow (w.heap.size + 1) y.c) y := (J5.out.mem.keep ⟨hgs.size, fun k hk hlt => hgs.block k hlt (by simp; omega)⟩).mono (fun k _ hk => by omega)
  have hgo : RdGo R b 0 F.1.fin w (w5.setRow (w.heap.size + 1) y.c) := by
    have ho : Only (fun k => k = w.heap.size + 1) w5 (w5.setRow (w.heap.size + 1) y.c) := (Only.of_grown hgs).mono (fun k _ e => by cases e; rfl)
    have := J5.out.lb
    have := J5.out.lE
    exact ⟨J5.out.go.1.only ho (by omega) (by omega) (by omega), only_grownR J5.out.go.2 ho (fun j e => .inr (by omega))⟩
  exact bodyPost_ret (results_qm rfl _ _ (w.heap.size + 1) y rfl hbl) rfl ⟨y, rfl, hy, hm, hgo⟩
end Go.Proofs.YtppigamibgefaaaGreatDoor
namespace Go.Proofs.YtppigamibgefaaaGreatDoor
open Go.RowKit

/-- What read answers. -/
def ReadIs (s : ByteArray) (w : World) (e : Ending) (w' : World) : Prop :=
  w.grownBy w' none ∧ ((∃ p c, ∃ y : Qm, parseL s = .error (p, c) ∧ e = .returned (.tuple #[.agg y.c, errI (some (p, c))]))
  ∨ ∃ y : Qm, parseL s = .ok y.e ∧ e = .returned (.tuple #[.agg y.c, .nilIface]) ∧ QmS (fun j => w.heap.size ≤ j) w' y)
theorem ne_nat {c : Nat} (h : c ≠ 0) : ((c : Int) != 0) = true := by
  rw [bne_iff_ne]; omega
theorem qm_over (y : Qm) : setL (Qm.z 0).c 0 y.l = y.c := by
  obtain ⟨_, _, _, _, _, ⟨_, _, _, _, _, _, _, _, _, _, _, _⟩, _, _, _, _, _, _, _⟩ := y
  simp [setL, Qm.c, Qm.l, Pm.c, Qm.z, Pm.none]
theorem cells17 {w : World} {g : Nat} {v0 v1 v2 v3 v4 v5 v6 v7 v8 v9 v10 v11 v12 v13 v14 v15 v16 : Value} {T : TypeId} (h : w.heap[g]? = some (.cells #[v0, v1, v2, v3, v4, v5, v6, v7, v8, v9, v10, v11, v12, v13, v14, v15, v16] T (0, 0))) : w.cell? ⟨g, 0, none⟩ = some v0 ∧ w.cell? ⟨g, 1, none⟩ = some v1 ∧ w.cell? ⟨g, 2, none⟩ = some v2 ∧ w.cell? ⟨g, 3, none⟩ = some v3 ∧ w.cell? ⟨g, 4, none⟩ = some v4 ∧ w.cell? ⟨g, 5, none⟩ = some v5 ∧ w.cell? ⟨g, 6, none⟩ = some v6 ∧ w.cell? ⟨g, 7, none⟩ = some v7 ∧ w.cell? ⟨g, 8, none⟩ = some v8 ∧ w.cell? ⟨g, 9, none⟩ = some v9 ∧ w.cell? ⟨g, 10, none⟩ = some v10 ∧ w.cell? ⟨g, 11, none⟩ = some v11 ∧ w.cell? ⟨g, 12, none⟩ = some v12 ∧ w.cell? ⟨g, 13, none⟩ = some v13 ∧ w.cell? ⟨g, 14, none⟩ = some v14 ∧ w.cell? ⟨g, 15, none⟩ = some v15 ∧ w.cell? ⟨g, 16, none⟩ = some v16 :=
  ⟨by rw [cell_of_row _ _ 0 _ _ _ h]; rfl, by rw [cell_of_row _ _ 1 _ _ _ h]; rfl, by rw [cell_of_row _ _ 2 _ _ _ h]; rfl, by rw [cell_of_row _ _ 3 _ _ _ h]; rfl, by rw [cell_of_row _ _ 4 _ _ _ h]; rfl, by rw [cell_of_row _ _ 5 _ _ _ h]; rfl, by rw [cell_of_row _ _ 6 _ _ _ h]; rfl, by rw [cell_of_row _ _ 7 _ _ _ h]; rfl, by rw [cell_of_row _ _ 8 _ _ _ h]; rfl, by rw [cell_of_row _ _ 9 _ _ _ h]; rfl, by rw [cell_of_row _ _ 10 _ _ _ h]; rfl, by rw [cell_of_row _ _ 11 _ _ _ h]; rfl, by rw [cell_of_row _ _ 12 _ _ _ h]; rfl, by rw [cell_of_row _ _ 13 _ _ _ h]; rfl, by rw [cell_of_row _ _ 14 _ _ _ h]; rfl, by rw [cell_of_row _ _ 15 _ _ _ h]; rfl, by rw [cell_of_row _ _ 16 _ _ _ h]; rfl⟩
theorem frozen17 {w : World} {g : Nat} {cs : Array Value} {T : TypeId} (h : w.heap[g]? = some (.cells cs T (0, 0))) : w.frozen? ⟨g, 0, none⟩ = false ∧ w.frozen? ⟨g, 1, none⟩ = false ∧ w.frozen? ⟨g, 2, none⟩ = false ∧ w.frozen? ⟨g, 3, none⟩ = false ∧ w.frozen? ⟨g, 4, none⟩ = false ∧ w.frozen? ⟨g, 5, none⟩ = false ∧ w.frozen? ⟨g, 6, none⟩ = false ∧ w.frozen? ⟨g, 7, none⟩ = false ∧ w.frozen? ⟨g, 8, none⟩ = false ∧ w.frozen? ⟨g, 9, none⟩ = false ∧ w.frozen? ⟨g, 10, none⟩ = false ∧ w.frozen? ⟨g, 11, none⟩ = false ∧ w.frozen? ⟨g, 12, none⟩ = false ∧ w.frozen? ⟨g, 13, none⟩ = false ∧ w.frozen? ⟨g, 14, none⟩ = false ∧ w.frozen? ⟨g, 15, none⟩ = false ∧ w.frozen? ⟨g, 16, none⟩ = false :=
  ⟨frozen_of_row _ _ 0 _ _ h, frozen_of_row _ _ 1 _ _ h, frozen_of_row _ _ 2 _ _ h, frozen_of_row _ _ 3 _ _ h, frozen_of_row _ _ 4 _ _ h, frozen_of_row _ _ 5 _ _ h, frozen_of_row _ _ 6 _ _ h, frozen_of_row _ _ 7 _ _ h, frozen_of_row _ _ 8 _ _ h, frozen_of_row _ _ 9 _ _ h, frozen_of_row _ _ 10 _ _ h, frozen_of_row _ _ 11 _ _ h, frozen_of_row _ _ 12 _ _ h, frozen_of_row _ _ 13 _ _ h, frozen_of_row _ _ 14 _ _ h, frozen_of_row _ _ 15 _ _ h, frozen_of_row _ _ 16 _ _ h⟩
/-- Where an own list of tokens lies, and its cells. -/
theorem tk_cells {w : World} {B : Nat} {v : Value} {n : Nat} {xs : List Value} (h : w.ownsRow B 207 3 v n xs) (hn : 0 < n) : ∃ g cap, v = .slice (some ⟨g, 0, none⟩) n cap ∧ cap ≤ maxLen ∧ ∀ j u, xs[j]? = some u → w.cell? ⟨g, j, none⟩ = some u := by
  obtain ⟨a, cap, rfl, hw, hb⟩ := own_win h
  obtain ⟨g, cap', hv, _⟩ := own_at h hn
  cases hv
  rcases hw.mem with e | ⟨g', off, e, hc, _, _⟩
  · have := hw.le; omega
  · cases e
    exact ⟨_, _, rfl, hw.max, fun j u hj => by have := hc j u hj; rwa [Nat.zero_add] at this⟩
theorem results_qm2 {fn : Func} {p u : Tmp} (h : fn.results = #[.cell p 34, .tmp u]) (tmps : Array Value) (w : World) (g : Nat) (y : Qm) (hp : tmps.getD p undef = .pointer (some ⟨g, 0, Option.none⟩)) (hg : w.heap[g]? = some (.cells y.c 34 (0, 0))) :
    (results fn tmps).run Tryz.prog w = .ok (.tuple #[.agg y.c, tmps.getD u undef]) w := by
  have hp' : tmps[p]?.getD undef = .pointer (some ⟨g, 0, Option.none⟩) := by simpa using hp
  simp [results, h, hp', asAddr, run_loadVar_row w g 34 34 y.c (0, 0) _ hg Tryz.underlying34 rfl (by rw [Qm.c_size]; exact query_size)]
theorem results_qm3 {fn : Func} {p u v : Tmp} (h : fn.results = #[.cell p 34, .tmp u, .tmp v]) (tmps : Array Value) (w : World) (g : Nat) (y : Qm) (hp : tmps.getD p undef = .pointer (some ⟨g, 0, Option.none⟩)) (hg : w.heap[g]? = some (.cells y.c 34 (0, 0))) :
    (results fn tmps).run Tryz.prog w = .ok (.tuple #[.agg y.c, tmps.getD u undef, tmps.getD v undef]) w := by
  have hp' : tmps[p]?.getD undef = .pointer (some ⟨g, 0, Option.none⟩) := by simpa using hp
  simp [results, h, hp', asAddr, run_loadVar_row w g 34 34 y.c (0, 0) _ hg Tryz.underlying34 rfl (by rw [Qm.c_size]; exact query_size)]
set_option maxRecDepth 100000 in
set_option maxHeartbeats 6400000 in
theorem pread_bad (G : Nat) (n g m l : Addr) (s : ByteArray) (w : World) (hE : LxEnv G n g m l w) (p c : Nat) (ht : lexL s = .error (p, c)) :
    Calls Tryz.prog 32 #[.string s] w (ReadIs s w) := by
  have HL := Lib.hid (fun W (hW : w.grownBy W none) => Lex_bad G n g m l s W (hE.keep hW) p c ht)
  have hc := lexL_codes s p c ht
  have hc0 := ne_nat (show c ≠ 0 by omega)
  have HP : Hid (parseL s = .error (p, c)) := Lib.hid (by unfold parseL; rw [ht])
  clear hE ht hc
  go_enter Tryz.func32, Tryz.ntmps32
  have GA := Lib.hid (World.grownBy_alloc w (.cells (Qm.z 0).c 34) none)
  go_wp2_with fail
  refine (HL.out _ GA.out).mono ?_
  rintro e w2 ⟨rfl, hg⟩
  have G2 := Lib.hid (GA.out.trans hg)
  have A2 := Lib.hid (blk_grown hg (heap_alloc_new w _))
  clear hg
  go_wp2_with (refine wpList_store_row rfl 34 (.tmp 2) (.tmp 17) rfl w.heap.size (Qm.z 0).c rfl rfl 34 (Qm.z 0).c A2.out (by rw [Qm.c_size]; exact query_size) rfl (Qm.c_all _) ?_)
  have hgs := grown_setRow w2 w.heap.size (Qm.z 0).c
  have hbl := setRow_heap w2 w.heap.size (Qm.z 0).c (Qm.z 0).c _ _ A2.out
  have hgo : w.grownBy (w2.setRow w.heap.size (Qm.z 0).c) none := ⟨hgs.os.trans G2.out.os, hgs.tape.trans G2.out.tape, hgs.output.trans G2.out.output, Nat.le_trans G2.out.size hgs.size, fun k hk _ => (hgs.block k (Nat.lt_of_lt_of_le hk G2.out.size) (by simp; omega)).trans (G2.out.block k hk (by simp))⟩
  exact bodyPost_ret (results_qm2 rfl _ _ w.heap.size (Qm.z 0) rfl hbl) rfl ⟨hgo, .inl ⟨p, c, Qm.z 0, HP.out, rfl⟩⟩
end Go.Proofs.YtppigamibgefaaaGreatDoor
namespace Go.Proofs.YtppigamibgefaaaGreatDoor
open Go.RowKit

theorem drew_setCell (w : World) (a : Addr) (v : Value) : (w.setCell a v).drew = w.drew.setCell a v := rfl
set_option maxRecDepth 100000 in
set_option maxHeartbeats 6400000 in
theorem pread_ok (G : Nat) (n g m l : Addr) (s : ByteArray) (w : World) (hE : LxEnv G n g m l w) (t : List Tk) (ht : lexL s = .ok t) :
    Calls Tryz.prog 32 #[.string s] w (ReadIs s w) := by
  have HL := Lib.hid (fun W (hW : w.grownBy W none) => Lex_ok G n g m l s W (hE.keep hW) t ht)
  have HT := Lib.hid (lexL_ok s t ht)
  have HF := Lib.hid (And.intro hE.far (And.intro hE.fl hE.le))
  obtain ⟨r, hr⟩ : ∃ r, r = queryL ⟨t, Option.none⟩ := ⟨_, rfl⟩
  have HP : Hid (parseL s = match r.1.err with | some e => .error e | Option.none => .ok r.2) := Lib.hid (by rw [hr]; unfold parseL; rw [ht]; rfl)
  have HQ := Lib.hid (fun R b W (hW : RdA R b 0 ⟨t, Option.none⟩ W) => pquery_any R b ⟨t, Option.none⟩ W hW)
  rw [← hr] at HQ
  clear hE ht hr
  go_enter Tryz.func32, Tryz.ntmps32
  have GA := Lib.hid (World.grownBy_alloc w (.cells (Qm.z 0).c 34) none)
  go_wp2_with fail
  refine (HL.out _ GA.out).mono ?_
  rintro e w2 ⟨v, rfl, ho, hg⟩
  have hpos := HT.out.1.pos
  obtain ⟨gb, cap, rfl, hcap, hgb, hgl⟩ := own_at ho hpos
  have G2 := Lib.hid (GA.out.trans hg)
  have A2 := Lib.hid (blk_grown hg (heap_alloc_new w _))
  have O2 := Lib.hid ho
  clear hg ho
  have J2 : Hid (RdA w2.heap.size gb 0 ⟨t, Option.none⟩ (w2.alloc (.cells #[.slice (some ⟨gb, 0, Option.none⟩) t.length cap, .int .i64 0, .nilIface] 131))) := by
    have g3 := World.grownBy_alloc w2 (.cells #[.slice (some ⟨gb, 0, Option.none⟩) t.length cap, .int .i64 0, .nilIface] 131) none
    obtain ⟨g1, cap1, hv, hc1, hcell⟩ := tk_cells O2.out hpos
    cases hv
    obtain ⟨tp, pp, far⟩ := HF.out.1
    have hl := HF.out.2
    exact Lib.hid ⟨⟨0, cap, heap_alloc_new w2 _, hcap, hc1, fun j u hj => g3.cell (by rw [Nat.zero_add]; exact hcell j u hj) (by simp)⟩, HT.out.1, by have := HT.out.2.1; simp only; omega, Nat.lt_of_lt_of_le hgl g3.size, by omega, ⟨tp, pp, g3.cell (G2.out.cell far (by simp)) (by simp)⟩, by have := G2.out.size; omega, HT.out.2.2⟩
  have g3 := Lib.hid (World.grownBy_alloc w2 (.cells #[.slice (some ⟨gb, 0, Option.none⟩) t.length cap, .int .i64 0, .nilIface] 131) none)
  have A3 := Lib.hid (blk_grown g3.out A2.out)
  have l3 := (Array.getElem?_eq_some_iff.1 A2.out).1
  have s3 : (w2.alloc (.cells #[.slice (some ⟨gb, 0, Option.none⟩) t.length cap, .int .i64 0, .nilIface] 131)).heap.size = w2.heap.size + 1 := by simp
  go_wp2_with fail
  refine (HQ.out _ _ _ J2.out).mono ?_
  rintro e w4 ⟨y, rfl, hy, hyS, hg⟩
  have A4 := Lib.hid (hg.blk A3.out (by omega))
  have R4 := Lib.hid hg
  have HY := Lib.hid (And.intro hy hyS)
  have l4 := hg.2.size
  have B5 := Lib.hid (heap_alloc_new w4 (.cells (Qm.z 0).c 34))
  clear hg hy hyS hcap hgl
  go_upto_region 6 with (refine wpList_store_row rfl 34 (.tmp 8) (.tmp 25) rfl w4.heap.size y.c rfl rfl 34 (Qm.z 0).c B5.out (by rw [Qm.c_size]; exact query_size) (by rw [Qm.c_size, Qm.c_size]) (Qm.c_all _) ?_)
  have gA := Lib.hid (World.grownBy_alloc w4 (.cells (Qm.z 0).c 34) none)
  have gS := Lib.hid (grown_setRow (w4.alloc (.cells (Qm.z 0).c 34)) w4.heap.size y.c)
  have B6 := Lib.hid (setRow_heap (w4.alloc (.cells (Qm.z 0).c 34)) w4.heap.size (Qm.z 0).c y.c _ _ B5.out)
  have A6 := Lib.hid (blk_row gS.out (blk_grown gA.out A4.out) (by omega))
  have Y6 := Lib.hid ((HY.out.2.mono (S' := fun j => w.heap.size < j ∧ j ≠ w4.heap.size) (fun j hj1 hj => by omega)).keep ⟨Nat.le_trans gA.out.size gS.out.size, fun k hk hlt => (gS.out.block k (Nat.lt_of_lt_of_le hlt gA.out.size) (by simp; exact hk.2)).trans (gA.out.block k hlt (by simp))⟩)
  obtain ⟨o4, k4, hb4, _⟩ := R4.out.1.at_
  have hbR := (Array.getElem?_eq_some_iff.1 hb4).1
  have hb6 := blk_row gS.out (blk_grown gA.out hb4) (by omega)
  have g6 : Hid (w.grownBy ((w4.alloc (.cells (Qm.z 0).c 34)).setRow w4.heap.size y.c) none) := Lib.hid (by
    have a := G2.out
    have b := g3.out
    have c := R4.out.2
    have d := gA.out
    have e := gS.out
    exact ⟨e.os.trans (d.os.trans (c.os.trans (b.os.trans a.os))), e.tape.trans (d.tape.trans (c.tape.trans (b.tape.trans a.tape))), e.output.trans (d.output.trans (c.output.trans (b.output.trans a.output))), by have := a.size; have := b.size; have := c.size; have := d.size; have := e.size; omega, fun k hk _ => by
      have := a.size
      have := b.size
      have := d.size
      exact (e.block k (by omega) (by simp; omega)).trans ((d.block k (by omega) (by simp)).trans ((c.block k (by omega) (by simp; omega)).trans ((b.block k (by omega) (by simp)).trans (a.block k hk (by simp)))))⟩)
  clear gA gS B5 A4 R4
  have cE : ((w4.alloc (.cells (Qm.z 0).c 34)).setRow w4.heap.size y.c).cell? ⟨w2.heap.size, 2, none⟩ = some (errI r.1.err) := by rw [cell_of_row _ _ 2 _ _ _ hb6]; rfl
  clear hb4 hb6
  obtain ⟨w6, hw6⟩ : ∃ w6, w6 = (w4.alloc (.cells (Qm.z 0).c 34)).setRow w4.heap.size y.c := ⟨_, rfl⟩
  rw [← hw6] at B6 A6 Y6 g6 cE
  change Code.wp _ _ _ _ ((w4.alloc (.cells (Qm.z 0).c 34)).setRow w4.heap.size y.c)
  rw [← hw6]
  clear hw6
  have hbl : (w6.drew.setCells w.heap.size 0 y.l).heap[w.heap.size]? = some (.cells y.c 34 (0, 0)) := by
    rw [heap_setCells y.l 0 w6.drew _ A6.out, qm_over]
  have hgs := grown_setCells w.heap.size y.l 0 w6.drew
  have HF1 : Hid (ReadIs s w (.returned (.tuple #[.agg y.c, errI r.1.err])) (w6.drew.setCells w.heap.size 0 y.l)) := Lib.hid (by
    have gd := grown_drewT g6.out
    refine ⟨⟨hgs.os.trans gd.os, hgs.tape.trans gd.tape, hgs.output.trans gd.output, Nat.le_trans gd.size hgs.size, fun k hk _ => (hgs.block k (Nat.lt_of_lt_of_le hk gd.size) (by simp; omega)).trans (gd.block k hk (by simp))⟩, ?_⟩
    have hp := HP.out
    cases he : r.1.err with
    | none =>
      rw [he] at hp
      refine .inr ⟨y, by rw [hp, HY.out.1], rfl, ?_⟩
      have y7 := (Y6.out.keep (w' := w6.drew) ⟨Nat.le_refl _, fun _ _ _ => rfl⟩).keep ⟨hgs.size, fun k hk hlt => hgs.block k hlt (by simp; omega)⟩
      exact y7.mono (fun j _ hj => Nat.le_of_lt hj.1)
    | some pc => rw [he] at hp; exact .inl ⟨pc.1, pc.2, y, hp, rfl⟩)
  have HB := Lib.hid hbl
  clear hbl hgs Y6 HY HP g6
  generalize errI r.1.err = ev at *
  obtain ⟨ia, ic, its, al, ta, ⟨k, c, rr, v, o, la, lc, li, ka, kc, ks, pp⟩, ga, gc, gr, oa, oc, od, lim⟩ := y
  have n1 : w2.heap.size ≠ w.heap.size := by omega
  have cE' : w6.drew.cell? ⟨w2.heap.size, 2, none⟩ = some ev := cE
  obtain ⟨b0, b1, b2, b3, b4, b5, b6, b7, b8, b9, b10, b11, b12, b13, b14, b15, b16⟩ := cells17 (show w6.drew.heap[w4.heap.size]? = some (.cells #[.slice ia its.length ic, .bool al, .string ta, .int .i64 (k : Int), .string c, .int .i64 (rr : Int), .int .i64 v.k, .int .i64 v.n, .string v.s, .string o, .slice la li.length lc, .slice ka ks.length kc, .int .i64 (pp : Int), .slice ga gr.length gc, .slice oa od.length oc, .int .i64 lim, .int .i64 0] 34 (0, 0)) from B6.out)
  obtain ⟨bb0, bb1, bb2, bb3, bb4, bb5, bb6, bb7, bb8, bb9, bb10, bb11, bb12, bb13, bb14, bb15, bb16⟩ := cells17 (show w6.heap[w4.heap.size]? = some (.cells #[.slice ia its.length ic, .bool al, .string ta, .int .i64 (k : Int), .string c, .int .i64 (rr : Int), .int .i64 v.k, .int .i64 v.n, .string v.s, .string o, .slice la li.length lc, .slice ka ks.length kc, .int .i64 (pp : Int), .slice ga gr.length gc, .slice oa od.length oc, .int .i64 lim, .int .i64 0] 34 (0, 0)) from B6.out)
  obtain ⟨q0, q1, q2, q3, q4, q5, q6, q7, q8, q9, q10, q11, q12, q13, q14, q15, q16⟩ := cells17 (show w6.drew.heap[w.heap.size]? = some (.cells #[.slice Option.none 0 0, .bool false, .string ⟨#[]⟩, .int .i64 0, .string ⟨#[]⟩, .int .i64 0, .int .i64 0, .int .i64 0, .string ⟨#[]⟩, .string ⟨#[]⟩, .slice Option.none 0 0, .slice Option.none 0 0, .int .i64 0, .slice Option.none 0 0, .slice Option.none 0 0, .int .i64 0, .int .i64 0] 34 (0, 0)) from A6.out)
  obtain ⟨qq0, qq1, qq2, qq3, qq4, qq5, qq6, qq7, qq8, qq9, qq10, qq11, qq12, qq13, qq14, qq15, qq16⟩ := cells17 (show w6.heap[w.heap.size]? = some (.cells #[.slice Option.none 0 0, .bool false, .string ⟨#[]⟩, .int .i64 0, .string ⟨#[]⟩, .int .i64 0, .int .i64 0, .int .i64 0, .string ⟨#[]⟩, .string ⟨#[]⟩, .slice Option.none 0 0, .slice Option.none 0 0, .int .i64 0, .slice Option.none 0 0, .slice Option.none 0 0, .int .i64 0, .int .i64 0] 34 (0, 0)) from A6.out)
  obtain ⟨f0, f1, f2, f3, f4, f5, f6, f7, f8, f9, f10, f11, f12, f13, f14, f15, f16⟩ := frozen17 (show w6.drew.heap[w.heap.size]? = some (.cells #[.slice Option.none 0 0, .bool false, .string ⟨#[]⟩, .int .i64 0, .string ⟨#[]⟩, .int .i64 0, .int .i64 0, .int .i64 0, .string ⟨#[]⟩, .string ⟨#[]⟩, .slice Option.none 0 0, .slice Option.none 0 0, .int .i64 0, .slice Option.none 0 0, .slice Option.none 0 0, .int .i64 0, .int .i64 0] 34 (0, 0)) from A6.out)
  obtain ⟨ff0, ff1, ff2, ff3, ff4, ff5, ff6, ff7, ff8, ff9, ff10, ff11, ff12, ff13, ff14, ff15, ff16⟩ := frozen17 (show w6.heap[w.heap.size]? = some (.cells #[.slice Option.none 0 0, .bool false, .string ⟨#[]⟩, .int .i64 0, .string ⟨#[]⟩, .int .i64 0, .int .i64 0, .int .i64 0, .string ⟨#[]⟩, .string ⟨#[]⟩, .slice Option.none 0 0, .slice Option.none 0 0, .int .i64 0, .slice Option.none 0 0, .slice Option.none 0 0, .int .i64 0, .int .i64 0] 34 (0, 0)) from A6.out)
  go_wp2_with fail
  simp only [World.setCells, Qm.l, Pm.c, List.cons_append, List.nil_append, Nat.zero_add, Nat.reduceAdd] at HB HF1
  go_region
  all_goals
    go_wp2_with fail
    simp only [drew_setCell]
    simp (config := { decide := false }) only [Act.put, List.getElem_toArray, List.getElem_cons_succ, List.getElem_cons_zero, List.setIfInBounds_toArray, List.set_cons_succ, List.set_cons_zero]
    exact bodyPost_ret (results_qm2 (p := 2) (u := 3) rfl _ _ w.heap.size ⟨ia, ic, its, al, ta, ⟨k, c, rr, v, o, la, lc, li, ka, kc, ks, pp⟩, ga, gc, gr, oa, oc, od, lim⟩ rfl HB.out) rfl HF1.out
end Go.Proofs.YtppigamibgefaaaGreatDoor
