import Derived.Test.YtfambadamebjjaaZs19
import Derived.Test.YtfambadamebjjaaZs44
import Derived.Test.YtfambadamebjjaaRows
set_option linter.unusedSimpArgs false
set_option linter.unusedVariables false
namespace Go.Proofs.Ytfambadamebjjaa
open Go.RowKit
set_option linter.unusedVariables false
set_option linter.unusedSimpArgs false
def joinPm (k g : Nat) (x y : Pm) : Pm := .mk k bE 0 vlZ bE none 0 [] (some ⟨g, 0, none⟩) 2 [x, y] 0
theorem joinPm_nod {cs : List Cl} {k g : Nat} {x y : Pm} (hk : k = 8 ∨ k = 9) (h : x.e.nod cs) (h' : y.e.nod cs) : (joinPm k g x y).e.nod cs := by
 rcases hk with rfl | rfl <;> exact ⟨by decide, by simp, fun _ h7 => absurd h7 (by decide), by simp, by simp, h, h', trivial⟩
theorem joinPm_n (k g : Nat) (x y : Pm) : (joinPm k g x y).n = x.n + y.n + 1 := by
 rw [joinPm, Pm.n, Pm.ns, Pm.ns, Pm.ns]; omega
theorem joinPm_and (cs : List Cl) (rv : List Vv) (g : Nat) (x y : Pm) : trP cs rv (joinPm 8 g x y).e = joinT 0 1 [trP cs rv x.e, trP cs rv y.e] := rfl
theorem joinPm_or (cs : List Cl) (rv : List Vv) (g : Nat) (x y : Pm) : trP cs rv (joinPm 9 g x y).e = joinT 1 0 [trP cs rv x.e, trP cs rv y.e] := rfl
theorem joinPm_S {W : World} {k g : Nat} {x y : Pm} {cs : Array Value} {T : TypeId} (hb : W.heap[g]? = some (.cells cs T (0, 0))) (hc : cs = (x.c ++ y.c).toArray) (hx : PmS (fun _ => True) W x) (hy : PmS (fun _ => True) W y) : PmS (fun _ => True) W (joinPm k g x y) := by
 subst hc
 refine ⟨RwS.nil _ _ _, Nat.le_refl _, .inr ⟨g, 0, rfl, trivial, (Array.getElem?_eq_some_iff.1 hb).1, fun j u hj => ?_⟩, Nat.le_refl _, hx, hy, trivial⟩
 rw [Nat.zero_add, cell_of_row _ _ _ _ _ _ hb]
 simpa using hj
theorem andT_val {p q : Int} (hp : isT p) (hq : isT q) : (joinT 0 1 [p, q] == 1) = ((p == 1) && (q == 1)) := by
 unfold isT at hp hq
 rcases hp with rfl | rfl | rfl <;> rcases hq with rfl | rfl | rfl <;> simp [joinT]
theorem orT_val {p q : Int} (hp : isT p) (hq : isT q) : (joinT 1 0 [p, q] == 1) = ((p == 1) || (q == 1)) := by
 unfold isT at hp hq
 rcases hp with rfl | rfl | rfl <;> rcases hq with rfl | rfl | rfl <;> simp [joinT]
def JnAt (g : Nat) (W : World) (cd dc : Array Value) : Prop := (∃ T, W.heap[g]? = some (.cells cd T (0, 0))) ∨ (∃ T, W.heap[g]? = some (.cells dc T (0, 0)))
theorem JnAt.keep {g : Nat} {W W' : World} {cd dc : Array Value} (h : JnAt g W cd dc) (hg : W.grownBy W' none) : JnAt g W' cd dc :=
 h.imp (fun ⟨T, e⟩ => ⟨T, blkD hg e⟩) (fun ⟨T, e⟩ => ⟨T, blkD hg e⟩)
theorem ten_list (x : Pm) : ∃ c0 c1 c2 c3 c4 c5 c6 c7 c8 c9, x.c = [c0, c1, c2, c3, c4, c5, c6, c7, c8, c9] := by
 cases x; exact ⟨_, _, _, _, _, _, _, _, _, _, rfl⟩
set_option maxRecDepth 100000 in
set_option maxHeartbeats 12800000 in
theorem SieveJoins_any (s0 s1 : ByteArray) (t : Tb) (ra : Option Addr) (rcap : Nat) (rv : List Vv) (w : World) (hC : ColsAt w.heap.size w t.a t.l) (hcap : t.l.length ≤ t.cap) (hN : t.n.size ≤ 9223372036854775807 ∧ ∀ i, i < t.l.length → (t.l.getD i default).n.size ≤ 9223372036854775807) (hV : VvAt w.heap.size w ra rv) (hrc : rv.length ≤ rcap) :
  Calls Try.prog 5 #[.agg #[.string s0, .string s1], .agg #[.string t.n, .slice t.a t.l.length t.cap, .int .i64 t.k], .slice ra rv.length rcap] w fun e w' => e = .returned (.bool true) ∧ w.grownBy w' none := by
 have HQ := Lib.hid (fun (s : ByteArray) W (hW : w.grownBy W none) => lawQuery_any s t W ((hC.keep hW (by simp)).mono hW.size) hcap hN)
 have HR := Lib.hid (fun b W (hW : w.grownBy W none) (hb : W.heap[b]? = some (.cells #[.slice ra rv.length rcap] 26 (0, 0))) => lawRight_any t (some ⟨b, 0, none⟩) 1 [⟨ra, rcap, rv⟩] W ((hC.keep hW (by simp)).mono hW.size) hcap (rws_one hb ((hV.keep hW (by simp)).mono1 hW.size) hrc) (Nat.le_refl _))
 have HA := Lib.hid awake13_any
 have HP := Lib.hid (fun (hr : RightG [t]) (hfit : Fits t.l rv) (S : Nat → Prop) (x : Pm) (hn : x.n ≤ 100000) (ho : x.e.nod t.l) W (hW : w.grownBy W none) (hx : PmS S W x) => sPasses_any t.n t.a t.cap t.l t.k S x ra rcap rv W ((hC.keep hW (by simp)).mono hW.size) (fun c hc => ((names_of (l := []) hr).1 c hc).2) (by have := (names_of (l := []) hr).2.1; omega) hx hn ho ((hV.keep hW (by simp)).mono1 hW.size) hfit.fine.1 hfit.fine.2)
 have HNm := Lib.hid (fun (hr : RightG [t]) => (names_of (l := []) hr).1)
 clear hC hcap hN hV hrc
 obtain ⟨tn, ta, tcap, tl, tk⟩ := t
 dsimp only at *
 unfold Pm.v at HP
 generalize hln : tl.length = ln at *
 generalize hrn : rv.length = rn at *
 clear hln hrn
 go_enter Try.func5, Try.ntmps5
 go_upto_region 1 with fail
 change Code.wp _ _ _ _ ((w.alloc (.cells #[.string s0, .string s1] 47)).alloc (.cells #[.string tn, .slice ta ln tcap, .int .i64 tk] 24))
 have hS1 : ((w.alloc (.cells #[.string s0, .string s1] 47)).alloc (.cells #[.string tn, .slice ta ln tcap, .int .i64 tk] 24)).heap[w.heap.size]? = some (.cells #[.string s0, .string s1] 47 (0, 0)) := blkD (World.grownBy_alloc _ _ none) (heap_alloc_new w _)
 have hT1 : ((w.alloc (.cells #[.string s0, .string s1] 47)).alloc (.cells #[.string tn, .slice ta ln tcap, .int .i64 tk] 24)).heap[w.heap.size + 1]? = some (.cells #[.string tn, .slice ta ln tcap, .int .i64 tk] 24 (0, 0)) := by have := heap_alloc_new (w.alloc (.cells #[.string s0, .string s1] 47)) (.cells #[.string tn, .slice ta ln tcap, .int .i64 tk] 24); rw [World.size_alloc] at this; exact this
 have hG1 : w.grownBy ((w.alloc (.cells #[.string s0, .string s1] 47)).alloc (.cells #[.string tn, .slice ta ln tcap, .int .i64 tk] 24)) none := (World.grownBy_alloc _ _ none).trans (World.grownBy_alloc _ _ none)
 generalize (w.alloc (.cells #[.string s0, .string s1] 47)).alloc (.cells #[.string tn, .slice ta ln tcap, .int .i64 tk] 24) = w1 at *
 obtain ⟨gs, hgs⟩ : ∃ gs, gs = w.heap.size := ⟨_, rfl⟩
 rw [← hgs] at hS1 hT1 ⊢
 have S1 := Lib.hid hS1
 have T1 := Lib.hid hT1
 have G1 := Lib.hid hG1
 clear hgs hS1 hT1 hG1
 obtain ⟨⟨s_0, s_1⟩, s_2, s_3⟩ := two_of S1.out
 obtain ⟨⟨t0, t1, t2⟩, t3, t4, t5⟩ := boxD3 T1.out
 go_wp2_with fail
 refine (HQ.out s0 _ G1.out).mono ?_
 rintro e w2 ⟨hg, y, hy⟩
 have hE : ∃ ok, e = .returned (.tuple #[.agg y.c, .bool ok]) ∧ (ok = true → RightG [⟨tn, ta, tcap, tl, tk⟩] ∧ predC tl y.cond.e = 0 ∧ QmS (fun j => w1.heap.size ≤ j) w2 y ∧ ∃ Q, parseL s0 = .ok Q ∧ Red Q ∧ y.cond.e.e = Q.cond.e) := by
  rcases hy with ⟨rfl, _⟩ | ⟨rfl, hR, _, hp, hS, hq⟩
  ·exact ⟨false, rfl, fun h => by cases h⟩
  ·exact ⟨true, rfl, fun _ => ⟨hR, hp, hS, hq⟩⟩
 obtain ⟨ok, rfl, hok⟩ := hE
 have HOK := Lib.hid hok
 have T2 := Lib.hid (blkD hg T1.out)
 have S2 := Lib.hid (blkD hg S1.out)
 have G2 := Lib.hid (G1.out.trans hg)
 have HX2 := Lib.hid hg
 have B5 := Lib.hid (heap_alloc_new w2 (.cells (Qm.z 0).c 37))
 clear hy hok hg t0 t1 t2 t3 t4 t5 s_0 s_1 s_2 s_3
 go_upto_region 2 with (first
  | (refine wpList_store_row rfl 37 (.tmp 7) (.tmp 20) rfl w2.heap.size y.c rfl rfl 37 (Qm.z 0).c B5.out (by rw [Qm.c_size]; exact query_size) (by rw [Qm.c_size, Qm.c_size]) (Qm.c_all _) ?_)
  | fail)
 change Code.wp _ _ _ _ ((w2.alloc (.cells (Qm.z 0).c 37)).setRow w2.heap.size y.c)
 have gS : w2.grownBy ((w2.alloc (.cells (Qm.z 0).c 37)).setRow w2.heap.size y.c) none := grown_thenX (World.grownBy_alloc w2 (.cells (Qm.z 0).c 37) none) (grown_setRow _ _ _) (fun j e => by cases e; exact Nat.le_refl _)
 have R3 : Hid (((w2.alloc (.cells (Qm.z 0).c 37)).setRow w2.heap.size y.c).rangeAt w2.heap.size 3 y.cond.c) := Lib.hid (fun j u hj => by
  rw [cell_of_row _ _ _ _ _ _ (setRow_heap (w2.alloc (.cells (Qm.z 0).c 37)) w2.heap.size (Qm.z 0).c y.c _ _ B5.out)]; exact y.at3 j u hj)
 have T3 := Lib.hid (blkD gS T2.out)
 have S3 := Lib.hid (blkD gS S2.out)
 have G3 := Lib.hid (G2.out.trans gS)
 have GS2 := Lib.hid gS
 clear gS B5 T2 S2
 generalize (w2.alloc (.cells (Qm.z 0).c 37)).setRow w2.heap.size y.c = w3 at *
 obtain ⟨bq, hbq⟩ : ∃ bq, bq = w2.heap.size := ⟨_, rfl⟩
 rw [← hbq] at R3 ⊢
 clear hbq
 obtain ⟨⟨s_0, s_1⟩, s_2, s_3⟩ := two_of S3.out
 obtain ⟨⟨t0, t1, t2⟩, t3, t4, t5⟩ := boxD3 T3.out
 go_wp2_with fail
 refine (HQ.out s1 _ G3.out).mono ?_
 rintro e w4 ⟨hg, v, hy⟩
 have hE : ∃ ok, e = .returned (.tuple #[.agg v.c, .bool ok]) ∧ (ok = true → RightG [⟨tn, ta, tcap, tl, tk⟩] ∧ predC tl v.cond.e = 0 ∧ QmS (fun j => w3.heap.size ≤ j) w4 v ∧ ∃ Q, parseL s1 = .ok Q ∧ Red Q ∧ v.cond.e.e = Q.cond.e) := by
  rcases hy with ⟨rfl, _⟩ | ⟨rfl, hR, _, hp, hS, hq⟩
  ·exact ⟨false, rfl, fun h => by cases h⟩
  ·exact ⟨true, rfl, fun _ => ⟨hR, hp, hS, hq⟩⟩
 obtain ⟨oq, rfl, hok⟩ := hE
 have HOQ := Lib.hid hok
 have T4 := Lib.hid (blkD hg T3.out)
 have S4 := Lib.hid (blkD hg S3.out)
 have G4 := Lib.hid (G3.out.trans hg)
 have HX4 := Lib.hid hg
 have B5 := Lib.hid (heap_alloc_new w4 (.cells (Qm.z 0).c 37))
 clear hy hok hg t0 t1 t2 t3 t4 t5 s_0 s_1 s_2 s_3
 go_upto_region 3 with (first
  | (refine wpList_store_row rfl 37 (.tmp 9) (.tmp 27) rfl w4.heap.size v.c rfl rfl 37 (Qm.z 0).c B5.out (by rw [Qm.c_size]; exact query_size) (by rw [Qm.c_size, Qm.c_size]) (Qm.c_all _) ?_)
  | fail)
 change Code.wp _ _ _ _ ((w4.alloc (.cells (Qm.z 0).c 37)).setRow w4.heap.size v.c)
 have gS : w4.grownBy ((w4.alloc (.cells (Qm.z 0).c 37)).setRow w4.heap.size v.c) none := grown_thenX (World.grownBy_alloc w4 (.cells (Qm.z 0).c 37) none) (grown_setRow _ _ _) (fun j e => by cases e; exact Nat.le_refl _)
 have V5 : Hid (((w4.alloc (.cells (Qm.z 0).c 37)).setRow w4.heap.size v.c).rangeAt w4.heap.size 3 v.cond.c) := Lib.hid (fun j u hj => by
  rw [cell_of_row _ _ _ _ _ _ (setRow_heap (w4.alloc (.cells (Qm.z 0).c 37)) w4.heap.size (Qm.z 0).c v.c _ _ B5.out)]; exact v.at3 j u hj)
 have T5 := Lib.hid (blkD gS T4.out)
 have S5 := Lib.hid (blkD gS S4.out)
 have G5 := Lib.hid (G4.out.trans gS)
 have GS4 := Lib.hid gS
 clear gS B5 T4 S4
 generalize (w4.alloc (.cells (Qm.z 0).c 37)).setRow w4.heap.size v.c = w5 at *
 obtain ⟨bv, hbq⟩ : ∃ bq, bq = w4.heap.size := ⟨_, rfl⟩
 rw [← hbq] at V5 ⊢
 clear hbq
 have R5 : Hid (w5.rangeAt bq 3 y.cond.c) := Lib.hid (fun j u hj => GS4.out.cell (HX4.out.cell (R3.out j u hj) (by simp)) (by simp))
 have H25 := Lib.hid (GS2.out.trans (HX4.out.trans GS4.out))
 clear R3 GS2 HX2 HX4 S5
 cases ok with
 | false =>
  go_wp2_with fail
  refine (HA.out w5).mono ?_
  rintro e w6 ⟨rfl, hg⟩
  have G6 := Lib.hid (G5.out.trans hg)
  clear hg
  go_wp2_with fail
  refine (HA.out w6).mono ?_
  rintro e w7 ⟨rfl, hg⟩
  have G7 := Lib.hid (G6.out.trans hg)
  clear hg
  go_wp2_with fail
  go_ret
  exact ⟨rfl, G7.out⟩
 | true =>
 cases oq with
 | false =>
  go_wp2_with fail
  refine (HA.out w5).mono ?_
  rintro e w6 ⟨rfl, hg⟩
  have G6 := Lib.hid (G5.out.trans hg)
  clear hg
  go_wp2_with fail
  refine (HA.out w6).mono ?_
  rintro e w7 ⟨rfl, hg⟩
  have G7 := Lib.hid (G6.out.trans hg)
  clear hg
  go_wp2_with fail
  go_ret
  exact ⟨rfl, G7.out⟩
 | true =>
  go_wp2_with fail
  refine (HA.out w5).mono ?_
  rintro e w6 ⟨rfl, hg⟩
  have G6 := Lib.hid (G5.out.trans hg)
  have T6 := Lib.hid (blkD hg T5.out)
  have R6 : Hid (w6.rangeAt bq 3 y.cond.c) := Lib.hid (fun j u hj => hg.cell (R5.out j u hj) (by simp))
  have V6 : Hid (w6.rangeAt bv 3 v.cond.c) := Lib.hid (fun j u hj => hg.cell (V5.out j u hj) (by simp))
  have H56 := Lib.hid hg
  obtain ⟨⟨t0, t1, t2⟩, t3, t4, t5⟩ := boxD3 T6.out
  have gB := World.grownBy_alloc w6 (.cells #[.slice ra rn rcap] 26) none
  have HR4 := Lib.hid (HR.out w6.heap.size (w6.alloc (.cells #[.slice ra rn rcap] 26)) (G6.out.trans gB) (heap_alloc_new w6 _))
  have GB := Lib.hid gB
  clear hg gB
  go_wp2_with fail
  refine (HR4.out).mono ?_
  rintro e w7 ⟨⟨bb, rfl, hbb⟩, hg⟩
  have hg7 := GB.out.trans hg
  have G7 := Lib.hid (G6.out.trans hg7)
  have T7 := Lib.hid (blkD hg7 T6.out)
  have R7 : Hid (w7.rangeAt bq 3 y.cond.c) := Lib.hid (fun j u hj => hg7.cell (R6.out j u hj) (by simp))
  have V7 : Hid (w7.rangeAt bv 3 v.cond.c) := Lib.hid (fun j u hj => hg7.cell (V6.out j u hj) (by simp))
  have H57 := Lib.hid (H56.out.trans hg7)
  have HBB := Lib.hid hbb
  clear hg hg7 hbb t0 t1 t2 t3 t4 t5
  cases bb with
  | false =>
   go_wp2_with fail
   refine (HA.out w7).mono ?_
   rintro e w8 ⟨rfl, hg⟩
   have G8 := Lib.hid (G7.out.trans hg)
   clear hg
   go_wp2_with fail
   go_ret
   exact ⟨rfl, G8.out⟩
  | true =>
   obtain ⟨hR, hp, hS, Q, hq, hr, he⟩ := HOK.out (by first | trivial | rfl)
   obtain ⟨_, hp', hS', Q', hq', hr', he'⟩ := HOQ.out (by first | trivial | rfl)
   have hfit := rgt_one (HBB.out.1 (by first | trivial | rfl))
   have hO := PrdOk.of (HNm.out hR) hp hq hr he
   have hO' := PrdOk.of (HNm.out hR) hp' hq' hr' he'
   have hS7 : PmS (fun _ => True) w7 y.cond := (hS.2.1.keep (.of (H25.out.trans H57.out))).mono (fun _ _ _ => trivial)
   have hS7' : PmS (fun _ => True) w7 v.cond := (hS'.2.1.keep (.of (GS4.out.trans H57.out))).mono (fun _ _ _ => trivial)
   have hz := isT_trP tl rv y.cond.e (Prd.gd_w2 _ hO.gd)
   have hz' := isT_trP tl rv v.cond.e (Prd.gd_w2 _ hO'.gd)
   have HPc := Lib.hid (fun (x : Pm) (h1 : x.n ≤ 100000) (h2 : x.e.nod tl) W (hW : w7.grownBy W none) (hx : PmS (fun _ => True) W x) => HP.out hR hfit (fun _ => True) x h1 h2 W (G7.out.trans hW) hx)
   have HPq0 := Lib.hid (fun W (hW : w7.grownBy W none) => HPc.out y.cond (by have := hO.n; omega) hO.nod W hW (hS7.keep (.of hW)))
   have HPv0 := Lib.hid (fun W (hW : w7.grownBy W none) => HPc.out v.cond (by have := hO'.n; omega) hO'.nod W hW (hS7'.keep (.of hW)))
   obtain ⟨c0, c1, c2, c3, c4, c5, c6, c7, c8, c9, hcc⟩ := ten_list y.cond
   obtain ⟨d0, d1, d2, d3, d4, d5, d6, d7, d8, d9, hdd⟩ := ten_list v.cond
   have HAn : Hid (∀ g W, w7.grownBy W none → JnAt g W #[c0, c1, c2, c3, c4, c5, c6, c7, c8, c9, d0, d1, d2, d3, d4, d5, d6, d7, d8, d9] #[d0, d1, d2, d3, d4, d5, d6, d7, d8, d9, c0, c1, c2, c3, c4, c5, c6, c7, c8, c9] → Calls Try.prog 11 #[.agg #[.string tn, .slice ta ln tcap, .int .i64 tk], .agg #[.int .i64 8, .string ⟨#[]⟩, .int .i64 0, .int .i64 0, .int .i64 0, .string ⟨#[]⟩, .string ⟨#[]⟩, .slice none 0 0, .slice (some ⟨g, 0, none⟩) 2 2, .int .i64 0], .slice ra rn rcap] W fun e w' => e = .returned (.bool ((trP tl rv y.cond.e == 1) && (trP tl rv v.cond.e == 1))) ∧ W.grownBy w' none) := Lib.hid (fun g W hW hj => by
    rcases hj with ⟨T, hj⟩ | ⟨T, hj⟩
    ·have h := HPc.out (joinPm 8 g y.cond v.cond) (by have := hO.n; have := hO'.n; rw [joinPm_n]; omega) (joinPm_nod (.inl rfl) hO.nod hO'.nod) W hW (joinPm_S hj (by rw [hcc, hdd]; rfl) (hS7.keep (.of hW)) (hS7'.keep (.of hW)))
     rw [joinPm_and, andT_val hz hz'] at h
     exact h
    ·have h := HPc.out (joinPm 8 g v.cond y.cond) (by have := hO.n; have := hO'.n; rw [joinPm_n]; omega) (joinPm_nod (.inl rfl) hO'.nod hO.nod) W hW (joinPm_S hj (by rw [hcc, hdd]; rfl) (hS7'.keep (.of hW)) (hS7.keep (.of hW)))
     rw [joinPm_and, andT_val hz' hz, Bool.and_comm] at h
     exact h)
   have HOr : Hid (∀ g W, w7.grownBy W none → JnAt g W #[c0, c1, c2, c3, c4, c5, c6, c7, c8, c9, d0, d1, d2, d3, d4, d5, d6, d7, d8, d9] #[d0, d1, d2, d3, d4, d5, d6, d7, d8, d9, c0, c1, c2, c3, c4, c5, c6, c7, c8, c9] → Calls Try.prog 11 #[.agg #[.string tn, .slice ta ln tcap, .int .i64 tk], .agg #[.int .i64 9, .string ⟨#[]⟩, .int .i64 0, .int .i64 0, .int .i64 0, .string ⟨#[]⟩, .string ⟨#[]⟩, .slice none 0 0, .slice (some ⟨g, 0, none⟩) 2 2, .int .i64 0], .slice ra rn rcap] W fun e w' => e = .returned (.bool ((trP tl rv y.cond.e == 1) || (trP tl rv v.cond.e == 1))) ∧ W.grownBy w' none) := Lib.hid (fun g W hW hj => by
    rcases hj with ⟨T, hj⟩ | ⟨T, hj⟩
    ·have h := HPc.out (joinPm 9 g y.cond v.cond) (by have := hO.n; have := hO'.n; rw [joinPm_n]; omega) (joinPm_nod (.inr rfl) hO.nod hO'.nod) W hW (joinPm_S hj (by rw [hcc, hdd]; rfl) (hS7.keep (.of hW)) (hS7'.keep (.of hW)))
     rw [joinPm_or, orT_val hz hz'] at h
     exact h
    ·have h := HPc.out (joinPm 9 g v.cond y.cond) (by have := hO.n; have := hO'.n; rw [joinPm_n]; omega) (joinPm_nod (.inr rfl) hO'.nod hO.nod) W hW (joinPm_S hj (by rw [hcc, hdd]; rfl) (hS7'.keep (.of hW)) (hS7.keep (.of hW)))
     rw [joinPm_or, orT_val hz' hz, Bool.or_comm] at h
     exact h)
   rw [hcc] at HPq0 R7
   rw [hdd] at HPv0 V7
   clear hR hp hS Q hq hr he hp' hS' Q' hq' hr' he' hfit hO hO' hS7 hS7' hz hz' HPc HOK HOQ HBB HP HR HQ HNm HA hcc hdd H25 H57 GS4 R5 V5 R6 V6 T5 T6 T1 S1 T3 S3 H56 GB HR4 G1 G3 G5 G6
   go_upto_region 5 with fail
   generalize (trP tl rv y.cond.e == 1) = a at *
   generalize (trP tl rv v.cond.e == 1) = b at *
   cases a <;> cases b
   ·have HPq : Hid (∀ W, w7.grownBy W none → Calls Try.prog 11 #[.agg #[.string tn, .slice ta ln tcap, .int .i64 tk], .agg #[c0, c1, c2, c3, c4, c5, c6, c7, c8, c9], .slice ra rn rcap] W fun e w' => e = .returned (.bool false) ∧ W.grownBy w' none) := Lib.hid (fun W hW => HPq0.out W hW)
    have HPv : Hid (∀ W, w7.grownBy W none → Calls Try.prog 11 #[.agg #[.string tn, .slice ta ln tcap, .int .i64 tk], .agg #[d0, d1, d2, d3, d4, d5, d6, d7, d8, d9], .slice ra rn rcap] W fun e w' => e = .returned (.bool false) ∧ W.grownBy w' none) := Lib.hid (fun W hW => HPv0.out W hW)
    have HAN : Hid (∀ g W, w7.grownBy W none → JnAt g W #[c0, c1, c2, c3, c4, c5, c6, c7, c8, c9, d0, d1, d2, d3, d4, d5, d6, d7, d8, d9] #[d0, d1, d2, d3, d4, d5, d6, d7, d8, d9, c0, c1, c2, c3, c4, c5, c6, c7, c8, c9] → Calls Try.prog 11 #[.agg #[.string tn, .slice ta ln tcap, .int .i64 tk], .agg #[.int .i64 8, .string ⟨#[]⟩, .int .i64 0, .int .i64 0, .int .i64 0, .string ⟨#[]⟩, .string ⟨#[]⟩, .slice none 0 0, .slice (some ⟨g, 0, none⟩) 2 2, .int .i64 0], .slice ra rn rcap] W fun e w' => e = .returned (.bool false) ∧ W.grownBy w' none) := Lib.hid (fun g W hW h => HAn.out g W hW h)
    have HON : Hid (∀ g W, w7.grownBy W none → JnAt g W #[c0, c1, c2, c3, c4, c5, c6, c7, c8, c9, d0, d1, d2, d3, d4, d5, d6, d7, d8, d9] #[d0, d1, d2, d3, d4, d5, d6, d7, d8, d9, c0, c1, c2, c3, c4, c5, c6, c7, c8, c9] → Calls Try.prog 11 #[.agg #[.string tn, .slice ta ln tcap, .int .i64 tk], .agg #[.int .i64 9, .string ⟨#[]⟩, .int .i64 0, .int .i64 0, .int .i64 0, .string ⟨#[]⟩, .string ⟨#[]⟩, .slice none 0 0, .slice (some ⟨g, 0, none⟩) 2 2, .int .i64 0], .slice ra rn rcap] W fun e w' => e = .returned (.bool false) ∧ W.grownBy w' none) := Lib.hid (fun g W hW h => HOr.out g W hW h)
    clear HPq0 HPv0 HAn HOr
    refine wp_region_held_drew (S := (fun W => Hid (w7.grownBy W none))) (by kernel_rfl) (Lib.hid (grown_drewT (grown_reflX w7 none))) (fun hHeld => ?_)
    refine TKA (i := 0) (v := .agg #[.string tn, .slice ta ln tcap, .int .i64 tk]) rfl (yieldsIf_load_mid (by rfl) _ _ rfl (gs + 1) 0 rfl _ _ (fun W hS => range_rowD (blkD hS.out T7.out)) Try.underlying24 rfl tab_size) ?_
    simp only [Act.put, List.getElem_toArray, List.getElem_cons_succ, List.getElem_cons_zero, List.size_toArray, List.length_cons, List.length_nil, Nat.reduceAdd, Array.replicate, List.replicate, List.setIfInBounds_toArray, List.set_cons_zero, List.set_cons_succ]
    refine TKA (i := 5) (v := .agg #[.string tn, .slice ta ln tcap, .int .i64 tk]) rfl (yieldsIf_load_mid (by rfl) _ _ rfl (gs + 1) 0 rfl _ _ (fun W hS => range_rowD (blkD hS.out T7.out)) Try.underlying24 rfl tab_size) ?_
    simp only [Act.put, List.getElem_toArray, List.getElem_cons_succ, List.getElem_cons_zero, List.size_toArray, List.length_cons, List.length_nil, Nat.reduceAdd, Array.replicate, List.replicate, List.setIfInBounds_toArray, List.set_cons_zero, List.set_cons_succ]
    refine TKB (i := 1) (v := ?vaz) rfl ?yaz ?raz
    case yaz => (intro w hSw; (try dsimp only at hSw); go_simp; try with_reducible rfl)
    simp only [Act.put, List.getElem_toArray, List.getElem_cons_succ, List.getElem_cons_zero, List.size_toArray, List.length_cons, List.length_nil, Nat.reduceAdd, Array.replicate, List.replicate, List.setIfInBounds_toArray, List.set_cons_zero, List.set_cons_succ]
    refine TKA (i := 2) (v := .agg #[c0, c1, c2, c3, c4, c5, c6, c7, c8, c9]) rfl (yieldsIf_load_mid (by rfl) _ _ rfl bq 3 rfl [c0, c1, c2, c3, c4, c5, c6, c7, c8, c9] _ (fun W hS => fun j u hj => hS.out.cell (R7.out j u hj) (by simp)) Try.underlying34 rfl pred_size) ?_
    simp only [Act.put, List.getElem_toArray, List.getElem_cons_succ, List.getElem_cons_zero, List.size_toArray, List.length_cons, List.length_nil, Nat.reduceAdd, Array.replicate, List.replicate, List.setIfInBounds_toArray, List.set_cons_zero, List.set_cons_succ]
    refine TKB (i := 3) (v := ?vbz) rfl ?ybz ?rbz
    case ybz => (intro w hSw; (try dsimp only at hSw); go_simp; try with_reducible rfl)
    simp only [Act.put, List.getElem_toArray, List.getElem_cons_succ, List.getElem_cons_zero, List.size_toArray, List.length_cons, List.length_nil, Nat.reduceAdd, Array.replicate, List.replicate, List.setIfInBounds_toArray, List.set_cons_zero, List.set_cons_succ]
    refine TKB (i := 6) (v := ?vcz) rfl ?ycz ?rcz
    case ycz => (intro w hSw; (try dsimp only at hSw); go_simp; try with_reducible rfl)
    simp only [Act.put, List.getElem_toArray, List.getElem_cons_succ, List.getElem_cons_zero, List.size_toArray, List.length_cons, List.length_nil, Nat.reduceAdd, Array.replicate, List.replicate, List.setIfInBounds_toArray, List.set_cons_zero, List.set_cons_succ]
    refine TKA (i := 7) (v := .agg #[d0, d1, d2, d3, d4, d5, d6, d7, d8, d9]) rfl (yieldsIf_load_mid (by rfl) _ _ rfl bv 3 rfl [d0, d1, d2, d3, d4, d5, d6, d7, d8, d9] _ (fun W hS => fun j u hj => hS.out.cell (V7.out j u hj) (by simp)) Try.underlying34 rfl pred_size) ?_
    simp only [Act.put, List.getElem_toArray, List.getElem_cons_succ, List.getElem_cons_zero, List.size_toArray, List.length_cons, List.length_nil, Nat.reduceAdd, Array.replicate, List.replicate, List.setIfInBounds_toArray, List.set_cons_zero, List.set_cons_succ]
    refine TKB (i := 8) (v := ?vdz) rfl ?ydz ?rdz
    case ydz => (intro w hSw; (try dsimp only at hSw); go_simp; try with_reducible rfl)
    simp only [Act.put, List.getElem_toArray, List.getElem_cons_succ, List.getElem_cons_zero, List.size_toArray, List.length_cons, List.length_nil, Nat.reduceAdd, Array.replicate, List.replicate, List.setIfInBounds_toArray, List.set_cons_zero, List.set_cons_succ]
    refine RD1 (i := 4) rfl (fun K' hK => ?_)
    go_simp
    go_at_call 11
    refine (HPq.out _ (grown_drewT (grown_reflX w7 none))).mono ?_
    rintro e w8 ⟨rfl, hg⟩
    have Z8 : Hid (w7.grownBy w8 none) := Lib.hid ((grown_drewT (grown_reflX w7 none)).trans hg)
    clear hg
    refine hK.out _ _ Z8 (fun hHeld => ?_)
    clear hK K'
    simp only [Act.put, List.getElem_toArray, List.getElem_cons_succ, List.getElem_cons_zero, List.size_toArray, List.length_cons, List.length_nil, Nat.reduceAdd, Array.replicate, List.replicate, List.setIfInBounds_toArray, List.set_cons_zero, List.set_cons_succ]
    refine RD1 (i := 9) rfl (fun K' hK => ?_)
    go_simp
    go_at_call 11
    refine (HPv.out _ Z8.out).mono ?_
    rintro e w9 ⟨rfl, hg⟩
    have Z9 : Hid (w7.grownBy w9 none) := Lib.hid (Z8.out.trans hg)
    clear hg
    refine hK.out _ _ Z9 (fun hHeld => ?_)
    clear hK K'
    simp only [Act.put, List.getElem_toArray, List.getElem_cons_succ, List.getElem_cons_zero, List.size_toArray, List.length_cons, List.length_nil, Nat.reduceAdd, Array.replicate, List.replicate, List.setIfInBounds_toArray, List.set_cons_zero, List.set_cons_succ]
    refine TKB (i := 10) (v := ?vez) rfl ?yez ?rez
    case yez => (intro w hSw; (try dsimp only at hSw); go_simp; try with_reducible rfl)
    simp only [Act.put, List.getElem_toArray, List.getElem_cons_succ, List.getElem_cons_zero, List.size_toArray, List.length_cons, List.length_nil, Nat.reduceAdd, Array.replicate, List.replicate, List.setIfInBounds_toArray, List.set_cons_zero, List.set_cons_succ]
    refine TKB (i := 11) (v := ?vfz) rfl ?yfz ?rfz
    case yfz => (intro w hSw; (try dsimp only at hSw); go_simp; try with_reducible rfl)
    simp only [Act.put, List.getElem_toArray, List.getElem_cons_succ, List.getElem_cons_zero, List.size_toArray, List.length_cons, List.length_nil, Nat.reduceAdd, Array.replicate, List.replicate, List.setIfInBounds_toArray, List.set_cons_zero, List.set_cons_succ]
    refine wpAnyH_done (by kernel_rfl) ?_ _
    have R9 : Hid (w9.rangeAt bq 3 [c0, c1, c2, c3, c4, c5, c6, c7, c8, c9]) := Lib.hid (fun j u hj => Z9.out.cell (R7.out j u hj) (by simp))
    have V9 : Hid (w9.rangeAt bv 3 [d0, d1, d2, d3, d4, d5, d6, d7, d8, d9]) := Lib.hid (fun j u hj => Z9.out.cell (V7.out j u hj) (by simp))
    have T9 := Lib.hid (blkD Z9.out T7.out)
    have R10 : Hid ((w9.alloc (.cells #[c0, c1, c2, c3, c4, c5, c6, c7, c8, c9, d0, d1, d2, d3, d4, d5, d6, d7, d8, d9] 34)).rangeAt bq 3 [c0, c1, c2, c3, c4, c5, c6, c7, c8, c9]) := Lib.hid (fun j u hj => (World.grownBy_alloc w9 (.cells #[c0, c1, c2, c3, c4, c5, c6, c7, c8, c9, d0, d1, d2, d3, d4, d5, d6, d7, d8, d9] 34) none).cell (R9.out j u hj) (by simp))
    have V10 : Hid ((w9.alloc (.cells #[c0, c1, c2, c3, c4, c5, c6, c7, c8, c9, d0, d1, d2, d3, d4, d5, d6, d7, d8, d9] 34)).rangeAt bv 3 [d0, d1, d2, d3, d4, d5, d6, d7, d8, d9]) := Lib.hid (fun j u hj => (World.grownBy_alloc w9 (.cells #[c0, c1, c2, c3, c4, c5, c6, c7, c8, c9, d0, d1, d2, d3, d4, d5, d6, d7, d8, d9] 34) none).cell (V9.out j u hj) (by simp))
    clear HPq HPv R7 V7 T7 Z8
    try clear hHeld
    go_upto_region 7 with (first
     | (refine wpList_load_midGs (by rfl) 34 (.tmp 57) rfl bq 3 rfl [c0, c1, c2, c3, c4, c5, c6, c7, c8, c9] _ R9.out Try.underlying34 rfl pred_size ?_)
     | (refine wpList_load_midGs (by rfl) 34 (.tmp 59) rfl bv 3 rfl [d0, d1, d2, d3, d4, d5, d6, d7, d8, d9] _ V9.out Try.underlying34 rfl pred_size ?_)
     | (refine wpList_load_midGs (by rfl) 34 (.tmp 62) rfl bv 3 rfl [d0, d1, d2, d3, d4, d5, d6, d7, d8, d9] _ V10.out Try.underlying34 rfl pred_size ?_)
     | (refine wpList_load_midGs (by rfl) 34 (.tmp 64) rfl bq 3 rfl [c0, c1, c2, c3, c4, c5, c6, c7, c8, c9] _ R10.out Try.underlying34 rfl pred_size ?_)
     | fail)
    change Code.wp _ _ _ _ ((w9.alloc (.cells #[c0, c1, c2, c3, c4, c5, c6, c7, c8, c9, d0, d1, d2, d3, d4, d5, d6, d7, d8, d9] 34)).alloc (.cells #[d0, d1, d2, d3, d4, d5, d6, d7, d8, d9, c0, c1, c2, c3, c4, c5, c6, c7, c8, c9] 34))
    have hK1 : ((w9.alloc (.cells #[c0, c1, c2, c3, c4, c5, c6, c7, c8, c9, d0, d1, d2, d3, d4, d5, d6, d7, d8, d9] 34)).alloc (.cells #[d0, d1, d2, d3, d4, d5, d6, d7, d8, d9, c0, c1, c2, c3, c4, c5, c6, c7, c8, c9] 34)).heap[w9.heap.size]? = some (.cells #[c0, c1, c2, c3, c4, c5, c6, c7, c8, c9, d0, d1, d2, d3, d4, d5, d6, d7, d8, d9] 34 (0, 0)) := blkD (World.grownBy_alloc _ _ none) (heap_alloc_new w9 _)
    have hK2 : ((w9.alloc (.cells #[c0, c1, c2, c3, c4, c5, c6, c7, c8, c9, d0, d1, d2, d3, d4, d5, d6, d7, d8, d9] 34)).alloc (.cells #[d0, d1, d2, d3, d4, d5, d6, d7, d8, d9, c0, c1, c2, c3, c4, c5, c6, c7, c8, c9] 34)).heap[w9.heap.size + 1]? = some (.cells #[d0, d1, d2, d3, d4, d5, d6, d7, d8, d9, c0, c1, c2, c3, c4, c5, c6, c7, c8, c9] 34 (0, 0)) := by have := heap_alloc_new (w9.alloc (.cells #[c0, c1, c2, c3, c4, c5, c6, c7, c8, c9, d0, d1, d2, d3, d4, d5, d6, d7, d8, d9] 34)) (.cells #[d0, d1, d2, d3, d4, d5, d6, d7, d8, d9, c0, c1, c2, c3, c4, c5, c6, c7, c8, c9] 34); rw [World.size_alloc] at this; exact this
    have hG : w9.grownBy ((w9.alloc (.cells #[c0, c1, c2, c3, c4, c5, c6, c7, c8, c9, d0, d1, d2, d3, d4, d5, d6, d7, d8, d9] 34)).alloc (.cells #[d0, d1, d2, d3, d4, d5, d6, d7, d8, d9, c0, c1, c2, c3, c4, c5, c6, c7, c8, c9] 34)) none := (World.grownBy_alloc _ _ none).trans (World.grownBy_alloc _ _ none)
    generalize (w9.alloc (.cells #[c0, c1, c2, c3, c4, c5, c6, c7, c8, c9, d0, d1, d2, d3, d4, d5, d6, d7, d8, d9] 34)).alloc (.cells #[d0, d1, d2, d3, d4, d5, d6, d7, d8, d9, c0, c1, c2, c3, c4, c5, c6, c7, c8, c9] 34) = w11 at *
    obtain ⟨g9, hg9⟩ : ∃ g9, g9 = w9.heap.size := ⟨_, rfl⟩
    rw [← hg9] at hK1 hK2 ⊢
    have J1 : Hid (JnAt g9 w11 #[c0, c1, c2, c3, c4, c5, c6, c7, c8, c9, d0, d1, d2, d3, d4, d5, d6, d7, d8, d9] #[d0, d1, d2, d3, d4, d5, d6, d7, d8, d9, c0, c1, c2, c3, c4, c5, c6, c7, c8, c9]) := Lib.hid (.inl ⟨_, hK1⟩)
    have J2 : Hid (JnAt (g9 + 1) w11 #[c0, c1, c2, c3, c4, c5, c6, c7, c8, c9, d0, d1, d2, d3, d4, d5, d6, d7, d8, d9] #[d0, d1, d2, d3, d4, d5, d6, d7, d8, d9, c0, c1, c2, c3, c4, c5, c6, c7, c8, c9]) := Lib.hid (.inr ⟨_, hK2⟩)
    have Z11 := Lib.hid (Z9.out.trans hG)
    have T11 := Lib.hid (blkD hG T9.out)
    have G11 := Lib.hid (G7.out.trans Z11.out)
    clear hK1 hK2 hG hg9 R9 V9 R10 V10 T9 Z9 G7
    go_loopw [68] (fun s68 wr => ∃ k : Nat, s68 = .int .i64 k ∧ k ≤ 2 ∧ Hid (w11.grownBy wr none)) (fun s68 _ => 2 - (intOf s68).toNat)
    case atStart => exact ⟨0, rfl, by omega, Lib.hid (grown_reflT _ _)⟩
    case round =>
     obtain ⟨k, rfl, hk, K⟩ := hrel
     by_cases hlt : k < 2
     ·go_upto_region 8 with fail
      go_cut [14] from 70 to 71 (fun s14 wx => ∃ g : Nat, s14 = .slice (some ⟨g, 0, none⟩) 2 2 ∧ Hid (g = g9 ∨ g = g9 + 1) ∧ Hid (w11.grownBy wx none))
      case first =>
       have hk2 : k = 0 ∨ k = 1 := by omega
       rcases hk2 with rfl | rfl
       ·have ix : ∀ w, (Instr.index 48 (.agg #[.slice (some ⟨g9, 0, none⟩) 2 2, .slice (some ⟨g9 + 1, 0, none⟩) 2 2]) (.int .i64 0)).run Try.prog w = .ok (.slice (some ⟨g9, 0, none⟩) 2 2) w := fun _ => by kernel_rfl
        rw [show ((0 : Nat) : Int) = 0 from rfl]
        go_wp2_with fail
        go_meet
        case rel => exact ⟨_, rfl, Lib.hid (.inl rfl), Lib.hid K.out⟩
       ·have ix : ∀ w, (Instr.index 48 (.agg #[.slice (some ⟨g9, 0, none⟩) 2 2, .slice (some ⟨g9 + 1, 0, none⟩) 2 2]) (.int .i64 1)).run Try.prog w = .ok (.slice (some ⟨g9 + 1, 0, none⟩) 2 2) w := fun _ => by kernel_rfl
        rw [show ((1 : Nat) : Int) = 1 from rfl]
        go_wp2_with fail
        go_meet
        case rel => exact ⟨_, rfl, Lib.hid (.inr rfl), Lib.hid K.out⟩
      case rest =>
      obtain ⟨g, rfl, HG, K2⟩ := hcut
      rename World => w12
      have JW : Hid (∀ W, w12.grownBy W none → JnAt g W #[c0, c1, c2, c3, c4, c5, c6, c7, c8, c9, d0, d1, d2, d3, d4, d5, d6, d7, d8, d9] #[d0, d1, d2, d3, d4, d5, d6, d7, d8, d9, c0, c1, c2, c3, c4, c5, c6, c7, c8, c9]) := Lib.hid (fun W hW => HG.out.elim (fun e => by rw [e]; exact J1.out.keep (K2.out.trans hW)) (fun e => by rw [e]; exact J2.out.keep (K2.out.trans hW)))
      have Z12 := Lib.hid (Z11.out.trans K2.out)
      have HA1 := Lib.hid (fun W (hW : w12.grownBy W none) => HAN.out g W (Z12.out.trans hW) (JW.out W hW))
      have HO1 := Lib.hid (fun W (hW : w12.grownBy W none) => HON.out g W (Z12.out.trans hW) (JW.out W hW))
      have T12 := Lib.hid (blkD K2.out T11.out)
      clear HG K JW
      obtain ⟨⟨t0, t1, t2⟩, t3, t4, t5⟩ := boxD3 T12.out
      go_wp2_with fail
      refine (HA1.out _ (grown_reflT _ _)).mono ?_
      rintro e w13 ⟨rfl, hg⟩
      have T13 := Lib.hid (blkD hg T12.out)
      have H13 := Lib.hid hg
      clear hg t0 t1 t2 t3 t4 t5
      obtain ⟨⟨t0, t1, t2⟩, t3, t4, t5⟩ := boxD3 T13.out
      go_wp2_with fail
      refine (HO1.out _ H13.out).mono ?_
      rintro e w14 ⟨rfl, hg⟩
      have K14 := Lib.hid (K2.out.trans (H13.out.trans hg))
      clear hg t0 t1 t2 t3 t4 t5
      go_wp2_with fail
      go_roundw
      case rel => exact ⟨k + 1, by go_num, by omega, K14⟩
      case measure => simp [intOf]; omega
     ·obtain rfl : k = 2 := by omega
      have G12 := Lib.hid (G11.out.trans K.out)
      go_wp2_with fail
      go_ret
      exact ⟨rfl, G12.out⟩
   ·have HPq : Hid (∀ W, w7.grownBy W none → Calls Try.prog 11 #[.agg #[.string tn, .slice ta ln tcap, .int .i64 tk], .agg #[c0, c1, c2, c3, c4, c5, c6, c7, c8, c9], .slice ra rn rcap] W fun e w' => e = .returned (.bool false) ∧ W.grownBy w' none) := Lib.hid (fun W hW => HPq0.out W hW)
    have HPv : Hid (∀ W, w7.grownBy W none → Calls Try.prog 11 #[.agg #[.string tn, .slice ta ln tcap, .int .i64 tk], .agg #[d0, d1, d2, d3, d4, d5, d6, d7, d8, d9], .slice ra rn rcap] W fun e w' => e = .returned (.bool true) ∧ W.grownBy w' none) := Lib.hid (fun W hW => HPv0.out W hW)
    have HAN : Hid (∀ g W, w7.grownBy W none → JnAt g W #[c0, c1, c2, c3, c4, c5, c6, c7, c8, c9, d0, d1, d2, d3, d4, d5, d6, d7, d8, d9] #[d0, d1, d2, d3, d4, d5, d6, d7, d8, d9, c0, c1, c2, c3, c4, c5, c6, c7, c8, c9] → Calls Try.prog 11 #[.agg #[.string tn, .slice ta ln tcap, .int .i64 tk], .agg #[.int .i64 8, .string ⟨#[]⟩, .int .i64 0, .int .i64 0, .int .i64 0, .string ⟨#[]⟩, .string ⟨#[]⟩, .slice none 0 0, .slice (some ⟨g, 0, none⟩) 2 2, .int .i64 0], .slice ra rn rcap] W fun e w' => e = .returned (.bool false) ∧ W.grownBy w' none) := Lib.hid (fun g W hW h => HAn.out g W hW h)
    have HON : Hid (∀ g W, w7.grownBy W none → JnAt g W #[c0, c1, c2, c3, c4, c5, c6, c7, c8, c9, d0, d1, d2, d3, d4, d5, d6, d7, d8, d9] #[d0, d1, d2, d3, d4, d5, d6, d7, d8, d9, c0, c1, c2, c3, c4, c5, c6, c7, c8, c9] → Calls Try.prog 11 #[.agg #[.string tn, .slice ta ln tcap, .int .i64 tk], .agg #[.int .i64 9, .string ⟨#[]⟩, .int .i64 0, .int .i64 0, .int .i64 0, .string ⟨#[]⟩, .string ⟨#[]⟩, .slice none 0 0, .slice (some ⟨g, 0, none⟩) 2 2, .int .i64 0], .slice ra rn rcap] W fun e w' => e = .returned (.bool true) ∧ W.grownBy w' none) := Lib.hid (fun g W hW h => HOr.out g W hW h)
    clear HPq0 HPv0 HAn HOr
    refine wp_region_held_drew (S := (fun W => Hid (w7.grownBy W none))) (by kernel_rfl) (Lib.hid (grown_drewT (grown_reflX w7 none))) (fun hHeld => ?_)
    refine TKA (i := 0) (v := .agg #[.string tn, .slice ta ln tcap, .int .i64 tk]) rfl (yieldsIf_load_mid (by rfl) _ _ rfl (gs + 1) 0 rfl _ _ (fun W hS => range_rowD (blkD hS.out T7.out)) Try.underlying24 rfl tab_size) ?_
    simp only [Act.put, List.getElem_toArray, List.getElem_cons_succ, List.getElem_cons_zero, List.size_toArray, List.length_cons, List.length_nil, Nat.reduceAdd, Array.replicate, List.replicate, List.setIfInBounds_toArray, List.set_cons_zero, List.set_cons_succ]
    refine TKA (i := 5) (v := .agg #[.string tn, .slice ta ln tcap, .int .i64 tk]) rfl (yieldsIf_load_mid (by rfl) _ _ rfl (gs + 1) 0 rfl _ _ (fun W hS => range_rowD (blkD hS.out T7.out)) Try.underlying24 rfl tab_size) ?_
    simp only [Act.put, List.getElem_toArray, List.getElem_cons_succ, List.getElem_cons_zero, List.size_toArray, List.length_cons, List.length_nil, Nat.reduceAdd, Array.replicate, List.replicate, List.setIfInBounds_toArray, List.set_cons_zero, List.set_cons_succ]
    refine TKB (i := 1) (v := ?vgz) rfl ?ygz ?rgz
    case ygz => (intro w hSw; (try dsimp only at hSw); go_simp; try with_reducible rfl)
    simp only [Act.put, List.getElem_toArray, List.getElem_cons_succ, List.getElem_cons_zero, List.size_toArray, List.length_cons, List.length_nil, Nat.reduceAdd, Array.replicate, List.replicate, List.setIfInBounds_toArray, List.set_cons_zero, List.set_cons_succ]
    refine TKA (i := 2) (v := .agg #[c0, c1, c2, c3, c4, c5, c6, c7, c8, c9]) rfl (yieldsIf_load_mid (by rfl) _ _ rfl bq 3 rfl [c0, c1, c2, c3, c4, c5, c6, c7, c8, c9] _ (fun W hS => fun j u hj => hS.out.cell (R7.out j u hj) (by simp)) Try.underlying34 rfl pred_size) ?_
    simp only [Act.put, List.getElem_toArray, List.getElem_cons_succ, List.getElem_cons_zero, List.size_toArray, List.length_cons, List.length_nil, Nat.reduceAdd, Array.replicate, List.replicate, List.setIfInBounds_toArray, List.set_cons_zero, List.set_cons_succ]
    refine TKB (i := 3) (v := ?vhz) rfl ?yhz ?rhz
    case yhz => (intro w hSw; (try dsimp only at hSw); go_simp; try with_reducible rfl)
    simp only [Act.put, List.getElem_toArray, List.getElem_cons_succ, List.getElem_cons_zero, List.size_toArray, List.length_cons, List.length_nil, Nat.reduceAdd, Array.replicate, List.replicate, List.setIfInBounds_toArray, List.set_cons_zero, List.set_cons_succ]
    refine TKB (i := 6) (v := ?viz) rfl ?yiz ?riz
    case yiz => (intro w hSw; (try dsimp only at hSw); go_simp; try with_reducible rfl)
    simp only [Act.put, List.getElem_toArray, List.getElem_cons_succ, List.getElem_cons_zero, List.size_toArray, List.length_cons, List.length_nil, Nat.reduceAdd, Array.replicate, List.replicate, List.setIfInBounds_toArray, List.set_cons_zero, List.set_cons_succ]
    refine TKA (i := 7) (v := .agg #[d0, d1, d2, d3, d4, d5, d6, d7, d8, d9]) rfl (yieldsIf_load_mid (by rfl) _ _ rfl bv 3 rfl [d0, d1, d2, d3, d4, d5, d6, d7, d8, d9] _ (fun W hS => fun j u hj => hS.out.cell (V7.out j u hj) (by simp)) Try.underlying34 rfl pred_size) ?_
    simp only [Act.put, List.getElem_toArray, List.getElem_cons_succ, List.getElem_cons_zero, List.size_toArray, List.length_cons, List.length_nil, Nat.reduceAdd, Array.replicate, List.replicate, List.setIfInBounds_toArray, List.set_cons_zero, List.set_cons_succ]
    refine TKB (i := 8) (v := ?vjz) rfl ?yjz ?rjz
    case yjz => (intro w hSw; (try dsimp only at hSw); go_simp; try with_reducible rfl)
    simp only [Act.put, List.getElem_toArray, List.getElem_cons_succ, List.getElem_cons_zero, List.size_toArray, List.length_cons, List.length_nil, Nat.reduceAdd, Array.replicate, List.replicate, List.setIfInBounds_toArray, List.set_cons_zero, List.set_cons_succ]
    refine RD1 (i := 4) rfl (fun K' hK => ?_)
    go_simp
    go_at_call 11
    refine (HPq.out _ (grown_drewT (grown_reflX w7 none))).mono ?_
    rintro e w8 ⟨rfl, hg⟩
    have Z8 : Hid (w7.grownBy w8 none) := Lib.hid ((grown_drewT (grown_reflX w7 none)).trans hg)
    clear hg
    refine hK.out _ _ Z8 (fun hHeld => ?_)
    clear hK K'
    simp only [Act.put, List.getElem_toArray, List.getElem_cons_succ, List.getElem_cons_zero, List.size_toArray, List.length_cons, List.length_nil, Nat.reduceAdd, Array.replicate, List.replicate, List.setIfInBounds_toArray, List.set_cons_zero, List.set_cons_succ]
    refine RD1 (i := 9) rfl (fun K' hK => ?_)
    go_simp
    go_at_call 11
    refine (HPv.out _ Z8.out).mono ?_
    rintro e w9 ⟨rfl, hg⟩
    have Z9 : Hid (w7.grownBy w9 none) := Lib.hid (Z8.out.trans hg)
    clear hg
    refine hK.out _ _ Z9 (fun hHeld => ?_)
    clear hK K'
    simp only [Act.put, List.getElem_toArray, List.getElem_cons_succ, List.getElem_cons_zero, List.size_toArray, List.length_cons, List.length_nil, Nat.reduceAdd, Array.replicate, List.replicate, List.setIfInBounds_toArray, List.set_cons_zero, List.set_cons_succ]
    refine TKB (i := 10) (v := ?vkz) rfl ?ykz ?rkz
    case ykz => (intro w hSw; (try dsimp only at hSw); go_simp; try with_reducible rfl)
    simp only [Act.put, List.getElem_toArray, List.getElem_cons_succ, List.getElem_cons_zero, List.size_toArray, List.length_cons, List.length_nil, Nat.reduceAdd, Array.replicate, List.replicate, List.setIfInBounds_toArray, List.set_cons_zero, List.set_cons_succ]
    refine TKB (i := 11) (v := ?vlz) rfl ?ylz ?rlz
    case ylz => (intro w hSw; (try dsimp only at hSw); go_simp; try with_reducible rfl)
    simp only [Act.put, List.getElem_toArray, List.getElem_cons_succ, List.getElem_cons_zero, List.size_toArray, List.length_cons, List.length_nil, Nat.reduceAdd, Array.replicate, List.replicate, List.setIfInBounds_toArray, List.set_cons_zero, List.set_cons_succ]
    refine wpAnyH_done (by kernel_rfl) ?_ _
    have R9 : Hid (w9.rangeAt bq 3 [c0, c1, c2, c3, c4, c5, c6, c7, c8, c9]) := Lib.hid (fun j u hj => Z9.out.cell (R7.out j u hj) (by simp))
    have V9 : Hid (w9.rangeAt bv 3 [d0, d1, d2, d3, d4, d5, d6, d7, d8, d9]) := Lib.hid (fun j u hj => Z9.out.cell (V7.out j u hj) (by simp))
    have T9 := Lib.hid (blkD Z9.out T7.out)
    have R10 : Hid ((w9.alloc (.cells #[c0, c1, c2, c3, c4, c5, c6, c7, c8, c9, d0, d1, d2, d3, d4, d5, d6, d7, d8, d9] 34)).rangeAt bq 3 [c0, c1, c2, c3, c4, c5, c6, c7, c8, c9]) := Lib.hid (fun j u hj => (World.grownBy_alloc w9 (.cells #[c0, c1, c2, c3, c4, c5, c6, c7, c8, c9, d0, d1, d2, d3, d4, d5, d6, d7, d8, d9] 34) none).cell (R9.out j u hj) (by simp))
    have V10 : Hid ((w9.alloc (.cells #[c0, c1, c2, c3, c4, c5, c6, c7, c8, c9, d0, d1, d2, d3, d4, d5, d6, d7, d8, d9] 34)).rangeAt bv 3 [d0, d1, d2, d3, d4, d5, d6, d7, d8, d9]) := Lib.hid (fun j u hj => (World.grownBy_alloc w9 (.cells #[c0, c1, c2, c3, c4, c5, c6, c7, c8, c9, d0, d1, d2, d3, d4, d5, d6, d7, d8, d9] 34) none).cell (V9.out j u hj) (by simp))
    clear HPq HPv R7 V7 T7 Z8
    try clear hHeld
    go_upto_region 7 with (first
     | (refine wpList_load_midGs (by rfl) 34 (.tmp 57) rfl bq 3 rfl [c0, c1, c2, c3, c4, c5, c6, c7, c8, c9] _ R9.out Try.underlying34 rfl pred_size ?_)
     | (refine wpList_load_midGs (by rfl) 34 (.tmp 59) rfl bv 3 rfl [d0, d1, d2, d3, d4, d5, d6, d7, d8, d9] _ V9.out Try.underlying34 rfl pred_size ?_)
     | (refine wpList_load_midGs (by rfl) 34 (.tmp 62) rfl bv 3 rfl [d0, d1, d2, d3, d4, d5, d6, d7, d8, d9] _ V10.out Try.underlying34 rfl pred_size ?_)
     | (refine wpList_load_midGs (by rfl) 34 (.tmp 64) rfl bq 3 rfl [c0, c1, c2, c3, c4, c5, c6, c7, c8, c9] _ R10.out Try.underlying34 rfl pred_size ?_)
     | fail)
    change Code.wp _ _ _ _ ((w9.alloc (.cells #[c0, c1, c2, c3, c4, c5, c6, c7, c8, c9, d0, d1, d2, d3, d4, d5, d6, d7, d8, d9] 34)).alloc (.cells #[d0, d1, d2, d3, d4, d5, d6, d7, d8, d9, c0, c1, c2, c3, c4, c5, c6, c7, c8, c9] 34))
    have hK1 : ((w9.alloc (.cells #[c0, c1, c2, c3, c4, c5, c6, c7, c8, c9, d0, d1, d2, d3, d4, d5, d6, d7, d8, d9] 34)).alloc (.cells #[d0, d1, d2, d3, d4, d5, d6, d7, d8, d9, c0, c1, c2, c3, c4, c5, c6, c7, c8, c9] 34)).heap[w9.heap.size]? = some (.cells #[c0, c1, c2, c3, c4, c5, c6, c7, c8, c9, d0, d1, d2, d3, d4, d5, d6, d7, d8, d9] 34 (0, 0)) := blkD (World.grownBy_alloc _ _ none) (heap_alloc_new w9 _)
    have hK2 : ((w9.alloc (.cells #[c0, c1, c2, c3, c4, c5, c6, c7, c8, c9, d0, d1, d2, d3, d4, d5, d6, d7, d8, d9] 34)).alloc (.cells #[d0, d1, d2, d3, d4, d5, d6, d7, d8, d9, c0, c1, c2, c3, c4, c5, c6, c7, c8, c9] 34)).heap[w9.heap.size + 1]? = some (.cells #[d0, d1, d2, d3, d4, d5, d6, d7, d8, d9, c0, c1, c2, c3, c4, c5, c6, c7, c8, c9] 34 (0, 0)) := by have := heap_alloc_new (w9.alloc (.cells #[c0, c1, c2, c3, c4, c5, c6, c7, c8, c9, d0, d1, d2, d3, d4, d5, d6, d7, d8, d9] 34)) (.cells #[d0, d1, d2, d3, d4, d5, d6, d7, d8, d9, c0, c1, c2, c3, c4, c5, c6, c7, c8, c9] 34); rw [World.size_alloc] at this; exact this
    have hG : w9.grownBy ((w9.alloc (.cells #[c0, c1, c2, c3, c4, c5, c6, c7, c8, c9, d0, d1, d2, d3, d4, d5, d6, d7, d8, d9] 34)).alloc (.cells #[d0, d1, d2, d3, d4, d5, d6, d7, d8, d9, c0, c1, c2, c3, c4, c5, c6, c7, c8, c9] 34)) none := (World.grownBy_alloc _ _ none).trans (World.grownBy_alloc _ _ none)
    generalize (w9.alloc (.cells #[c0, c1, c2, c3, c4, c5, c6, c7, c8, c9, d0, d1, d2, d3, d4, d5, d6, d7, d8, d9] 34)).alloc (.cells #[d0, d1, d2, d3, d4, d5, d6, d7, d8, d9, c0, c1, c2, c3, c4, c5, c6, c7, c8, c9] 34) = w11 at *
    obtain ⟨g9, hg9⟩ : ∃ g9, g9 = w9.heap.size := ⟨_, rfl⟩
    rw [← hg9] at hK1 hK2 ⊢
    have J1 : Hid (JnAt g9 w11 #[c0, c1, c2, c3, c4, c5, c6, c7, c8, c9, d0, d1, d2, d3, d4, d5, d6, d7, d8, d9] #[d0, d1, d2, d3, d4, d5, d6, d7, d8, d9, c0, c1, c2, c3, c4, c5, c6, c7, c8, c9]) := Lib.hid (.inl ⟨_, hK1⟩)
    have J2 : Hid (JnAt (g9 + 1) w11 #[c0, c1, c2, c3, c4, c5, c6, c7, c8, c9, d0, d1, d2, d3, d4, d5, d6, d7, d8, d9] #[d0, d1, d2, d3, d4, d5, d6, d7, d8, d9, c0, c1, c2, c3, c4, c5, c6, c7, c8, c9]) := Lib.hid (.inr ⟨_, hK2⟩)
    have Z11 := Lib.hid (Z9.out.trans hG)
    have T11 := Lib.hid (blkD hG T9.out)
    have G11 := Lib.hid (G7.out.trans Z11.out)
    clear hK1 hK2 hG hg9 R9 V9 R10 V10 T9 Z9 G7
    go_loopw [68] (fun s68 wr => ∃ k : Nat, s68 = .int .i64 k ∧ k ≤ 2 ∧ Hid (w11.grownBy wr none)) (fun s68 _ => 2 - (intOf s68).toNat)
    case atStart => exact ⟨0, rfl, by omega, Lib.hid (grown_reflT _ _)⟩
    case round =>
     obtain ⟨k, rfl, hk, K⟩ := hrel
     by_cases hlt : k < 2
     ·go_upto_region 8 with fail
      go_cut [14] from 70 to 71 (fun s14 wx => ∃ g : Nat, s14 = .slice (some ⟨g, 0, none⟩) 2 2 ∧ Hid (g = g9 ∨ g = g9 + 1) ∧ Hid (w11.grownBy wx none))
      case first =>
       have hk2 : k = 0 ∨ k = 1 := by omega
       rcases hk2 with rfl | rfl
       ·have ix : ∀ w, (Instr.index 48 (.agg #[.slice (some ⟨g9, 0, none⟩) 2 2, .slice (some ⟨g9 + 1, 0, none⟩) 2 2]) (.int .i64 0)).run Try.prog w = .ok (.slice (some ⟨g9, 0, none⟩) 2 2) w := fun _ => by kernel_rfl
        rw [show ((0 : Nat) : Int) = 0 from rfl]
        go_wp2_with fail
        go_meet
        case rel => exact ⟨_, rfl, Lib.hid (.inl rfl), Lib.hid K.out⟩
       ·have ix : ∀ w, (Instr.index 48 (.agg #[.slice (some ⟨g9, 0, none⟩) 2 2, .slice (some ⟨g9 + 1, 0, none⟩) 2 2]) (.int .i64 1)).run Try.prog w = .ok (.slice (some ⟨g9 + 1, 0, none⟩) 2 2) w := fun _ => by kernel_rfl
        rw [show ((1 : Nat) : Int) = 1 from rfl]
        go_wp2_with fail
        go_meet
        case rel => exact ⟨_, rfl, Lib.hid (.inr rfl), Lib.hid K.out⟩
      case rest =>
      obtain ⟨g, rfl, HG, K2⟩ := hcut
      rename World => w12
      have JW : Hid (∀ W, w12.grownBy W none → JnAt g W #[c0, c1, c2, c3, c4, c5, c6, c7, c8, c9, d0, d1, d2, d3, d4, d5, d6, d7, d8, d9] #[d0, d1, d2, d3, d4, d5, d6, d7, d8, d9, c0, c1, c2, c3, c4, c5, c6, c7, c8, c9]) := Lib.hid (fun W hW => HG.out.elim (fun e => by rw [e]; exact J1.out.keep (K2.out.trans hW)) (fun e => by rw [e]; exact J2.out.keep (K2.out.trans hW)))
      have Z12 := Lib.hid (Z11.out.trans K2.out)
      have HA1 := Lib.hid (fun W (hW : w12.grownBy W none) => HAN.out g W (Z12.out.trans hW) (JW.out W hW))
      have HO1 := Lib.hid (fun W (hW : w12.grownBy W none) => HON.out g W (Z12.out.trans hW) (JW.out W hW))
      have T12 := Lib.hid (blkD K2.out T11.out)
      clear HG K JW
      obtain ⟨⟨t0, t1, t2⟩, t3, t4, t5⟩ := boxD3 T12.out
      go_wp2_with fail
      refine (HA1.out _ (grown_reflT _ _)).mono ?_
      rintro e w13 ⟨rfl, hg⟩
      have T13 := Lib.hid (blkD hg T12.out)
      have H13 := Lib.hid hg
      clear hg t0 t1 t2 t3 t4 t5
      obtain ⟨⟨t0, t1, t2⟩, t3, t4, t5⟩ := boxD3 T13.out
      go_wp2_with fail
      refine (HO1.out _ H13.out).mono ?_
      rintro e w14 ⟨rfl, hg⟩
      have K14 := Lib.hid (K2.out.trans (H13.out.trans hg))
      clear hg t0 t1 t2 t3 t4 t5
      go_wp2_with fail
      go_roundw
      case rel => exact ⟨k + 1, by go_num, by omega, K14⟩
      case measure => simp [intOf]; omega
     ·obtain rfl : k = 2 := by omega
      have G12 := Lib.hid (G11.out.trans K.out)
      go_wp2_with fail
      go_ret
      exact ⟨rfl, G12.out⟩
   ·have HPq : Hid (∀ W, w7.grownBy W none → Calls Try.prog 11 #[.agg #[.string tn, .slice ta ln tcap, .int .i64 tk], .agg #[c0, c1, c2, c3, c4, c5, c6, c7, c8, c9], .slice ra rn rcap] W fun e w' => e = .returned (.bool true) ∧ W.grownBy w' none) := Lib.hid (fun W hW => HPq0.out W hW)
    have HPv : Hid (∀ W, w7.grownBy W none → Calls Try.prog 11 #[.agg #[.string tn, .slice ta ln tcap, .int .i64 tk], .agg #[d0, d1, d2, d3, d4, d5, d6, d7, d8, d9], .slice ra rn rcap] W fun e w' => e = .returned (.bool false) ∧ W.grownBy w' none) := Lib.hid (fun W hW => HPv0.out W hW)
    have HAN : Hid (∀ g W, w7.grownBy W none → JnAt g W #[c0, c1, c2, c3, c4, c5, c6, c7, c8, c9, d0, d1, d2, d3, d4, d5, d6, d7, d8, d9] #[d0, d1, d2, d3, d4, d5, d6, d7, d8, d9, c0, c1, c2, c3, c4, c5, c6, c7, c8, c9] → Calls Try.prog 11 #[.agg #[.string tn, .slice ta ln tcap, .int .i64 tk], .agg #[.int .i64 8, .string ⟨#[]⟩, .int .i64 0, .int .i64 0, .int .i64 0, .string ⟨#[]⟩, .string ⟨#[]⟩, .slice none 0 0, .slice (some ⟨g, 0, none⟩) 2 2, .int .i64 0], .slice ra rn rcap] W fun e w' => e = .returned (.bool false) ∧ W.grownBy w' none) := Lib.hid (fun g W hW h => HAn.out g W hW h)
    have HON : Hid (∀ g W, w7.grownBy W none → JnAt g W #[c0, c1, c2, c3, c4, c5, c6, c7, c8, c9, d0, d1, d2, d3, d4, d5, d6, d7, d8, d9] #[d0, d1, d2, d3, d4, d5, d6, d7, d8, d9, c0, c1, c2, c3, c4, c5, c6, c7, c8, c9] → Calls Try.prog 11 #[.agg #[.string tn, .slice ta ln tcap, .int .i64 tk], .agg #[.int .i64 9, .string ⟨#[]⟩, .int .i64 0, .int .i64 0, .int .i64 0, .string ⟨#[]⟩, .string ⟨#[]⟩, .slice none 0 0, .slice (some ⟨g, 0, none⟩) 2 2, .int .i64 0], .slice ra rn rcap] W fun e w' => e = .returned (.bool true) ∧ W.grownBy w' none) := Lib.hid (fun g W hW h => HOr.out g W hW h)
    clear HPq0 HPv0 HAn HOr
    refine wp_region_held_drew (S := (fun W => Hid (w7.grownBy W none))) (by kernel_rfl) (Lib.hid (grown_drewT (grown_reflX w7 none))) (fun hHeld => ?_)
    refine TKA (i := 0) (v := .agg #[.string tn, .slice ta ln tcap, .int .i64 tk]) rfl (yieldsIf_load_mid (by rfl) _ _ rfl (gs + 1) 0 rfl _ _ (fun W hS => range_rowD (blkD hS.out T7.out)) Try.underlying24 rfl tab_size) ?_
    simp only [Act.put, List.getElem_toArray, List.getElem_cons_succ, List.getElem_cons_zero, List.size_toArray, List.length_cons, List.length_nil, Nat.reduceAdd, Array.replicate, List.replicate, List.setIfInBounds_toArray, List.set_cons_zero, List.set_cons_succ]
    refine TKA (i := 5) (v := .agg #[.string tn, .slice ta ln tcap, .int .i64 tk]) rfl (yieldsIf_load_mid (by rfl) _ _ rfl (gs + 1) 0 rfl _ _ (fun W hS => range_rowD (blkD hS.out T7.out)) Try.underlying24 rfl tab_size) ?_
    simp only [Act.put, List.getElem_toArray, List.getElem_cons_succ, List.getElem_cons_zero, List.size_toArray, List.length_cons, List.length_nil, Nat.reduceAdd, Array.replicate, List.replicate, List.setIfInBounds_toArray, List.set_cons_zero, List.set_cons_succ]
    refine TKB (i := 1) (v := ?vmz) rfl ?ymz ?rmz
    case ymz => (intro w hSw; (try dsimp only at hSw); go_simp; try with_reducible rfl)
    simp only [Act.put, List.getElem_toArray, List.getElem_cons_succ, List.getElem_cons_zero, List.size_toArray, List.length_cons, List.length_nil, Nat.reduceAdd, Array.replicate, List.replicate, List.setIfInBounds_toArray, List.set_cons_zero, List.set_cons_succ]
    refine TKA (i := 2) (v := .agg #[c0, c1, c2, c3, c4, c5, c6, c7, c8, c9]) rfl (yieldsIf_load_mid (by rfl) _ _ rfl bq 3 rfl [c0, c1, c2, c3, c4, c5, c6, c7, c8, c9] _ (fun W hS => fun j u hj => hS.out.cell (R7.out j u hj) (by simp)) Try.underlying34 rfl pred_size) ?_
    simp only [Act.put, List.getElem_toArray, List.getElem_cons_succ, List.getElem_cons_zero, List.size_toArray, List.length_cons, List.length_nil, Nat.reduceAdd, Array.replicate, List.replicate, List.setIfInBounds_toArray, List.set_cons_zero, List.set_cons_succ]
    refine TKB (i := 3) (v := ?vnz) rfl ?ynz ?rnz
    case ynz => (intro w hSw; (try dsimp only at hSw); go_simp; try with_reducible rfl)
    simp only [Act.put, List.getElem_toArray, List.getElem_cons_succ, List.getElem_cons_zero, List.size_toArray, List.length_cons, List.length_nil, Nat.reduceAdd, Array.replicate, List.replicate, List.setIfInBounds_toArray, List.set_cons_zero, List.set_cons_succ]
    refine TKB (i := 6) (v := ?voz) rfl ?yoz ?roz
    case yoz => (intro w hSw; (try dsimp only at hSw); go_simp; try with_reducible rfl)
    simp only [Act.put, List.getElem_toArray, List.getElem_cons_succ, List.getElem_cons_zero, List.size_toArray, List.length_cons, List.length_nil, Nat.reduceAdd, Array.replicate, List.replicate, List.setIfInBounds_toArray, List.set_cons_zero, List.set_cons_succ]
    refine TKA (i := 7) (v := .agg #[d0, d1, d2, d3, d4, d5, d6, d7, d8, d9]) rfl (yieldsIf_load_mid (by rfl) _ _ rfl bv 3 rfl [d0, d1, d2, d3, d4, d5, d6, d7, d8, d9] _ (fun W hS => fun j u hj => hS.out.cell (V7.out j u hj) (by simp)) Try.underlying34 rfl pred_size) ?_
    simp only [Act.put, List.getElem_toArray, List.getElem_cons_succ, List.getElem_cons_zero, List.size_toArray, List.length_cons, List.length_nil, Nat.reduceAdd, Array.replicate, List.replicate, List.setIfInBounds_toArray, List.set_cons_zero, List.set_cons_succ]
    refine TKB (i := 8) (v := ?vpz) rfl ?ypz ?rpz
    case ypz => (intro w hSw; (try dsimp only at hSw); go_simp; try with_reducible rfl)
    simp only [Act.put, List.getElem_toArray, List.getElem_cons_succ, List.getElem_cons_zero, List.size_toArray, List.length_cons, List.length_nil, Nat.reduceAdd, Array.replicate, List.replicate, List.setIfInBounds_toArray, List.set_cons_zero, List.set_cons_succ]
    refine RD1 (i := 4) rfl (fun K' hK => ?_)
    go_simp
    go_at_call 11
    refine (HPq.out _ (grown_drewT (grown_reflX w7 none))).mono ?_
    rintro e w8 ⟨rfl, hg⟩
    have Z8 : Hid (w7.grownBy w8 none) := Lib.hid ((grown_drewT (grown_reflX w7 none)).trans hg)
    clear hg
    refine hK.out _ _ Z8 (fun hHeld => ?_)
    clear hK K'
    simp only [Act.put, List.getElem_toArray, List.getElem_cons_succ, List.getElem_cons_zero, List.size_toArray, List.length_cons, List.length_nil, Nat.reduceAdd, Array.replicate, List.replicate, List.setIfInBounds_toArray, List.set_cons_zero, List.set_cons_succ]
    refine RD1 (i := 9) rfl (fun K' hK => ?_)
    go_simp
    go_at_call 11
    refine (HPv.out _ Z8.out).mono ?_
    rintro e w9 ⟨rfl, hg⟩
    have Z9 : Hid (w7.grownBy w9 none) := Lib.hid (Z8.out.trans hg)
    clear hg
    refine hK.out _ _ Z9 (fun hHeld => ?_)
    clear hK K'
    simp only [Act.put, List.getElem_toArray, List.getElem_cons_succ, List.getElem_cons_zero, List.size_toArray, List.length_cons, List.length_nil, Nat.reduceAdd, Array.replicate, List.replicate, List.setIfInBounds_toArray, List.set_cons_zero, List.set_cons_succ]
    refine TKB (i := 10) (v := ?vqz) rfl ?yqz ?rqz
    case yqz => (intro w hSw; (try dsimp only at hSw); go_simp; try with_reducible rfl)
    simp only [Act.put, List.getElem_toArray, List.getElem_cons_succ, List.getElem_cons_zero, List.size_toArray, List.length_cons, List.length_nil, Nat.reduceAdd, Array.replicate, List.replicate, List.setIfInBounds_toArray, List.set_cons_zero, List.set_cons_succ]
    refine TKB (i := 11) (v := ?vrz) rfl ?yrz ?rrz
    case yrz => (intro w hSw; (try dsimp only at hSw); go_simp; try with_reducible rfl)
    simp only [Act.put, List.getElem_toArray, List.getElem_cons_succ, List.getElem_cons_zero, List.size_toArray, List.length_cons, List.length_nil, Nat.reduceAdd, Array.replicate, List.replicate, List.setIfInBounds_toArray, List.set_cons_zero, List.set_cons_succ]
    refine wpAnyH_done (by kernel_rfl) ?_ _
    have R9 : Hid (w9.rangeAt bq 3 [c0, c1, c2, c3, c4, c5, c6, c7, c8, c9]) := Lib.hid (fun j u hj => Z9.out.cell (R7.out j u hj) (by simp))
    have V9 : Hid (w9.rangeAt bv 3 [d0, d1, d2, d3, d4, d5, d6, d7, d8, d9]) := Lib.hid (fun j u hj => Z9.out.cell (V7.out j u hj) (by simp))
    have T9 := Lib.hid (blkD Z9.out T7.out)
    have R10 : Hid ((w9.alloc (.cells #[c0, c1, c2, c3, c4, c5, c6, c7, c8, c9, d0, d1, d2, d3, d4, d5, d6, d7, d8, d9] 34)).rangeAt bq 3 [c0, c1, c2, c3, c4, c5, c6, c7, c8, c9]) := Lib.hid (fun j u hj => (World.grownBy_alloc w9 (.cells #[c0, c1, c2, c3, c4, c5, c6, c7, c8, c9, d0, d1, d2, d3, d4, d5, d6, d7, d8, d9] 34) none).cell (R9.out j u hj) (by simp))
    have V10 : Hid ((w9.alloc (.cells #[c0, c1, c2, c3, c4, c5, c6, c7, c8, c9, d0, d1, d2, d3, d4, d5, d6, d7, d8, d9] 34)).rangeAt bv 3 [d0, d1, d2, d3, d4, d5, d6, d7, d8, d9]) := Lib.hid (fun j u hj => (World.grownBy_alloc w9 (.cells #[c0, c1, c2, c3, c4, c5, c6, c7, c8, c9, d0, d1, d2, d3, d4, d5, d6, d7, d8, d9] 34) none).cell (V9.out j u hj) (by simp))
    clear HPq HPv R7 V7 T7 Z8
    try clear hHeld
    go_upto_region 7 with (first
     | (refine wpList_load_midGs (by rfl) 34 (.tmp 57) rfl bq 3 rfl [c0, c1, c2, c3, c4, c5, c6, c7, c8, c9] _ R9.out Try.underlying34 rfl pred_size ?_)
     | (refine wpList_load_midGs (by rfl) 34 (.tmp 59) rfl bv 3 rfl [d0, d1, d2, d3, d4, d5, d6, d7, d8, d9] _ V9.out Try.underlying34 rfl pred_size ?_)
     | (refine wpList_load_midGs (by rfl) 34 (.tmp 62) rfl bv 3 rfl [d0, d1, d2, d3, d4, d5, d6, d7, d8, d9] _ V10.out Try.underlying34 rfl pred_size ?_)
     | (refine wpList_load_midGs (by rfl) 34 (.tmp 64) rfl bq 3 rfl [c0, c1, c2, c3, c4, c5, c6, c7, c8, c9] _ R10.out Try.underlying34 rfl pred_size ?_)
     | fail)
    change Code.wp _ _ _ _ ((w9.alloc (.cells #[c0, c1, c2, c3, c4, c5, c6, c7, c8, c9, d0, d1, d2, d3, d4, d5, d6, d7, d8, d9] 34)).alloc (.cells #[d0, d1, d2, d3, d4, d5, d6, d7, d8, d9, c0, c1, c2, c3, c4, c5, c6, c7, c8, c9] 34))
    have hK1 : ((w9.alloc (.cells #[c0, c1, c2, c3, c4, c5, c6, c7, c8, c9, d0, d1, d2, d3, d4, d5, d6, d7, d8, d9] 34)).alloc (.cells #[d0, d1, d2, d3, d4, d5, d6, d7, d8, d9, c0, c1, c2, c3, c4, c5, c6, c7, c8, c9] 34)).heap[w9.heap.size]? = some (.cells #[c0, c1, c2, c3, c4, c5, c6, c7, c8, c9, d0, d1, d2, d3, d4, d5, d6, d7, d8, d9] 34 (0, 0)) := blkD (World.grownBy_alloc _ _ none) (heap_alloc_new w9 _)
    have hK2 : ((w9.alloc (.cells #[c0, c1, c2, c3, c4, c5, c6, c7, c8, c9, d0, d1, d2, d3, d4, d5, d6, d7, d8, d9] 34)).alloc (.cells #[d0, d1, d2, d3, d4, d5, d6, d7, d8, d9, c0, c1, c2, c3, c4, c5, c6, c7, c8, c9] 34)).heap[w9.heap.size + 1]? = some (.cells #[d0, d1, d2, d3, d4, d5, d6, d7, d8, d9, c0, c1, c2, c3, c4, c5, c6, c7, c8, c9] 34 (0, 0)) := by have := heap_alloc_new (w9.alloc (.cells #[c0, c1, c2, c3, c4, c5, c6, c7, c8, c9, d0, d1, d2, d3, d4, d5, d6, d7, d8, d9] 34)) (.cells #[d0, d1, d2, d3, d4, d5, d6, d7, d8, d9, c0, c1, c2, c3, c4, c5, c6, c7, c8, c9] 34); rw [World.size_alloc] at this; exact this
    have hG : w9.grownBy ((w9.alloc (.cells #[c0, c1, c2, c3, c4, c5, c6, c7, c8, c9, d0, d1, d2, d3, d4, d5, d6, d7, d8, d9] 34)).alloc (.cells #[d0, d1, d2, d3, d4, d5, d6, d7, d8, d9, c0, c1, c2, c3, c4, c5, c6, c7, c8, c9] 34)) none := (World.grownBy_alloc _ _ none).trans (World.grownBy_alloc _ _ none)
    generalize (w9.alloc (.cells #[c0, c1, c2, c3, c4, c5, c6, c7, c8, c9, d0, d1, d2, d3, d4, d5, d6, d7, d8, d9] 34)).alloc (.cells #[d0, d1, d2, d3, d4, d5, d6, d7, d8, d9, c0, c1, c2, c3, c4, c5, c6, c7, c8, c9] 34) = w11 at *
    obtain ⟨g9, hg9⟩ : ∃ g9, g9 = w9.heap.size := ⟨_, rfl⟩
    rw [← hg9] at hK1 hK2 ⊢
    have J1 : Hid (JnAt g9 w11 #[c0, c1, c2, c3, c4, c5, c6, c7, c8, c9, d0, d1, d2, d3, d4, d5, d6, d7, d8, d9] #[d0, d1, d2, d3, d4, d5, d6, d7, d8, d9, c0, c1, c2, c3, c4, c5, c6, c7, c8, c9]) := Lib.hid (.inl ⟨_, hK1⟩)
    have J2 : Hid (JnAt (g9 + 1) w11 #[c0, c1, c2, c3, c4, c5, c6, c7, c8, c9, d0, d1, d2, d3, d4, d5, d6, d7, d8, d9] #[d0, d1, d2, d3, d4, d5, d6, d7, d8, d9, c0, c1, c2, c3, c4, c5, c6, c7, c8, c9]) := Lib.hid (.inr ⟨_, hK2⟩)
    have Z11 := Lib.hid (Z9.out.trans hG)
    have T11 := Lib.hid (blkD hG T9.out)
    have G11 := Lib.hid (G7.out.trans Z11.out)
    clear hK1 hK2 hG hg9 R9 V9 R10 V10 T9 Z9 G7
    go_loopw [68] (fun s68 wr => ∃ k : Nat, s68 = .int .i64 k ∧ k ≤ 2 ∧ Hid (w11.grownBy wr none)) (fun s68 _ => 2 - (intOf s68).toNat)
    case atStart => exact ⟨0, rfl, by omega, Lib.hid (grown_reflT _ _)⟩
    case round =>
     obtain ⟨k, rfl, hk, K⟩ := hrel
     by_cases hlt : k < 2
     ·go_upto_region 8 with fail
      go_cut [14] from 70 to 71 (fun s14 wx => ∃ g : Nat, s14 = .slice (some ⟨g, 0, none⟩) 2 2 ∧ Hid (g = g9 ∨ g = g9 + 1) ∧ Hid (w11.grownBy wx none))
      case first =>
       have hk2 : k = 0 ∨ k = 1 := by omega
       rcases hk2 with rfl | rfl
       ·have ix : ∀ w, (Instr.index 48 (.agg #[.slice (some ⟨g9, 0, none⟩) 2 2, .slice (some ⟨g9 + 1, 0, none⟩) 2 2]) (.int .i64 0)).run Try.prog w = .ok (.slice (some ⟨g9, 0, none⟩) 2 2) w := fun _ => by kernel_rfl
        rw [show ((0 : Nat) : Int) = 0 from rfl]
        go_wp2_with fail
        go_meet
        case rel => exact ⟨_, rfl, Lib.hid (.inl rfl), Lib.hid K.out⟩
       ·have ix : ∀ w, (Instr.index 48 (.agg #[.slice (some ⟨g9, 0, none⟩) 2 2, .slice (some ⟨g9 + 1, 0, none⟩) 2 2]) (.int .i64 1)).run Try.prog w = .ok (.slice (some ⟨g9 + 1, 0, none⟩) 2 2) w := fun _ => by kernel_rfl
        rw [show ((1 : Nat) : Int) = 1 from rfl]
        go_wp2_with fail
        go_meet
        case rel => exact ⟨_, rfl, Lib.hid (.inr rfl), Lib.hid K.out⟩
      case rest =>
      obtain ⟨g, rfl, HG, K2⟩ := hcut
      rename World => w12
      have JW : Hid (∀ W, w12.grownBy W none → JnAt g W #[c0, c1, c2, c3, c4, c5, c6, c7, c8, c9, d0, d1, d2, d3, d4, d5, d6, d7, d8, d9] #[d0, d1, d2, d3, d4, d5, d6, d7, d8, d9, c0, c1, c2, c3, c4, c5, c6, c7, c8, c9]) := Lib.hid (fun W hW => HG.out.elim (fun e => by rw [e]; exact J1.out.keep (K2.out.trans hW)) (fun e => by rw [e]; exact J2.out.keep (K2.out.trans hW)))
      have Z12 := Lib.hid (Z11.out.trans K2.out)
      have HA1 := Lib.hid (fun W (hW : w12.grownBy W none) => HAN.out g W (Z12.out.trans hW) (JW.out W hW))
      have HO1 := Lib.hid (fun W (hW : w12.grownBy W none) => HON.out g W (Z12.out.trans hW) (JW.out W hW))
      have T12 := Lib.hid (blkD K2.out T11.out)
      clear HG K JW
      obtain ⟨⟨t0, t1, t2⟩, t3, t4, t5⟩ := boxD3 T12.out
      go_wp2_with fail
      refine (HA1.out _ (grown_reflT _ _)).mono ?_
      rintro e w13 ⟨rfl, hg⟩
      have T13 := Lib.hid (blkD hg T12.out)
      have H13 := Lib.hid hg
      clear hg t0 t1 t2 t3 t4 t5
      obtain ⟨⟨t0, t1, t2⟩, t3, t4, t5⟩ := boxD3 T13.out
      go_wp2_with fail
      refine (HO1.out _ H13.out).mono ?_
      rintro e w14 ⟨rfl, hg⟩
      have K14 := Lib.hid (K2.out.trans (H13.out.trans hg))
      clear hg t0 t1 t2 t3 t4 t5
      go_wp2_with fail
      go_roundw
      case rel => exact ⟨k + 1, by go_num, by omega, K14⟩
      case measure => simp [intOf]; omega
     ·obtain rfl : k = 2 := by omega
      have G12 := Lib.hid (G11.out.trans K.out)
      go_wp2_with fail
      go_ret
      exact ⟨rfl, G12.out⟩
   ·have HPq : Hid (∀ W, w7.grownBy W none → Calls Try.prog 11 #[.agg #[.string tn, .slice ta ln tcap, .int .i64 tk], .agg #[c0, c1, c2, c3, c4, c5, c6, c7, c8, c9], .slice ra rn rcap] W fun e w' => e = .returned (.bool true) ∧ W.grownBy w' none) := Lib.hid (fun W hW => HPq0.out W hW)
    have HPv : Hid (∀ W, w7.grownBy W none → Calls Try.prog 11 #[.agg #[.string tn, .slice ta ln tcap, .int .i64 tk], .agg #[d0, d1, d2, d3, d4, d5, d6, d7, d8, d9], .slice ra rn rcap] W fun e w' => e = .returned (.bool true) ∧ W.grownBy w' none) := Lib.hid (fun W hW => HPv0.out W hW)
    have HAN : Hid (∀ g W, w7.grownBy W none → JnAt g W #[c0, c1, c2, c3, c4, c5, c6, c7, c8, c9, d0, d1, d2, d3, d4, d5, d6, d7, d8, d9] #[d0, d1, d2, d3, d4, d5, d6, d7, d8, d9, c0, c1, c2, c3, c4, c5, c6, c7, c8, c9] → Calls Try.prog 11 #[.agg #[.string tn, .slice ta ln tcap, .int .i64 tk], .agg #[.int .i64 8, .string ⟨#[]⟩, .int .i64 0, .int .i64 0, .int .i64 0, .string ⟨#[]⟩, .string ⟨#[]⟩, .slice none 0 0, .slice (some ⟨g, 0, none⟩) 2 2, .int .i64 0], .slice ra rn rcap] W fun e w' => e = .returned (.bool true) ∧ W.grownBy w' none) := Lib.hid (fun g W hW h => HAn.out g W hW h)
    have HON : Hid (∀ g W, w7.grownBy W none → JnAt g W #[c0, c1, c2, c3, c4, c5, c6, c7, c8, c9, d0, d1, d2, d3, d4, d5, d6, d7, d8, d9] #[d0, d1, d2, d3, d4, d5, d6, d7, d8, d9, c0, c1, c2, c3, c4, c5, c6, c7, c8, c9] → Calls Try.prog 11 #[.agg #[.string tn, .slice ta ln tcap, .int .i64 tk], .agg #[.int .i64 9, .string ⟨#[]⟩, .int .i64 0, .int .i64 0, .int .i64 0, .string ⟨#[]⟩, .string ⟨#[]⟩, .slice none 0 0, .slice (some ⟨g, 0, none⟩) 2 2, .int .i64 0], .slice ra rn rcap] W fun e w' => e = .returned (.bool true) ∧ W.grownBy w' none) := Lib.hid (fun g W hW h => HOr.out g W hW h)
    clear HPq0 HPv0 HAn HOr
    refine wp_region_held_drew (S := (fun W => Hid (w7.grownBy W none))) (by kernel_rfl) (Lib.hid (grown_drewT (grown_reflX w7 none))) (fun hHeld => ?_)
    refine TKA (i := 0) (v := .agg #[.string tn, .slice ta ln tcap, .int .i64 tk]) rfl (yieldsIf_load_mid (by rfl) _ _ rfl (gs + 1) 0 rfl _ _ (fun W hS => range_rowD (blkD hS.out T7.out)) Try.underlying24 rfl tab_size) ?_
    simp only [Act.put, List.getElem_toArray, List.getElem_cons_succ, List.getElem_cons_zero, List.size_toArray, List.length_cons, List.length_nil, Nat.reduceAdd, Array.replicate, List.replicate, List.setIfInBounds_toArray, List.set_cons_zero, List.set_cons_succ]
    refine TKA (i := 5) (v := .agg #[.string tn, .slice ta ln tcap, .int .i64 tk]) rfl (yieldsIf_load_mid (by rfl) _ _ rfl (gs + 1) 0 rfl _ _ (fun W hS => range_rowD (blkD hS.out T7.out)) Try.underlying24 rfl tab_size) ?_
    simp only [Act.put, List.getElem_toArray, List.getElem_cons_succ, List.getElem_cons_zero, List.size_toArray, List.length_cons, List.length_nil, Nat.reduceAdd, Array.replicate, List.replicate, List.setIfInBounds_toArray, List.set_cons_zero, List.set_cons_succ]
    refine TKB (i := 1) (v := ?vsz) rfl ?ysz ?rsz
    case ysz => (intro w hSw; (try dsimp only at hSw); go_simp; try with_reducible rfl)
    simp only [Act.put, List.getElem_toArray, List.getElem_cons_succ, List.getElem_cons_zero, List.size_toArray, List.length_cons, List.length_nil, Nat.reduceAdd, Array.replicate, List.replicate, List.setIfInBounds_toArray, List.set_cons_zero, List.set_cons_succ]
    refine TKA (i := 2) (v := .agg #[c0, c1, c2, c3, c4, c5, c6, c7, c8, c9]) rfl (yieldsIf_load_mid (by rfl) _ _ rfl bq 3 rfl [c0, c1, c2, c3, c4, c5, c6, c7, c8, c9] _ (fun W hS => fun j u hj => hS.out.cell (R7.out j u hj) (by simp)) Try.underlying34 rfl pred_size) ?_
    simp only [Act.put, List.getElem_toArray, List.getElem_cons_succ, List.getElem_cons_zero, List.size_toArray, List.length_cons, List.length_nil, Nat.reduceAdd, Array.replicate, List.replicate, List.setIfInBounds_toArray, List.set_cons_zero, List.set_cons_succ]
    refine TKB (i := 3) (v := ?vtz) rfl ?ytz ?rtz
    case ytz => (intro w hSw; (try dsimp only at hSw); go_simp; try with_reducible rfl)
    simp only [Act.put, List.getElem_toArray, List.getElem_cons_succ, List.getElem_cons_zero, List.size_toArray, List.length_cons, List.length_nil, Nat.reduceAdd, Array.replicate, List.replicate, List.setIfInBounds_toArray, List.set_cons_zero, List.set_cons_succ]
    refine TKB (i := 6) (v := ?vuz) rfl ?yuz ?ruz
    case yuz => (intro w hSw; (try dsimp only at hSw); go_simp; try with_reducible rfl)
    simp only [Act.put, List.getElem_toArray, List.getElem_cons_succ, List.getElem_cons_zero, List.size_toArray, List.length_cons, List.length_nil, Nat.reduceAdd, Array.replicate, List.replicate, List.setIfInBounds_toArray, List.set_cons_zero, List.set_cons_succ]
    refine TKA (i := 7) (v := .agg #[d0, d1, d2, d3, d4, d5, d6, d7, d8, d9]) rfl (yieldsIf_load_mid (by rfl) _ _ rfl bv 3 rfl [d0, d1, d2, d3, d4, d5, d6, d7, d8, d9] _ (fun W hS => fun j u hj => hS.out.cell (V7.out j u hj) (by simp)) Try.underlying34 rfl pred_size) ?_
    simp only [Act.put, List.getElem_toArray, List.getElem_cons_succ, List.getElem_cons_zero, List.size_toArray, List.length_cons, List.length_nil, Nat.reduceAdd, Array.replicate, List.replicate, List.setIfInBounds_toArray, List.set_cons_zero, List.set_cons_succ]
    refine TKB (i := 8) (v := ?vvz) rfl ?yvz ?rvz
    case yvz => (intro w hSw; (try dsimp only at hSw); go_simp; try with_reducible rfl)
    simp only [Act.put, List.getElem_toArray, List.getElem_cons_succ, List.getElem_cons_zero, List.size_toArray, List.length_cons, List.length_nil, Nat.reduceAdd, Array.replicate, List.replicate, List.setIfInBounds_toArray, List.set_cons_zero, List.set_cons_succ]
    refine RD1 (i := 4) rfl (fun K' hK => ?_)
    go_simp
    go_at_call 11
    refine (HPq.out _ (grown_drewT (grown_reflX w7 none))).mono ?_
    rintro e w8 ⟨rfl, hg⟩
    have Z8 : Hid (w7.grownBy w8 none) := Lib.hid ((grown_drewT (grown_reflX w7 none)).trans hg)
    clear hg
    refine hK.out _ _ Z8 (fun hHeld => ?_)
    clear hK K'
    simp only [Act.put, List.getElem_toArray, List.getElem_cons_succ, List.getElem_cons_zero, List.size_toArray, List.length_cons, List.length_nil, Nat.reduceAdd, Array.replicate, List.replicate, List.setIfInBounds_toArray, List.set_cons_zero, List.set_cons_succ]
    refine RD1 (i := 9) rfl (fun K' hK => ?_)
    go_simp
    go_at_call 11
    refine (HPv.out _ Z8.out).mono ?_
    rintro e w9 ⟨rfl, hg⟩
    have Z9 : Hid (w7.grownBy w9 none) := Lib.hid (Z8.out.trans hg)
    clear hg
    refine hK.out _ _ Z9 (fun hHeld => ?_)
    clear hK K'
    simp only [Act.put, List.getElem_toArray, List.getElem_cons_succ, List.getElem_cons_zero, List.size_toArray, List.length_cons, List.length_nil, Nat.reduceAdd, Array.replicate, List.replicate, List.setIfInBounds_toArray, List.set_cons_zero, List.set_cons_succ]
    refine TKB (i := 10) (v := ?vwz) rfl ?ywz ?rwz
    case ywz => (intro w hSw; (try dsimp only at hSw); go_simp; try with_reducible rfl)
    simp only [Act.put, List.getElem_toArray, List.getElem_cons_succ, List.getElem_cons_zero, List.size_toArray, List.length_cons, List.length_nil, Nat.reduceAdd, Array.replicate, List.replicate, List.setIfInBounds_toArray, List.set_cons_zero, List.set_cons_succ]
    refine TKB (i := 11) (v := ?vxz) rfl ?yxz ?rxz
    case yxz => (intro w hSw; (try dsimp only at hSw); go_simp; try with_reducible rfl)
    simp only [Act.put, List.getElem_toArray, List.getElem_cons_succ, List.getElem_cons_zero, List.size_toArray, List.length_cons, List.length_nil, Nat.reduceAdd, Array.replicate, List.replicate, List.setIfInBounds_toArray, List.set_cons_zero, List.set_cons_succ]
    refine wpAnyH_done (by kernel_rfl) ?_ _
    have R9 : Hid (w9.rangeAt bq 3 [c0, c1, c2, c3, c4, c5, c6, c7, c8, c9]) := Lib.hid (fun j u hj => Z9.out.cell (R7.out j u hj) (by simp))
    have V9 : Hid (w9.rangeAt bv 3 [d0, d1, d2, d3, d4, d5, d6, d7, d8, d9]) := Lib.hid (fun j u hj => Z9.out.cell (V7.out j u hj) (by simp))
    have T9 := Lib.hid (blkD Z9.out T7.out)
    have R10 : Hid ((w9.alloc (.cells #[c0, c1, c2, c3, c4, c5, c6, c7, c8, c9, d0, d1, d2, d3, d4, d5, d6, d7, d8, d9] 34)).rangeAt bq 3 [c0, c1, c2, c3, c4, c5, c6, c7, c8, c9]) := Lib.hid (fun j u hj => (World.grownBy_alloc w9 (.cells #[c0, c1, c2, c3, c4, c5, c6, c7, c8, c9, d0, d1, d2, d3, d4, d5, d6, d7, d8, d9] 34) none).cell (R9.out j u hj) (by simp))
    have V10 : Hid ((w9.alloc (.cells #[c0, c1, c2, c3, c4, c5, c6, c7, c8, c9, d0, d1, d2, d3, d4, d5, d6, d7, d8, d9] 34)).rangeAt bv 3 [d0, d1, d2, d3, d4, d5, d6, d7, d8, d9]) := Lib.hid (fun j u hj => (World.grownBy_alloc w9 (.cells #[c0, c1, c2, c3, c4, c5, c6, c7, c8, c9, d0, d1, d2, d3, d4, d5, d6, d7, d8, d9] 34) none).cell (V9.out j u hj) (by simp))
    clear HPq HPv R7 V7 T7 Z8
    try clear hHeld
    go_upto_region 7 with (first
     | (refine wpList_load_midGs (by rfl) 34 (.tmp 57) rfl bq 3 rfl [c0, c1, c2, c3, c4, c5, c6, c7, c8, c9] _ R9.out Try.underlying34 rfl pred_size ?_)
     | (refine wpList_load_midGs (by rfl) 34 (.tmp 59) rfl bv 3 rfl [d0, d1, d2, d3, d4, d5, d6, d7, d8, d9] _ V9.out Try.underlying34 rfl pred_size ?_)
     | (refine wpList_load_midGs (by rfl) 34 (.tmp 62) rfl bv 3 rfl [d0, d1, d2, d3, d4, d5, d6, d7, d8, d9] _ V10.out Try.underlying34 rfl pred_size ?_)
     | (refine wpList_load_midGs (by rfl) 34 (.tmp 64) rfl bq 3 rfl [c0, c1, c2, c3, c4, c5, c6, c7, c8, c9] _ R10.out Try.underlying34 rfl pred_size ?_)
     | fail)
    change Code.wp _ _ _ _ ((w9.alloc (.cells #[c0, c1, c2, c3, c4, c5, c6, c7, c8, c9, d0, d1, d2, d3, d4, d5, d6, d7, d8, d9] 34)).alloc (.cells #[d0, d1, d2, d3, d4, d5, d6, d7, d8, d9, c0, c1, c2, c3, c4, c5, c6, c7, c8, c9] 34))
    have hK1 : ((w9.alloc (.cells #[c0, c1, c2, c3, c4, c5, c6, c7, c8, c9, d0, d1, d2, d3, d4, d5, d6, d7, d8, d9] 34)).alloc (.cells #[d0, d1, d2, d3, d4, d5, d6, d7, d8, d9, c0, c1, c2, c3, c4, c5, c6, c7, c8, c9] 34)).heap[w9.heap.size]? = some (.cells #[c0, c1, c2, c3, c4, c5, c6, c7, c8, c9, d0, d1, d2, d3, d4, d5, d6, d7, d8, d9] 34 (0, 0)) := blkD (World.grownBy_alloc _ _ none) (heap_alloc_new w9 _)
    have hK2 : ((w9.alloc (.cells #[c0, c1, c2, c3, c4, c5, c6, c7, c8, c9, d0, d1, d2, d3, d4, d5, d6, d7, d8, d9] 34)).alloc (.cells #[d0, d1, d2, d3, d4, d5, d6, d7, d8, d9, c0, c1, c2, c3, c4, c5, c6, c7, c8, c9] 34)).heap[w9.heap.size + 1]? = some (.cells #[d0, d1, d2, d3, d4, d5, d6, d7, d8, d9, c0, c1, c2, c3, c4, c5, c6, c7, c8, c9] 34 (0, 0)) := by have := heap_alloc_new (w9.alloc (.cells #[c0, c1, c2, c3, c4, c5, c6, c7, c8, c9, d0, d1, d2, d3, d4, d5, d6, d7, d8, d9] 34)) (.cells #[d0, d1, d2, d3, d4, d5, d6, d7, d8, d9, c0, c1, c2, c3, c4, c5, c6, c7, c8, c9] 34); rw [World.size_alloc] at this; exact this
    have hG : w9.grownBy ((w9.alloc (.cells #[c0, c1, c2, c3, c4, c5, c6, c7, c8, c9, d0, d1, d2, d3, d4, d5, d6, d7, d8, d9] 34)).alloc (.cells #[d0, d1, d2, d3, d4, d5, d6, d7, d8, d9, c0, c1, c2, c3, c4, c5, c6, c7, c8, c9] 34)) none := (World.grownBy_alloc _ _ none).trans (World.grownBy_alloc _ _ none)
    generalize (w9.alloc (.cells #[c0, c1, c2, c3, c4, c5, c6, c7, c8, c9, d0, d1, d2, d3, d4, d5, d6, d7, d8, d9] 34)).alloc (.cells #[d0, d1, d2, d3, d4, d5, d6, d7, d8, d9, c0, c1, c2, c3, c4, c5, c6, c7, c8, c9] 34) = w11 at *
    obtain ⟨g9, hg9⟩ : ∃ g9, g9 = w9.heap.size := ⟨_, rfl⟩
    rw [← hg9] at hK1 hK2 ⊢
    have J1 : Hid (JnAt g9 w11 #[c0, c1, c2, c3, c4, c5, c6, c7, c8, c9, d0, d1, d2, d3, d4, d5, d6, d7, d8, d9] #[d0, d1, d2, d3, d4, d5, d6, d7, d8, d9, c0, c1, c2, c3, c4, c5, c6, c7, c8, c9]) := Lib.hid (.inl ⟨_, hK1⟩)
    have J2 : Hid (JnAt (g9 + 1) w11 #[c0, c1, c2, c3, c4, c5, c6, c7, c8, c9, d0, d1, d2, d3, d4, d5, d6, d7, d8, d9] #[d0, d1, d2, d3, d4, d5, d6, d7, d8, d9, c0, c1, c2, c3, c4, c5, c6, c7, c8, c9]) := Lib.hid (.inr ⟨_, hK2⟩)
    have Z11 := Lib.hid (Z9.out.trans hG)
    have T11 := Lib.hid (blkD hG T9.out)
    have G11 := Lib.hid (G7.out.trans Z11.out)
    clear hK1 hK2 hG hg9 R9 V9 R10 V10 T9 Z9 G7
    go_loopw [68] (fun s68 wr => ∃ k : Nat, s68 = .int .i64 k ∧ k ≤ 2 ∧ Hid (w11.grownBy wr none)) (fun s68 _ => 2 - (intOf s68).toNat)
    case atStart => exact ⟨0, rfl, by omega, Lib.hid (grown_reflT _ _)⟩
    case round =>
     obtain ⟨k, rfl, hk, K⟩ := hrel
     by_cases hlt : k < 2
     ·go_upto_region 8 with fail
      go_cut [14] from 70 to 71 (fun s14 wx => ∃ g : Nat, s14 = .slice (some ⟨g, 0, none⟩) 2 2 ∧ Hid (g = g9 ∨ g = g9 + 1) ∧ Hid (w11.grownBy wx none))
      case first =>
       have hk2 : k = 0 ∨ k = 1 := by omega
       rcases hk2 with rfl | rfl
       ·have ix : ∀ w, (Instr.index 48 (.agg #[.slice (some ⟨g9, 0, none⟩) 2 2, .slice (some ⟨g9 + 1, 0, none⟩) 2 2]) (.int .i64 0)).run Try.prog w = .ok (.slice (some ⟨g9, 0, none⟩) 2 2) w := fun _ => by kernel_rfl
        rw [show ((0 : Nat) : Int) = 0 from rfl]
        go_wp2_with fail
        go_meet
        case rel => exact ⟨_, rfl, Lib.hid (.inl rfl), Lib.hid K.out⟩
       ·have ix : ∀ w, (Instr.index 48 (.agg #[.slice (some ⟨g9, 0, none⟩) 2 2, .slice (some ⟨g9 + 1, 0, none⟩) 2 2]) (.int .i64 1)).run Try.prog w = .ok (.slice (some ⟨g9 + 1, 0, none⟩) 2 2) w := fun _ => by kernel_rfl
        rw [show ((1 : Nat) : Int) = 1 from rfl]
        go_wp2_with fail
        go_meet
        case rel => exact ⟨_, rfl, Lib.hid (.inr rfl), Lib.hid K.out⟩
      case rest =>
      obtain ⟨g, rfl, HG, K2⟩ := hcut
      rename World => w12
      have JW : Hid (∀ W, w12.grownBy W none → JnAt g W #[c0, c1, c2, c3, c4, c5, c6, c7, c8, c9, d0, d1, d2, d3, d4, d5, d6, d7, d8, d9] #[d0, d1, d2, d3, d4, d5, d6, d7, d8, d9, c0, c1, c2, c3, c4, c5, c6, c7, c8, c9]) := Lib.hid (fun W hW => HG.out.elim (fun e => by rw [e]; exact J1.out.keep (K2.out.trans hW)) (fun e => by rw [e]; exact J2.out.keep (K2.out.trans hW)))
      have Z12 := Lib.hid (Z11.out.trans K2.out)
      have HA1 := Lib.hid (fun W (hW : w12.grownBy W none) => HAN.out g W (Z12.out.trans hW) (JW.out W hW))
      have HO1 := Lib.hid (fun W (hW : w12.grownBy W none) => HON.out g W (Z12.out.trans hW) (JW.out W hW))
      have T12 := Lib.hid (blkD K2.out T11.out)
      clear HG K JW
      obtain ⟨⟨t0, t1, t2⟩, t3, t4, t5⟩ := boxD3 T12.out
      go_wp2_with fail
      refine (HA1.out _ (grown_reflT _ _)).mono ?_
      rintro e w13 ⟨rfl, hg⟩
      have T13 := Lib.hid (blkD hg T12.out)
      have H13 := Lib.hid hg
      clear hg t0 t1 t2 t3 t4 t5
      obtain ⟨⟨t0, t1, t2⟩, t3, t4, t5⟩ := boxD3 T13.out
      go_wp2_with fail
      refine (HO1.out _ H13.out).mono ?_
      rintro e w14 ⟨rfl, hg⟩
      have K14 := Lib.hid (K2.out.trans (H13.out.trans hg))
      clear hg t0 t1 t2 t3 t4 t5
      go_wp2_with fail
      go_roundw
      case rel => exact ⟨k + 1, by go_num, by omega, K14⟩
      case measure => simp [intOf]; omega
     ·obtain rfl : k = 2 := by omega
      have G12 := Lib.hid (G11.out.trans K.out)
      go_wp2_with fail
      go_ret
      exact ⟨rfl, G12.out⟩
end Go.Proofs.Ytfambadamebjjaa
namespace Go.Proofs.Ytfambadamebjjaa
open Go.ChangeShapes Go.WideShapes Go.ChangeAt Go.RowKit Go.Joins
open Go.Deep

section
variable {H : Type} {enc : TypeId × Value → H}
theorem cells_twoS : Try.prog.cellsOf 47 = 2 := by kernel_rfl
theorem cells_str1 : Try.prog.cellsOf 9 = 1 := by kernel_rfl
set_option maxRecDepth 100000 in
theorem open_twoS {W : World} {b0 base : Nat} {spare : Nat → Bool} {v : Value} {d : DataW H} {p : List MemPlace} (hv : Value.okWide Try.prog W .any b0 47 v) (h : DataW.Trod enc Try.prog W base spare true 47 v d p) :
  ∃ a l, v = .agg #[.string a, .string l] ∧ d = .agg [.lit (.string a.data.toList), .lit (.string l.data.toList)] ∧ p = [] ∧ a.size ≤ maxLen ∧ l.size ≤ maxLen := by
 have hv2 : ∃ cs, v = .agg cs ∧ cs.size = Try.prog.cellsOf 47 := by
  unfold Value.okWide at hv
  have hu := Try.underlying47
  cases v <;> simp [hu] at hv ⊢
  all_goals (first | exact ⟨_, rfl, hv.1⟩ | exact hv | exact hv.1 | (try simp_all))
 obtain ⟨cs, rfl, hsz⟩ := hv2
 rw [cells_twoS] at hsz
 obtain ⟨c0, c1, rfl⟩ : ∃ c0 c1, cs = #[c0, c1] := by
  obtain ⟨l⟩ := cs
  match l, hsz with
  | [a, b], _ => exact ⟨a, b, rfl⟩
 obtain ⟨fuel, hf⟩ := h
 obtain ⟨xs, m, rfl, hx, _, hl, hi⟩ := DataW.trod_array Try.underlying47 hf
 obtain ⟨y0, y1, rfl⟩ : ∃ y0 y1, xs = [y0, y1] := by
  match xs, hl with
  | [y0, y1], _ => exact ⟨y0, y1, rfl⟩
 have h0 := hi 0 (by omega)
 have h1 := hi 1 (by omega)
 simp [Value.cells, cells_str1] at h0 h1
 obtain ⟨k, e0, rfl, wk⟩ := DataW.trod_string Try.underlying9 h0
 obtain ⟨n, e1, rfl, wn⟩ := DataW.trod_string Try.underlying9 h1
 simp at e0 e1 hx
 subst e0 e1
 exact ⟨k, n, rfl, hx.1, hx.2, wk, wn⟩
set_option maxRecDepth 100000 in
theorem shut_twoS {W : World} {base : Nat} {spare : Nat → Bool} {a l : ByteArray} (wa : a.size ≤ maxLen) (wl : l.size ≤ maxLen) :
  DataW.Trod enc Try.prog W base spare true 47 (.agg #[.string a, .string l]) (.agg [.lit (.string a.data.toList), .lit (.string l.data.toList)]) [] := by
 refine ⟨2, ?_⟩
 have r2 : List.range 2 = [0, 1] := rfl
 simp [DataW.trod, Try.underlying47, Try.underlying9, cells_twoS, cells_str1, Value.cells, r2, wa, wl]
end
end Go.Proofs.Ytfambadamebjjaa
namespace Go.Proofs.Ytfambadamebjjaa
open Go.ChangeShapes Go.WideShapes Go.ChangeAt Go.RowKit Go.Joins
open Go.ChangeMaps (open_string shut_string)
open Go.Deep
set_option maxRecDepth 100000 in
theorem sieveJoins_lifted (os : Os) (started : os.Started) (H : Type) (enc : TypeId × Value → H) :
  ReturnsInHanded {} Try.checked os 5 .any (Rows.sieveJoinsSpec.pre6 enc Try.prog Try.f5 Rows.sieveJoinsRow.domain false) (Rows.sieveJoinsSpec.post enc Try.prog Try.f5 false true false false) := by
 refine returnsInHanded_of_change (C := Try.checked) own started (by kernel_rfl) Try.func5
  (ChangeSpec.witness6 (enc := enc) (C := Try.checked) false ⟨#[], #[.agg #[.string ⟨#[]⟩, .string ⟨#[]⟩], .agg #[.string ⟨#[]⟩, .slice none 0 0, .int .i64 0], .slice none 0 0], []⟩ 8 (by kernel_rfl) (by kernel_rfl) (by kernel_rfl) (by kernel_rfl)) ?_
 intro W base args ds gs before hval0 hW _ _
 have hval : ∀ (j : Nat) t v, Try.f5.params[j]? = some t → args[j]? = some v → Value.okWide Try.prog W .any base t v := hval0
 have hW' := hW
 obtain ⟨p, q, hA0, hV, rfl, hfz, hnd⟩ := hW
 have hA : DataW.TrodAll enc Try.prog W 0 (fun _ => true) true Try.f5.params.toList args.toList ds p := hA0
 rw [Try.params5] at hA hval
 obtain ⟨v0, v1, v2, d0, d1, d2, p0, p1, p2, rfl, rfl, rfl, h0, h1, h2⟩ := trodAll_three hA
 obtain ⟨rfl, rfl⟩ := trodVars_none hV
 have kk1 := h1
 have lt1 : ∀ x ∈ p1, x.block < W.heap.size := by obtain ⟨m, hm⟩ := kk1; exact DataW.trod_lt m _ _ _ hm
 have kk2 := h2
 have lt2 : ∀ x ∈ p2, x.block < W.heap.size := by obtain ⟨m, hm⟩ := kk2; exact DataW.trod_lt m _ _ _ hm
 obtain ⟨s0, u0, rfl, rfl, rfl, hs0, hu0⟩ := open_twoS (hval 0 47 v0 rfl rfl) h0
 obtain ⟨N1, a1, cap1, l1, K1, rfl, hN1, row1, hc1, hn1⟩ := open_table6 (hval 1 24 v1 rfl rfl) h1
 obtain ⟨a2, cap2, l2, rfl, row2, hc2⟩ := open_row6 (hval 2 26 v2 rfl rfl) h2
 clear hA0 hval0
 simp only [List.append_nil] at hW'
 refine (SieveJoins_any s0 u0 ⟨N1, a1, cap1, l1, K1⟩ a2 cap2 l2 W row1 hc1 ⟨hN1, hn1⟩ row2 hc2).mono fun e W' ⟨he, hg⟩ => ?_
 have hb := below_of hg
 subst he
 exact ⟨_, rfl, _, _, _, [], _, [], hW', trodAll_mk1 (shut_bool Try.underlying4 _), trodAll_mk3 (shut_twoS hs0 hu0) (Below.trod laidOut (by kernel_rfl) (of_decide_eq_true (by kernel_rfl)) kk1 hb lt1) (Below.trod laidOut (by kernel_rfl) (of_decide_eq_true (by kernel_rfl)) kk2 hb lt2), rfl, hb.frame _, fun h => by cases h⟩

theorem sieveJoins_said : Rows.SieveJoinsSaid :=
 OpenClaim.holds_of_wide 5 Try.f5 rfl rfl rfl rfl rfl rfl rfl ⟨rfl, rfl, rfl, rfl, rfl⟩ rfl rfl rfl rfl rfl (by kernel_rfl) Try.func5 (by kernel_rfl)
  (of_decide_eq_true (by kernel_rfl)) (by unfold Func.isWrapper; first | (rw [if_pos (by decide +kernel)]; kernel_rfl) | (rw [if_neg (by decide +kernel)]; exact ⟨rfl, rfl⟩))
  (fun os started H enc _ => sieveJoins_lifted os started H enc)
#print axioms sieveJoins_said
end Go.Proofs.Ytfambadamebjjaa
