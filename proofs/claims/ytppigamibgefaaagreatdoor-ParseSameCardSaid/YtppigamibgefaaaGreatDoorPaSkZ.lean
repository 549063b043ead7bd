/- Same: are two queries the same, but for places? The document's Same, without places. -/
import Derived.Test.YtppigamibgefaaaGreatDoorZp27
import Derived.Test.YtppigamibgefaaaGreatDoorZp29
import Derived.Test.YtppigamibgefaaaGreatDoorPaShZ
import Derived.Deep.RegionHeld
namespace Go.Proofs.YtppigamibgefaaaGreatDoor
open Go.RowKit

/-- Lists of items, or keys, are alike one by one. -/
def ItsLike (l m : List Itm) : Prop := l.length = m.length ∧ ∀ i, i < l.length → Itm.like (l.getD i default) (m.getD i default)
def KysLike (l m : List Kyo) : Prop := l.length = m.length ∧ ∀ i, i < l.length → Kyo.like (l.getD i default) (m.getD i default)
/-- Two queries are the same but for places. -/
def Qm.like (x y : Qm) : Prop := x.all = y.all ∧ x.table = y.table ∧ x.limit = y.limit ∧ ItsLike x.items y.items ∧ ItsLike x.group y.group ∧ KysLike x.order y.order ∧ x.cond.z false = y.cond.z false
set_option maxRecDepth 100000 in
set_option maxHeartbeats 6400000 in
theorem same_any (S : Nat → Prop) (x y : Qm) (w : World) (hx : QmS S w x) (hy : QmS S w y) (hn : x.cond.n ≤ 1000) (hl : x.items.length ≤ 1000000 ∧ x.group.length ≤ 1000000 ∧ x.order.length ≤ 1000000) :
    Calls Tryz.prog 15 #[.agg x.c, .agg y.c] w fun e w' => BoolIs (Qm.like x y) e ∧ w.grownBy w' none := by
  obtain ⟨ia1, ic1, its1, al1, ta1, ⟨k1, c1, rr1, v1, o1, la1, lc1, li1, ka1, kc1, ks1, pp1⟩, ga1, gc1, gr1, oa1, oc1, od1, lim1⟩ := x
  obtain ⟨ia2, ic2, its2, al2, ta2, ⟨k2, c2, rr2, v2, o2, la2, lc2, li2, ka2, kc2, ks2, pp2⟩, ga2, gc2, gr2, oa2, oc2, od2, lim2⟩ := y
  have HI : Hid (∀ W, w.grownBy W none → Calls Tryz.prog 35 #[.slice ia1 its1.length ic1, .slice ia2 its2.length ic2, .func (.func 36) #[] #[]] W fun e w' => BoolIs (ItsLike its1 its2) e ∧ W.grownBy w' none) := Lib.hid (fun W hW => eqfItm_any S ia1 ia2 ic1 ic2 its1 its2 W (hx.1.1.keep (.of hW)) (hy.1.1.keep (.of hW)) hl.1)
  have HG : Hid (∀ W, w.grownBy W none → Calls Tryz.prog 35 #[.slice ga1 gr1.length gc1, .slice ga2 gr2.length gc2, .func (.func 36) #[] #[]] W fun e w' => BoolIs (ItsLike gr1 gr2) e ∧ W.grownBy w' none) := Lib.hid (fun W hW => eqfItm_any S ga1 ga2 gc1 gc2 gr1 gr2 W (hx.2.2.1.1.keep (.of hW)) (hy.2.2.1.1.keep (.of hW)) hl.2.1)
  have HK : Hid (∀ W, w.grownBy W none → Calls Tryz.prog 37 #[.slice oa1 od1.length oc1, .slice oa2 od2.length oc2, .func (.func 38) #[] #[]] W fun e w' => BoolIs (KysLike od1 od2) e ∧ W.grownBy w' none) := Lib.hid (fun W hW => eqfKyo_any S oa1 oa2 oc1 oc2 od1 od2 W (hx.2.2.2.1.keep (.of hW)) (hy.2.2.2.1.keep (.of hW)) hl.2.2)
  have HS : Hid (∀ W, w.grownBy W none → Calls Tryz.prog 16 #[.agg #[.int .i64 (k1 : Nat), .string c1, .int .i64 (rr1 : Nat), .int .i64 v1.k, .int .i64 v1.n, .string v1.s, .string o1, .slice la1 li1.length lc1, .slice ka1 ks1.length kc1, .int .i64 (pp1 : Nat)], .agg #[.int .i64 (k2 : Nat), .string c2, .int .i64 (rr2 : Nat), .int .i64 v2.k, .int .i64 v2.n, .string v2.s, .string o2, .slice la2 li2.length lc2, .slice ka2 ks2.length kc2, .int .i64 (pp2 : Nat)]] W fun e w' => BoolIs ((.mk k1 c1 rr1 v1 o1 la1 lc1 li1 ka1 kc1 ks1 pp1 : Pm).z false = (.mk k2 c2 rr2 v2 o2 la2 lc2 li2 ka2 kc2 ks2 pp2 : Pm).z false) e ∧ W.grownBy w' none) := Lib.hid (fun W hW => samePred_any S (.mk k1 c1 rr1 v1 o1 la1 lc1 li1 ka1 kc1 ks1 pp1 : Pm) (.mk k2 c2 rr2 v2 o2 la2 lc2 li2 ka2 kc2 ks2 pp2 : Pm) W (hx.2.1.keep (.of hW)) (hy.2.1.keep (.of hW)) hn)
  have HL : Hid (∀ b : Bool, (b = true ↔ al1 = al2 ∧ ta1 = ta2 ∧ lim1 = lim2 ∧ ItsLike its1 its2 ∧ ItsLike gr1 gr2 ∧ KysLike od1 od2 ∧ (.mk k1 c1 rr1 v1 o1 la1 lc1 li1 ka1 kc1 ks1 pp1 : Pm).z false = (.mk k2 c2 rr2 v2 o2 la2 lc2 li2 ka2 kc2 ks2 pp2 : Pm).z false) → (b = true ↔ Qm.like ⟨ia1, ic1, its1, al1, ta1, ⟨k1, c1, rr1, v1, o1, la1, lc1, li1, ka1, kc1, ks1, pp1⟩, ga1, gc1, gr1, oa1, oc1, od1, lim1⟩ ⟨ia2, ic2, its2, al2, ta2, ⟨k2, c2, rr2, v2, o2, la2, lc2, li2, ka2, kc2, ks2, pp2⟩, ga2, gc2, gr2, oa2, oc2, od2, lim2⟩)) := Lib.hid (fun _ h => h)
  show Calls Tryz.prog 15 #[.agg #[.slice ia1 its1.length ic1, .bool al1, .string ta1, .int .i64 (k1 : Nat), .string c1, .int .i64 (rr1 : Nat), .int .i64 v1.k, .int .i64 v1.n, .string v1.s, .string o1, .slice la1 li1.length lc1, .slice ka1 ks1.length kc1, .int .i64 (pp1 : Nat), .slice ga1 gr1.length gc1, .slice oa1 od1.length oc1, .int .i64 lim1, .int .i64 0], .agg #[.slice ia2 its2.length ic2, .bool al2, .string ta2, .int .i64 (k2 : Nat), .string c2, .int .i64 (rr2 : Nat), .int .i64 v2.k, .int .i64 v2.n, .string v2.s, .string o2, .slice la2 li2.length lc2, .slice ka2 ks2.length kc2, .int .i64 (pp2 : Nat), .slice ga2 gr2.length gc2, .slice oa2 od2.length oc2, .int .i64 lim2, .int .i64 0]] w _
  generalize Qm.like ⟨ia1, ic1, its1, al1, ta1, ⟨k1, c1, rr1, v1, o1, la1, lc1, li1, ka1, kc1, ks1, pp1⟩, ga1, gc1, gr1, oa1, oc1, od1, lim1⟩ ⟨ia2, ic2, its2, al2, ta2, ⟨k2, c2, rr2, v2, o2, la2, lc2, li2, ka2, kc2, ks2, pp2⟩, ga2, gc2, gr2, oa2, oc2, od2, lim2⟩ = LK at *
  generalize ItsLike its1 its2 = LI at *
  generalize ItsLike gr1 gr2 = LG at *
  generalize KysLike od1 od2 = LO at *
  generalize (.mk k1 c1 rr1 v1 o1 la1 lc1 li1 ka1 kc1 ks1 pp1 : Pm).z false = zx at *
  generalize (.mk k2 c2 rr2 v2 o2 la2 lc2 li2 ka2 kc2 ks2 pp2 : Pm).z false = zy at *
  obtain ⟨LZ, hLZ⟩ : ∃ P : Prop, P = (zx = zy) := ⟨_, rfl⟩
  rw [← hLZ] at HS HL
  clear hx hy hn hl hLZ
  generalize its1.length = n0 at *
  generalize its2.length = n1 at *
  generalize li1.length = n2 at *
  generalize li2.length = n3 at *
  generalize ks1.length = n4 at *
  generalize ks2.length = n5 at *
  generalize gr1.length = n6 at *
  generalize gr2.length = n7 at *
  generalize od1.length = n8 at *
  generalize od2.length = n9 at *
  have B1 := heap_alloc_new w (.cells #[.slice ia1 n0 ic1, .bool al1, .string ta1, .int .i64 (k1 : Nat), .string c1, .int .i64 (rr1 : Nat), .int .i64 v1.k, .int .i64 v1.n, .string v1.s, .string o1, .slice la1 n2 lc1, .slice ka1 n4 kc1, .int .i64 (pp1 : Nat), .slice ga1 n6 gc1, .slice oa1 n8 oc1, .int .i64 lim1, .int .i64 0] 34)
  have B2 := heap_alloc_new (w.alloc (.cells #[.slice ia1 n0 ic1, .bool al1, .string ta1, .int .i64 (k1 : Nat), .string c1, .int .i64 (rr1 : Nat), .int .i64 v1.k, .int .i64 v1.n, .string v1.s, .string o1, .slice la1 n2 lc1, .slice ka1 n4 kc1, .int .i64 (pp1 : Nat), .slice ga1 n6 gc1, .slice oa1 n8 oc1, .int .i64 lim1, .int .i64 0] 34)) (.cells #[.slice ia2 n1 ic2, .bool al2, .string ta2, .int .i64 (k2 : Nat), .string c2, .int .i64 (rr2 : Nat), .int .i64 v2.k, .int .i64 v2.n, .string v2.s, .string o2, .slice la2 n3 lc2, .slice ka2 n5 kc2, .int .i64 (pp2 : Nat), .slice ga2 n7 gc2, .slice oa2 n9 oc2, .int .i64 lim2, .int .i64 0] 34)
  have hs1 : (w.alloc (.cells #[.slice ia1 n0 ic1, .bool al1, .string ta1, .int .i64 (k1 : Nat), .string c1, .int .i64 (rr1 : Nat), .int .i64 v1.k, .int .i64 v1.n, .string v1.s, .string o1, .slice la1 n2 lc1, .slice ka1 n4 kc1, .int .i64 (pp1 : Nat), .slice ga1 n6 gc1, .slice oa1 n8 oc1, .int .i64 lim1, .int .i64 0] 34)).heap.size = w.heap.size + 1 := by simp
  rw [hs1] at B2
  have g1 := World.grownBy_alloc (w.alloc (.cells #[.slice ia1 n0 ic1, .bool al1, .string ta1, .int .i64 (k1 : Nat), .string c1, .int .i64 (rr1 : Nat), .int .i64 v1.k, .int .i64 v1.n, .string v1.s, .string o1, .slice la1 n2 lc1, .slice ka1 n4 kc1, .int .i64 (pp1 : Nat), .slice ga1 n6 gc1, .slice oa1 n8 oc1, .int .i64 lim1, .int .i64 0] 34)) (.cells #[.slice ia2 n1 ic2, .bool al2, .string ta2, .int .i64 (k2 : Nat), .string c2, .int .i64 (rr2 : Nat), .int .i64 v2.k, .int .i64 v2.n, .string v2.s, .string o2, .slice la2 n3 lc2, .slice ka2 n5 kc2, .int .i64 (pp2 : Nat), .slice ga2 n7 gc2, .slice oa2 n9 oc2, .int .i64 lim2, .int .i64 0] 34) none
  have K0 := Lib.hid ((World.grownBy_alloc w (.cells #[.slice ia1 n0 ic1, .bool al1, .string ta1, .int .i64 (k1 : Nat), .string c1, .int .i64 (rr1 : Nat), .int .i64 v1.k, .int .i64 v1.n, .string v1.s, .string o1, .slice la1 n2 lc1, .slice ka1 n4 kc1, .int .i64 (pp1 : Nat), .slice ga1 n6 gc1, .slice oa1 n8 oc1, .int .i64 lim1, .int .i64 0] 34) none).trans g1)
  have B1 := Lib.hid (blk_grown g1 B1)
  have B2 := Lib.hid B2
  clear g1 hs1
  obtain ⟨a0, a1, a2, a3, a4, a5, a6, a7, a8, a9, a10, a11, a12, a13, a14, a15, a16⟩ := cells17 B1.out
  obtain ⟨d0, d1, d2, d3, d4, d5, d6, d7, d8, d9, d10, d11, d12, d13, d14, d15, d16⟩ := cells17 B2.out
  by_cases h0 : al1 = al2
  · subst h0
    by_cases h1 : ta1 = ta2
    · subst h1
      by_cases h2 : lim1 = lim2
      · subst h2
        go_enter Tryz.func15, Tryz.ntmps15
        go_wp2_with fail
        refine (HI.out _ K0.out).mono ?_
        rintro e w2 ⟨⟨r0, rfl, hr0⟩, hg⟩
        have R0 := Lib.hid hr0
        have K1 := Lib.hid (K0.out.trans hg)
        have B1 := Lib.hid (blk_grown hg B1.out)
        have B2 := Lib.hid (blk_grown hg B2.out)
        clear a0 a1 a2 a3 a4 a5 a6 a7 a8 a9 a10 a11 a12 a13 a14 a15 a16 d0 d1 d2 d3 d4 d5 d6 d7 d8 d9 d10 d11 d12 d13 d14 d15 d16
        clear hr0 hg
        obtain ⟨a0, a1, a2, a3, a4, a5, a6, a7, a8, a9, a10, a11, a12, a13, a14, a15, a16⟩ := cells17 B1.out
        obtain ⟨d0, d1, d2, d3, d4, d5, d6, d7, d8, d9, d10, d11, d12, d13, d14, d15, d16⟩ := cells17 B2.out
        cases r0 with
        | false =>
          have HN : Hid (¬ LI) := Lib.hid (fun h => by have := R0.out.2 h; cases this)
          go_wp2_with fail
          go_ret
          exact ⟨⟨false, rfl, HL.out _ (by simp [HN.out])⟩, K1.out⟩
        | true =>
          go_wp2_with fail
          refine (HG.out _ K1.out).mono ?_
          rintro e w3 ⟨⟨r1, rfl, hr1⟩, hg⟩
          have R1 := Lib.hid hr1
          have K2 := Lib.hid (K1.out.trans hg)
          have B1 := Lib.hid (blk_grown hg B1.out)
          have B2 := Lib.hid (blk_grown hg B2.out)
          clear a0 a1 a2 a3 a4 a5 a6 a7 a8 a9 a10 a11 a12 a13 a14 a15 a16 d0 d1 d2 d3 d4 d5 d6 d7 d8 d9 d10 d11 d12 d13 d14 d15 d16
          clear hr1 hg
          obtain ⟨a0, a1, a2, a3, a4, a5, a6, a7, a8, a9, a10, a11, a12, a13, a14, a15, a16⟩ := cells17 B1.out
          obtain ⟨d0, d1, d2, d3, d4, d5, d6, d7, d8, d9, d10, d11, d12, d13, d14, d15, d16⟩ := cells17 B2.out
          cases r1 with
          | false =>
            have HN : Hid (¬ LG) := Lib.hid (fun h => by have := R1.out.2 h; cases this)
            go_wp2_with fail
            go_ret
            exact ⟨⟨false, rfl, HL.out _ (by simp [HN.out])⟩, K2.out⟩
          | true =>
            go_wp2_with fail
            refine (HK.out _ K2.out).mono ?_
            rintro e w4 ⟨⟨r2, rfl, hr2⟩, hg⟩
            have R2 := Lib.hid hr2
            have K3 := Lib.hid (K2.out.trans hg)
            have B1 := Lib.hid (blk_grown hg B1.out)
            have B2 := Lib.hid (blk_grown hg B2.out)
            clear a0 a1 a2 a3 a4 a5 a6 a7 a8 a9 a10 a11 a12 a13 a14 a15 a16 d0 d1 d2 d3 d4 d5 d6 d7 d8 d9 d10 d11 d12 d13 d14 d15 d16
            clear hr2 hg
            obtain ⟨a0, a1, a2, a3, a4, a5, a6, a7, a8, a9, a10, a11, a12, a13, a14, a15, a16⟩ := cells17 B1.out
            obtain ⟨d0, d1, d2, d3, d4, d5, d6, d7, d8, d9, d10, d11, d12, d13, d14, d15, d16⟩ := cells17 B2.out
            cases r2 with
            | false =>
              have HN : Hid (¬ LO) := Lib.hid (fun h => by have := R2.out.2 h; cases this)
              go_wp2_with fail
              go_ret
              exact ⟨⟨false, rfl, HL.out _ (by simp [HN.out])⟩, K3.out⟩
            | true =>
              go_wp2_with fail
              refine (HS.out _ K3.out).mono ?_
              rintro e w5 ⟨⟨r3, rfl, hr3⟩, hg⟩
              have R3 := Lib.hid hr3
              have K4 := Lib.hid (K3.out.trans hg)
              have B1 := Lib.hid (blk_grown hg B1.out)
              have B2 := Lib.hid (blk_grown hg B2.out)
              clear a0 a1 a2 a3 a4 a5 a6 a7 a8 a9 a10 a11 a12 a13 a14 a15 a16 d0 d1 d2 d3 d4 d5 d6 d7 d8 d9 d10 d11 d12 d13 d14 d15 d16
              clear hr3 hg
              go_wp2_with fail
              go_ret
              exact ⟨⟨r3, rfl, HL.out _ (by
                have t0 := R0.out.1 (by first | rfl | trivial)
                have t1 := R1.out.1 (by first | rfl | trivial)
                have t2 := R2.out.1 (by first | rfl | trivial)
                rw [R3.out]
                simp [t0, t1, t2])⟩, K4.out⟩
      · have e2 := int_eqf h2
        have HN := Lib.hid h2
        clear h2
        go_enter Tryz.func15, Tryz.ntmps15
        go_wp2_with fail
        go_ret
        exact ⟨⟨false, rfl, HL.out _ (by simp [HN.out])⟩, K0.out⟩
    · have e1 := str_ne h1
      have HN := Lib.hid h1
      clear h1
      go_enter Tryz.func15, Tryz.ntmps15
      go_wp2_with fail
      go_ret
      exact ⟨⟨false, rfl, HL.out _ (by simp [HN.out])⟩, K0.out⟩
  · have e0 : (al1 == al2) = false := by simpa using h0
    have HN := Lib.hid h0
    clear h0
    go_enter Tryz.func15, Tryz.ntmps15
    go_wp2_with fail
    go_ret
    exact ⟨⟨false, rfl, HL.out _ (by simp [HN.out])⟩, K0.out⟩
end Go.Proofs.YtppigamibgefaaaGreatDoor
namespace Go.Proofs.YtppigamibgefaaaGreatDoor
open Go.RowKit

theorem likeP_false (x y : Itm) : Itm.likeP false x y ↔ Itm.like x y := by simp [Itm.likeP, Itm.like]
theorem BoolIs.congr {P R : Prop} {e : Ending} (h : BoolIs P e) (hp : P ↔ R) : BoolIs R e := by
  obtain ⟨b, rfl, hb⟩ := h
  exact ⟨b, rfl, hb.trans hp⟩
theorem its_iff (l m : List Itm) : (l.length = m.length ∧ ∀ i, i < l.length → Itm.likeP false (l.getD i default) (m.getD i default)) ↔ ItsLike l m := by
  unfold ItsLike
  simp only [likeP_false]
theorem one_its {W : World} {g : Nat} {x : Itm} (hb : W.heap[g]? = some (.cells #[.int .i64 x.agg, .string x.col, .int .i64 x.pos] 81 (0, 0))) : CellsS (fun _ => True) W (some ⟨g, 0, Option.none⟩) ([x].flatMap Itm.c) := by
  refine .inr ⟨g, 0, rfl, trivial, (Array.getElem?_eq_some_iff.1 hb).1, fun j u hj => ?_⟩
  rw [Nat.zero_add, cell_of_row _ _ j _ _ _ hb]
  simpa [Itm.c] using hj
set_option maxRecDepth 100000 in
set_option maxHeartbeats 12800000 in
theorem refSame_false (S : Nat → Prop) (x y : Qm) (w : World) (hx : QmS S w x) (hy : QmS S w y) (hn : x.cond.n ≤ 1000) (hl : x.items.length ≤ 1000000 ∧ x.group.length ≤ 1000000 ∧ x.order.length ≤ 1000000) :
    Calls Tryz.prog 14 #[.agg x.c, .agg y.c, .bool false] w fun e w' => BoolIs (Qm.like x y) e ∧ w.grownBy w' none := by
  obtain ⟨ia1, ic1, its1, al1, ta1, ⟨k1, c1, rr1, v1, o1, la1, lc1, li1, ka1, kc1, ks1, pp1⟩, ga1, gc1, gr1, oa1, oc1, od1, lim1⟩ := x
  obtain ⟨ia2, ic2, its2, al2, ta2, ⟨k2, c2, rr2, v2, o2, la2, lc2, li2, ka2, kc2, ks2, pp2⟩, ga2, gc2, gr2, oa2, oc2, od2, lim2⟩ := y
  have HI : Hid (∀ W, w.grownBy W none → Calls Tryz.prog 34 #[.slice ia1 its1.length ic1, .slice ia2 its2.length ic2, .bool false] W fun e w' => BoolIs (ItsLike its1 its2) e ∧ W.grownBy w' none) := Lib.hid (fun W hW => (refItems_any false S ia1 ia2 ic1 ic2 its1 its2 W (hx.1.1.keep (.of hW)) (hy.1.1.keep (.of hW)) hl.1).mono fun e w' h => ⟨h.1.congr (its_iff _ _), h.2⟩)
  have HG : Hid (∀ W, w.grownBy W none → Calls Tryz.prog 34 #[.slice ga1 gr1.length gc1, .slice ga2 gr2.length gc2, .bool false] W fun e w' => BoolIs (ItsLike gr1 gr2) e ∧ W.grownBy w' none) := Lib.hid (fun W hW => (refItems_any false S ga1 ga2 gc1 gc2 gr1 gr2 W (hx.2.2.1.1.keep (.of hW)) (hy.2.2.1.1.keep (.of hW)) hl.2.1).mono fun e w' h => ⟨h.1.congr (its_iff _ _), h.2⟩)
  have HS : Hid (∀ W, w.grownBy W none → Calls Tryz.prog 17 #[.agg #[.int .i64 (k1 : Nat), .string c1, .int .i64 (rr1 : Nat), .int .i64 v1.k, .int .i64 v1.n, .string v1.s, .string o1, .slice la1 li1.length lc1, .slice ka1 ks1.length kc1, .int .i64 (pp1 : Nat)], .agg #[.int .i64 (k2 : Nat), .string c2, .int .i64 (rr2 : Nat), .int .i64 v2.k, .int .i64 v2.n, .string v2.s, .string o2, .slice la2 li2.length lc2, .slice ka2 ks2.length kc2, .int .i64 (pp2 : Nat)], .bool false] W fun e w' => BoolIs ((.mk k1 c1 rr1 v1 o1 la1 lc1 li1 ka1 kc1 ks1 pp1 : Pm).z false = (.mk k2 c2 rr2 v2 o2 la2 lc2 li2 ka2 kc2 ks2 pp2 : Pm).z false) e ∧ W.grownBy w' none) := Lib.hid (fun W hW => refSamePred_false S 1000 (.mk k1 c1 rr1 v1 o1 la1 lc1 li1 ka1 kc1 ks1 pp1 : Pm) (.mk k2 c2 rr2 v2 o2 la2 lc2 li2 ka2 kc2 ks2 pp2 : Pm) W hn hn (hx.2.1.keep (.of hW)) (hy.2.1.keep (.of hW)))
  have HC1 := Lib.hid (fun W (hW : w.grownBy W none) => hx.2.2.2.1.keep (.of hW))
  have HC2 := Lib.hid (fun W (hW : w.grownBy W none) => hy.2.2.2.1.keep (.of hW))
  have HP : Hid (∀ (X Y : Itm) (W : World) (g g' : Nat), W.heap[g]? = some (.cells #[.int .i64 X.agg, .string X.col, .int .i64 X.pos] 81 (0, 0)) → W.heap[g']? = some (.cells #[.int .i64 Y.agg, .string Y.col, .int .i64 Y.pos] 81 (0, 0)) → Calls Tryz.prog 34 #[.slice (some ⟨g, 0, none⟩) 1 1, .slice (some ⟨g', 0, none⟩) 1 1, .bool false] W fun e w' => BoolIs (Itm.like X Y) e ∧ W.grownBy w' none) := Lib.hid (fun X Y W g g' hb hb' => (refItems_any false (fun _ => True) (some ⟨g, 0, none⟩) (some ⟨g', 0, none⟩) 1 1 [X] [Y] W (one_its hb) (one_its hb') (by simp)).mono fun e w' h => ⟨h.1.congr (by simp [likeP_false]), h.2⟩)
  have HL : Hid (∀ b : Bool, (b = true ↔ al1 = al2 ∧ ta1 = ta2 ∧ lim1 = lim2 ∧ ItsLike its1 its2 ∧ ItsLike gr1 gr2 ∧ (od1.length = od2.length ∧ ∀ i, i < od1.length → Kyo.like (od1.getD i default) (od2.getD i default)) ∧ (.mk k1 c1 rr1 v1 o1 la1 lc1 li1 ka1 kc1 ks1 pp1 : Pm).z false = (.mk k2 c2 rr2 v2 o2 la2 lc2 li2 ka2 kc2 ks2 pp2 : Pm).z false) → (b = true ↔ Qm.like ⟨ia1, ic1, its1, al1, ta1, ⟨k1, c1, rr1, v1, o1, la1, lc1, li1, ka1, kc1, ks1, pp1⟩, ga1, gc1, gr1, oa1, oc1, od1, lim1⟩ ⟨ia2, ic2, its2, al2, ta2, ⟨k2, c2, rr2, v2, o2, la2, lc2, li2, ka2, kc2, ks2, pp2⟩, ga2, gc2, gr2, oa2, oc2, od2, lim2⟩)) := Lib.hid (fun _ h => h)
  show Calls Tryz.prog 14 #[.agg #[.slice ia1 its1.length ic1, .bool al1, .string ta1, .int .i64 (k1 : Nat), .string c1, .int .i64 (rr1 : Nat), .int .i64 v1.k, .int .i64 v1.n, .string v1.s, .string o1, .slice la1 li1.length lc1, .slice ka1 ks1.length kc1, .int .i64 (pp1 : Nat), .slice ga1 gr1.length gc1, .slice oa1 od1.length oc1, .int .i64 lim1, .int .i64 0], .agg #[.slice ia2 its2.length ic2, .bool al2, .string ta2, .int .i64 (k2 : Nat), .string c2, .int .i64 (rr2 : Nat), .int .i64 v2.k, .int .i64 v2.n, .string v2.s, .string o2, .slice la2 li2.length lc2, .slice ka2 ks2.length kc2, .int .i64 (pp2 : Nat), .slice ga2 gr2.length gc2, .slice oa2 od2.length oc2, .int .i64 lim2, .int .i64 0], .bool false] w _
  generalize Qm.like ⟨ia1, ic1, its1, al1, ta1, ⟨k1, c1, rr1, v1, o1, la1, lc1, li1, ka1, kc1, ks1, pp1⟩, ga1, gc1, gr1, oa1, oc1, od1, lim1⟩ ⟨ia2, ic2, its2, al2, ta2, ⟨k2, c2, rr2, v2, o2, la2, lc2, li2, ka2, kc2, ks2, pp2⟩, ga2, gc2, gr2, oa2, oc2, od2, lim2⟩ = LK at *
  generalize ItsLike its1 its2 = LI at *
  generalize ItsLike gr1 gr2 = LG at *
  generalize (.mk k1 c1 rr1 v1 o1 la1 lc1 li1 ka1 kc1 ks1 pp1 : Pm).z false = zx at *
  generalize (.mk k2 c2 rr2 v2 o2 la2 lc2 li2 ka2 kc2 ks2 pp2 : Pm).z false = zy at *
  obtain ⟨LZ, hLZ⟩ : ∃ P : Prop, P = (zx = zy) := ⟨_, rfl⟩
  rw [← hLZ] at HS HL
  have hod := hl.2.2
  simp only at hod
  clear hx hy hn hl hLZ
  obtain ⟨n8, hn8⟩ : ∃ m, m = od1.length := ⟨_, rfl⟩
  obtain ⟨n9, hn9⟩ : ∃ m, m = od2.length := ⟨_, rfl⟩
  have HM := Lib.hid (And.intro hn8 hn9)
  rw [← hn8] at hod ⊢
  rw [← hn9]
  rw [← hn8, ← hn9] at HL
  clear hn8 hn9
  generalize its1.length = n0 at *
  generalize its2.length = n1 at *
  generalize li1.length = n2 at *
  generalize li2.length = n3 at *
  generalize ks1.length = n4 at *
  generalize ks2.length = n5 at *
  generalize gr1.length = n6 at *
  generalize gr2.length = n7 at *
  have B1 := heap_alloc_new w (.cells #[.slice ia1 n0 ic1, .bool al1, .string ta1, .int .i64 (k1 : Nat), .string c1, .int .i64 (rr1 : Nat), .int .i64 v1.k, .int .i64 v1.n, .string v1.s, .string o1, .slice la1 n2 lc1, .slice ka1 n4 kc1, .int .i64 (pp1 : Nat), .slice ga1 n6 gc1, .slice oa1 n8 oc1, .int .i64 lim1, .int .i64 0] 34)
  have B2 := heap_alloc_new (w.alloc (.cells #[.slice ia1 n0 ic1, .bool al1, .string ta1, .int .i64 (k1 : Nat), .string c1, .int .i64 (rr1 : Nat), .int .i64 v1.k, .int .i64 v1.n, .string v1.s, .string o1, .slice la1 n2 lc1, .slice ka1 n4 kc1, .int .i64 (pp1 : Nat), .slice ga1 n6 gc1, .slice oa1 n8 oc1, .int .i64 lim1, .int .i64 0] 34)) (.cells #[.slice ia2 n1 ic2, .bool al2, .string ta2, .int .i64 (k2 : Nat), .string c2, .int .i64 (rr2 : Nat), .int .i64 v2.k, .int .i64 v2.n, .string v2.s, .string o2, .slice la2 n3 lc2, .slice ka2 n5 kc2, .int .i64 (pp2 : Nat), .slice ga2 n7 gc2, .slice oa2 n9 oc2, .int .i64 lim2, .int .i64 0] 34)
  have hs1 : (w.alloc (.cells #[.slice ia1 n0 ic1, .bool al1, .string ta1, .int .i64 (k1 : Nat), .string c1, .int .i64 (rr1 : Nat), .int .i64 v1.k, .int .i64 v1.n, .string v1.s, .string o1, .slice la1 n2 lc1, .slice ka1 n4 kc1, .int .i64 (pp1 : Nat), .slice ga1 n6 gc1, .slice oa1 n8 oc1, .int .i64 lim1, .int .i64 0] 34)).heap.size = w.heap.size + 1 := by simp
  rw [hs1] at B2
  have g1 := World.grownBy_alloc (w.alloc (.cells #[.slice ia1 n0 ic1, .bool al1, .string ta1, .int .i64 (k1 : Nat), .string c1, .int .i64 (rr1 : Nat), .int .i64 v1.k, .int .i64 v1.n, .string v1.s, .string o1, .slice la1 n2 lc1, .slice ka1 n4 kc1, .int .i64 (pp1 : Nat), .slice ga1 n6 gc1, .slice oa1 n8 oc1, .int .i64 lim1, .int .i64 0] 34)) (.cells #[.slice ia2 n1 ic2, .bool al2, .string ta2, .int .i64 (k2 : Nat), .string c2, .int .i64 (rr2 : Nat), .int .i64 v2.k, .int .i64 v2.n, .string v2.s, .string o2, .slice la2 n3 lc2, .slice ka2 n5 kc2, .int .i64 (pp2 : Nat), .slice ga2 n7 gc2, .slice oa2 n9 oc2, .int .i64 lim2, .int .i64 0] 34) none
  have K0 := Lib.hid ((World.grownBy_alloc w (.cells #[.slice ia1 n0 ic1, .bool al1, .string ta1, .int .i64 (k1 : Nat), .string c1, .int .i64 (rr1 : Nat), .int .i64 v1.k, .int .i64 v1.n, .string v1.s, .string o1, .slice la1 n2 lc1, .slice ka1 n4 kc1, .int .i64 (pp1 : Nat), .slice ga1 n6 gc1, .slice oa1 n8 oc1, .int .i64 lim1, .int .i64 0] 34) none).trans g1)
  have V0 := Lib.hid (blk_grown g1 B1)
  have U0 := Lib.hid B2
  clear g1 hs1 B1 B2
  obtain ⟨a0, a1, a2, a3, a4, a5, a6, a7, a8, a9, a10, a11, a12, a13, a14, a15, a16⟩ := cells17 V0.out
  obtain ⟨d0, d1, d2, d3, d4, d5, d6, d7, d8, d9, d10, d11, d12, d13, d14, d15, d16⟩ := cells17 U0.out
  by_cases h0 : al1 = al2
  · subst h0
    by_cases h1 : ta1 = ta2
    · subst h1
      by_cases h2 : lim1 = lim2
      · subst h2
        by_cases h3 : n8 = n9
        · subst h3
          go_enter Tryz.func14, Tryz.ntmps14
          go_wp2_with fail
          refine (HI.out _ K0.out).mono ?_
          rintro e w2 ⟨⟨r0, rfl, hr0⟩, hg⟩
          have R0 := Lib.hid hr0
          have K1 := Lib.hid (K0.out.trans hg)
          have V1 := Lib.hid (blk_grown hg V0.out)
          have U1 := Lib.hid (blk_grown hg U0.out)
          clear a0 a1 a2 a3 a4 a5 a6 a7 a8 a9 a10 a11 a12 a13 a14 a15 a16 d0 d1 d2 d3 d4 d5 d6 d7 d8 d9 d10 d11 d12 d13 d14 d15 d16
          clear hr0 hg
          obtain ⟨a0, a1, a2, a3, a4, a5, a6, a7, a8, a9, a10, a11, a12, a13, a14, a15, a16⟩ := cells17 V1.out
          obtain ⟨d0, d1, d2, d3, d4, d5, d6, d7, d8, d9, d10, d11, d12, d13, d14, d15, d16⟩ := cells17 U1.out
          cases r0 with
          | false =>
            have HN : Hid (¬ LI) := Lib.hid (fun h => by have := R0.out.2 h; cases this)
            go_wp2_with fail
            go_ret
            exact ⟨⟨false, rfl, HL.out _ (by simp [HN.out])⟩, K1.out⟩
          | true =>
            go_wp2_with fail
            refine (HG.out _ K1.out).mono ?_
            rintro e w3 ⟨⟨r1, rfl, hr1⟩, hg⟩
            have R1 := Lib.hid hr1
            have K2 := Lib.hid (K1.out.trans hg)
            have V2 := Lib.hid (blk_grown hg V1.out)
            have U2 := Lib.hid (blk_grown hg U1.out)
            clear a0 a1 a2 a3 a4 a5 a6 a7 a8 a9 a10 a11 a12 a13 a14 a15 a16 d0 d1 d2 d3 d4 d5 d6 d7 d8 d9 d10 d11 d12 d13 d14 d15 d16
            clear hr1 hg
            obtain ⟨a0, a1, a2, a3, a4, a5, a6, a7, a8, a9, a10, a11, a12, a13, a14, a15, a16⟩ := cells17 V2.out
            obtain ⟨d0, d1, d2, d3, d4, d5, d6, d7, d8, d9, d10, d11, d12, d13, d14, d15, d16⟩ := cells17 U2.out
            cases r1 with
            | false =>
              have HN : Hid (¬ LG) := Lib.hid (fun h => by have := R1.out.2 h; cases this)
              go_wp2_with fail
              go_ret
              exact ⟨⟨false, rfl, HL.out _ (by simp [HN.out])⟩, K2.out⟩
            | true =>
              go_wp2_with fail
              refine (HS.out _ K2.out).mono ?_
              rintro e w4 ⟨⟨r2, rfl, hr2⟩, hg⟩
              have R2 := Lib.hid hr2
              have K3 := Lib.hid (K2.out.trans hg)
              have V3 := Lib.hid (blk_grown hg V2.out)
              have U3 := Lib.hid (blk_grown hg U2.out)
              clear a0 a1 a2 a3 a4 a5 a6 a7 a8 a9 a10 a11 a12 a13 a14 a15 a16 d0 d1 d2 d3 d4 d5 d6 d7 d8 d9 d10 d11 d12 d13 d14 d15 d16
              clear hr2 hg
              obtain ⟨a0, a1, a2, a3, a4, a5, a6, a7, a8, a9, a10, a11, a12, a13, a14, a15, a16⟩ := cells17 V3.out
              obtain ⟨d0, d1, d2, d3, d4, d5, d6, d7, d8, d9, d10, d11, d12, d13, d14, d15, d16⟩ := cells17 U3.out
              cases r2 with
              | false =>
                have HN : Hid (¬ LZ) := Lib.hid (fun h => by have := R2.out.2 h; cases this)
                go_wp2_with fail
                go_ret
                exact ⟨⟨false, rfl, HL.out _ (by simp [HN.out])⟩, K3.out⟩
              | true =>
                go_wp2_with fail
                have GB := Lib.hid (grown_reflX w4 none)
                have HLI : Hid (LI ∧ LG ∧ LZ) := Lib.hid ⟨R0.out.1 (by first | rfl | trivial), R1.out.1 (by first | rfl | trivial), R2.out.1 (by first | rfl | trivial)⟩
                clear a0 a1 a2 a3 a4 a5 a6 a7 a8 a9 a10 a11 a12 a13 a14 a15 a16 d0 d1 d2 d3 d4 d5 d6 d7 d8 d9 d10 d11 d12 d13 d14 d15 d16
                go_loopw [66] (fun i wr => ∃ (j : Nat), i = .int .i64 j ∧ j ≤ n8 ∧ Hid (∀ q, q < j → Kyo.like (od1.getD q default) (od2.getD q default)) ∧ Hid (w4.grownBy wr none)) (fun i _ => n8 - (intOf i).toNat)
                case atStart => exact ⟨0, rfl, by omega, Lib.hid (fun i hi => by omega), GB⟩
                case round =>
                  obtain ⟨j, rfl, hj, E, K⟩ := hrel
                  by_cases hlt : j < n8
                  · obtain ⟨b, off, rfl, _, hb, hc⟩ := (HC1.out wr (K3.out.trans K.out)).elem Kyo.c_len (by decide) (i := j) (by rw [← HM.out.1]; exact hlt)
                    obtain ⟨b', off', rfl, _, hb', hc'⟩ := (HC2.out wr (K3.out.trans K.out)).elem Kyo.c_len (by decide) (i := j) (by rw [← HM.out.2]; exact hlt)
                    have E2 : Hid (Kyo.like (od1.getD j default) (od2.getD j default) → ∀ q, q < j + 1 → Kyo.like (od1.getD q default) (od2.getD q default)) := Lib.hid fun h q hq => by
                      by_cases e : q = j
                      · rw [e]; exact h
                      · exact E.out q (by omega)
                    have E3 : Hid (¬ Kyo.like (od1.getD j default) (od2.getD j default) → ¬ ∀ q, q < n8 → Kyo.like (od1.getD q default) (od2.getD q default)) := Lib.hid fun h hA => h (hA j hlt)
                    obtain ⟨_, _, _, _, _, _, _, _, _, _, _, _, _, _, a14, _, _⟩ := cells17 (blk_grown K.out V3.out)
                    obtain ⟨_, _, _, _, _, _, _, _, _, _, _, _, _, _, d14, _, _⟩ := cells17 (blk_grown K.out U3.out)
                    generalize od1.getD j default = X at *
                    generalize od2.getD j default = Y at *
                    have HPj := Lib.hid (HP.out X.item Y.item)
                    obtain ⟨⟨xa, xc, xp⟩, xd⟩ := X
                    obtain ⟨⟨ya, yc, yp⟩, yd⟩ := Y
                    simp only [Kyo.like] at E2 E3
                    have x0 := hc 0 _ rfl
                    have x1 := hc 1 _ rfl
                    have x2 := hc 2 _ rfl
                    have x3 := hc 3 _ rfl
                    have y0 := hc' 0 _ rfl
                    have y1 := hc' 1 _ rfl
                    have y2 := hc' 2 _ rfl
                    have y3 := hc' 3 _ rfl
                    clear hc hc'
                    rw [Nat.add_zero] at x0 y0
                    by_cases hd : xd = yd
                    · subst hd
                      have O1 := Lib.hid (blk_grown (World.grownBy_alloc (wr.alloc (.cells #[.int .i64 (xa : Nat), .string xc, .int .i64 (xp : Nat)] 81)) (.cells #[.int .i64 (ya : Nat), .string yc, .int .i64 (yp : Nat)] 81) none) (heap_alloc_new wr (.cells #[.int .i64 (xa : Nat), .string xc, .int .i64 (xp : Nat)] 81)))
                      have O2 := heap_alloc_new (wr.alloc (.cells #[.int .i64 (xa : Nat), .string xc, .int .i64 (xp : Nat)] 81)) (.cells #[.int .i64 (ya : Nat), .string yc, .int .i64 (yp : Nat)] 81)
                      have s1 : (wr.alloc (.cells #[.int .i64 (xa : Nat), .string xc, .int .i64 (xp : Nat)] 81)).heap.size = wr.heap.size + 1 := by simp
                      rw [s1] at O2
                      have O2 := Lib.hid O2
                      have O3 := Lib.hid (blk_grown (World.grownBy_alloc (wr.alloc (.cells #[.int .i64 (ya : Nat), .string yc, .int .i64 (yp : Nat)] 81)) (.cells #[.int .i64 (xa : Nat), .string xc, .int .i64 (xp : Nat)] 81) none) (heap_alloc_new wr (.cells #[.int .i64 (ya : Nat), .string yc, .int .i64 (yp : Nat)] 81)))
                      have O4 := heap_alloc_new (wr.alloc (.cells #[.int .i64 (ya : Nat), .string yc, .int .i64 (yp : Nat)] 81)) (.cells #[.int .i64 (xa : Nat), .string xc, .int .i64 (xp : Nat)] 81)
                      have s2 : (wr.alloc (.cells #[.int .i64 (ya : Nat), .string yc, .int .i64 (yp : Nat)] 81)).heap.size = wr.heap.size + 1 := by simp
                      rw [s2] at O4
                      have O4 := Lib.hid O4
                      have GO1 := Lib.hid ((World.grownBy_alloc wr (.cells #[.int .i64 (xa : Nat), .string xc, .int .i64 (xp : Nat)] 81) none).trans (World.grownBy_alloc _ (.cells #[.int .i64 (ya : Nat), .string yc, .int .i64 (yp : Nat)] 81) none))
                      have GO2 := Lib.hid ((World.grownBy_alloc wr (.cells #[.int .i64 (ya : Nat), .string yc, .int .i64 (yp : Nat)] 81) none).trans (World.grownBy_alloc _ (.cells #[.int .i64 (xa : Nat), .string xc, .int .i64 (xp : Nat)] 81) none))
                      clear s1 s2
                      go_wp2_with fail
                      refine wp_region_held_drew (S := (fun W => Hid (wr.grownBy W none))) (by kernel_rfl) (Lib.hid (grown_drewT (grown_reflX _ _))) (fun hHeld => ?_)
                      refine wpAnyH_take (i := 0) (v := ?v0z1) rfl (by kernel_rfl) (by kernel_rfl) (by kernel_rfl) (fun _ _ _ h => h) (Or.inl ⟨by rfl, ?y0z1⟩) (by assumption) ?r0z1
                      case y0z1 => (intro w hSw; (try dsimp only at hSw); go_simp; try with_reducible rfl)
                      simp only [Act.put, List.getElem_toArray, List.getElem_cons_zero, List.size_toArray, List.length_cons, List.length_nil, Nat.reduceAdd, Array.replicate, List.replicate, List.setIfInBounds_toArray, List.set_cons_zero, List.set_cons_succ]
                      refine wpAnyH_take (i := 1) (v := ?v1z2) rfl (by kernel_rfl) (by kernel_rfl) (by kernel_rfl) (fun _ _ _ h => h) (Or.inl ⟨by rfl, ?y1z2⟩) (by assumption) ?r1z2
                      case y1z2 => (intro w hSw; have h0 := hSw.out.cell a14 (by simp); clear hSw; go_simp; try with_reducible rfl)
                      simp only [Act.put, List.getElem_toArray, List.getElem_cons_succ, List.getElem_cons_zero, List.setIfInBounds_toArray, List.set_cons_zero, List.set_cons_succ]
                      refine wpAnyH_take (i := 2) (v := ?v2z3) rfl (by kernel_rfl) (by kernel_rfl) (by kernel_rfl) (fun _ _ _ h => h) (Or.inl ⟨by rfl, ?y2z3⟩) (by assumption) ?r2z3
                      case y2z3 => (intro w hSw; (try dsimp only at hSw); go_simp; try with_reducible rfl)
                      simp only [Act.put, List.getElem_toArray, List.getElem_cons_succ, List.getElem_cons_zero, List.setIfInBounds_toArray, List.set_cons_zero, List.set_cons_succ]
                      refine wpAnyH_take (i := 3) (v := ?v3z4) rfl (by kernel_rfl) (by kernel_rfl) (by kernel_rfl) (fun _ _ _ h => h) (Or.inl ⟨by rfl, ?y3z4⟩) (by assumption) ?r3z4
                      case y3z4 => (intro w hSw; (try dsimp only at hSw); go_simp; try with_reducible rfl)
                      simp only [Act.put, List.getElem_toArray, List.getElem_cons_succ, List.getElem_cons_zero, List.setIfInBounds_toArray, List.set_cons_zero, List.set_cons_succ]
                      refine wpAnyH_take (i := 4) (v := ?v4z5) rfl (by kernel_rfl) (by kernel_rfl) (by kernel_rfl) (fun _ _ _ h => h) (Or.inl ⟨by rfl, ?y4z5⟩) (by assumption) ?r4z5
                      case y4z5 => (intro w hSw; (try dsimp only at hSw); go_simp; try with_reducible rfl)
                      simp only [Act.put, List.getElem_toArray, List.getElem_cons_succ, List.getElem_cons_zero, List.setIfInBounds_toArray, List.set_cons_zero, List.set_cons_succ]
                      refine wpAnyH_take (i := 5) (v := ?v5z6) rfl (by kernel_rfl) (by kernel_rfl) (by kernel_rfl) (fun _ _ _ h => h) (Or.inl ⟨by rfl, ?y5z6⟩) (by assumption) ?r5z6
                      case y5z6 => (intro w hSw; have h0 := hSw.out.cell x3 (by simp); clear hSw; go_simp; try with_reducible rfl)
                      simp only [Act.put, List.getElem_toArray, List.getElem_cons_succ, List.getElem_cons_zero, List.setIfInBounds_toArray, List.set_cons_zero, List.set_cons_succ]
                      refine wpAnyH_take (i := 6) (v := ?v6z7) rfl (by kernel_rfl) (by kernel_rfl) (by kernel_rfl) (fun _ _ _ h => h) (Or.inl ⟨by rfl, ?y6z7⟩) (by assumption) ?r6z7
                      case y6z7 => (intro w hSw; (try dsimp only at hSw); go_simp; try with_reducible rfl)
                      simp only [Act.put, List.getElem_toArray, List.getElem_cons_succ, List.getElem_cons_zero, List.setIfInBounds_toArray, List.set_cons_zero, List.set_cons_succ]
                      refine wpAnyH_take (i := 7) (v := ?v7z8) rfl (by kernel_rfl) (by kernel_rfl) (by kernel_rfl) (fun _ _ _ h => h) (Or.inl ⟨by rfl, ?y7z8⟩) (by assumption) ?r7z8
                      case y7z8 => (intro w hSw; have h0 := hSw.out.cell d14 (by simp); clear hSw; go_simp; try with_reducible rfl)
                      simp only [Act.put, List.getElem_toArray, List.getElem_cons_succ, List.getElem_cons_zero, List.setIfInBounds_toArray, List.set_cons_zero, List.set_cons_succ]
                      refine wpAnyH_take (i := 8) (v := ?v8z9) rfl (by kernel_rfl) (by kernel_rfl) (by kernel_rfl) (fun _ _ _ h => h) (Or.inl ⟨by rfl, ?y8z9⟩) (by assumption) ?r8z9
                      case y8z9 => (intro w hSw; (try dsimp only at hSw); go_simp; try with_reducible rfl)
                      simp only [Act.put, List.getElem_toArray, List.getElem_cons_succ, List.getElem_cons_zero, List.setIfInBounds_toArray, List.set_cons_zero, List.set_cons_succ]
                      refine wpAnyH_take (i := 9) (v := ?v9z10) rfl (by kernel_rfl) (by kernel_rfl) (by kernel_rfl) (fun _ _ _ h => h) (Or.inl ⟨by rfl, ?y9z10⟩) (by assumption) ?r9z10
                      case y9z10 => (intro w hSw; (try dsimp only at hSw); go_simp; try with_reducible rfl)
                      simp only [Act.put, List.getElem_toArray, List.getElem_cons_succ, List.getElem_cons_zero, List.setIfInBounds_toArray, List.set_cons_zero, List.set_cons_succ]
                      refine wpAnyH_take (i := 10) (v := ?v10z11) rfl (by kernel_rfl) (by kernel_rfl) (by kernel_rfl) (fun _ _ _ h => h) (Or.inl ⟨by rfl, ?y10z11⟩) (by assumption) ?r10z11
                      case y10z11 => (intro w hSw; (try dsimp only at hSw); go_simp; try with_reducible rfl)
                      simp only [Act.put, List.getElem_toArray, List.getElem_cons_succ, List.getElem_cons_zero, List.setIfInBounds_toArray, List.set_cons_zero, List.set_cons_succ]
                      refine wpAnyH_take (i := 11) (v := ?v11z12) rfl (by kernel_rfl) (by kernel_rfl) (by kernel_rfl) (fun _ _ _ h => h) (Or.inl ⟨by rfl, ?y11z12⟩) (by assumption) ?r11z12
                      case y11z12 => (intro w hSw; have h0 := hSw.out.cell y3 (by simp); clear hSw; go_simp; try with_reducible rfl)
                      simp only [Act.put, List.getElem_toArray, List.getElem_cons_succ, List.getElem_cons_zero, List.setIfInBounds_toArray, List.set_cons_zero, List.set_cons_succ]
                      refine wpAnyH_take (i := 12) (v := ?v12z13) rfl (by kernel_rfl) (by kernel_rfl) (by kernel_rfl) (fun _ _ _ h => h) (Or.inl ⟨by rfl, ?y12z13⟩) (by assumption) ?r12z13
                      case y12z13 => (intro w hSw; (try dsimp only at hSw); go_simp; try with_reducible rfl)
                      simp only [Act.put, List.getElem_toArray, List.getElem_cons_succ, List.getElem_cons_zero, List.setIfInBounds_toArray, List.set_cons_zero, List.set_cons_succ]
                      refine wpAnyH_take (i := 13) (v := ?v13z14) rfl (by kernel_rfl) (by kernel_rfl) (by kernel_rfl) (fun _ _ _ h => h) (Or.inl ⟨by rfl, ?y13z14⟩) (by assumption) ?r13z14
                      case y13z14 => (intro w hSw; (try dsimp only at hSw); go_simp; try with_reducible rfl)
                      simp only [Act.put, List.getElem_toArray, List.getElem_cons_succ, List.getElem_cons_zero, List.setIfInBounds_toArray, List.set_cons_zero, List.set_cons_succ]
                      refine wpAnyH_take (i := 14) (v := ?v14z15) rfl (by kernel_rfl) (by kernel_rfl) (by kernel_rfl) (fun _ _ _ h => h) (Or.inl ⟨by rfl, ?y14z15⟩) (by assumption) ?r14z15
                      case y14z15 => (intro w hSw; (try dsimp only at hSw); go_simp; try with_reducible rfl)
                      simp only [Act.put, List.getElem_toArray, List.getElem_cons_succ, List.getElem_cons_zero, List.setIfInBounds_toArray, List.set_cons_zero, List.set_cons_succ]
                      refine wpAnyH_take (i := 15) (v := ?v15z16) rfl (by kernel_rfl) (by kernel_rfl) (by kernel_rfl) (fun _ _ _ h => h) (Or.inl ⟨by rfl, ?y15z16⟩) (by assumption) ?r15z16
                      case y15z16 => (intro w hSw; have h0 := hSw.out.cell a14 (by simp); clear hSw; go_simp; try with_reducible rfl)
                      simp only [Act.put, List.getElem_toArray, List.getElem_cons_succ, List.getElem_cons_zero, List.setIfInBounds_toArray, List.set_cons_zero, List.set_cons_succ]
                      refine wpAnyH_take (i := 16) (v := ?v16z17) rfl (by kernel_rfl) (by kernel_rfl) (by kernel_rfl) (fun _ _ _ h => h) (Or.inl ⟨by rfl, ?y16z17⟩) (by assumption) ?r16z17
                      case y16z17 => (intro w hSw; (try dsimp only at hSw); go_simp; try with_reducible rfl)
                      simp only [Act.put, List.getElem_toArray, List.getElem_cons_succ, List.getElem_cons_zero, List.setIfInBounds_toArray, List.set_cons_zero, List.set_cons_succ]
                      refine wpAnyH_take (i := 17) (v := ?v17z18) rfl (by kernel_rfl) (by kernel_rfl) (by kernel_rfl) (fun _ _ _ h => h) (Or.inl ⟨by rfl, ?y17z18⟩) (by assumption) ?r17z18
                      case y17z18 => (intro w hSw; (try dsimp only at hSw); go_simp; try with_reducible rfl)
                      simp only [Act.put, List.getElem_toArray, List.getElem_cons_succ, List.getElem_cons_zero, List.setIfInBounds_toArray, List.set_cons_zero, List.set_cons_succ]
                      refine wpAnyH_take (i := 18) (v := ?v18z19) rfl (by kernel_rfl) (by kernel_rfl) (by kernel_rfl) (fun _ _ _ h => h) (Or.inl ⟨by rfl, ?y18z19⟩) (by assumption) ?r18z19
                      case y18z19 => (intro w hSw; (try dsimp only at hSw); go_simp; try with_reducible rfl)
                      simp only [Act.put, List.getElem_toArray, List.getElem_cons_succ, List.getElem_cons_zero, List.setIfInBounds_toArray, List.set_cons_zero, List.set_cons_succ]
                      refine wpAnyH_take (i := 19) (v := ?v19z20) rfl (by kernel_rfl) (by kernel_rfl) (by kernel_rfl) (fun _ _ _ h => h) (Or.inl ⟨by rfl, ?y19z20⟩) (by assumption) ?r19z20
                      case y19z20 => (intro w hSw; have h0 := hSw.out.cell x0 (by simp); have h1 := hSw.out.cell x1 (by simp); have h2 := hSw.out.cell x2 (by simp); clear hSw; go_simp; try with_reducible rfl)
                      simp only [Act.put, List.getElem_toArray, List.getElem_cons_succ, List.getElem_cons_zero, List.setIfInBounds_toArray, List.set_cons_zero, List.set_cons_succ]
                      refine wpAnyH_take (i := 21) (v := ?v21z21) rfl (by kernel_rfl) (by kernel_rfl) (by kernel_rfl) (fun _ _ _ h => h) (Or.inl ⟨by rfl, ?y21z21⟩) (by assumption) ?r21z21
                      case y21z21 => (intro w hSw; (try dsimp only at hSw); go_simp; try with_reducible rfl)
                      simp only [Act.put, List.getElem_toArray, List.getElem_cons_succ, List.getElem_cons_zero, List.setIfInBounds_toArray, List.set_cons_zero, List.set_cons_succ]
                      refine wpAnyH_take (i := 22) (v := ?v22z22) rfl (by kernel_rfl) (by kernel_rfl) (by kernel_rfl) (fun _ _ _ h => h) (Or.inl ⟨by rfl, ?y22z22⟩) (by assumption) ?r22z22
                      case y22z22 => (intro w hSw; have h0 := hSw.out.cell d14 (by simp); clear hSw; go_simp; try with_reducible rfl)
                      simp only [Act.put, List.getElem_toArray, List.getElem_cons_succ, List.getElem_cons_zero, List.setIfInBounds_toArray, List.set_cons_zero, List.set_cons_succ]
                      refine wpAnyH_take (i := 23) (v := ?v23z23) rfl (by kernel_rfl) (by kernel_rfl) (by kernel_rfl) (fun _ _ _ h => h) (Or.inl ⟨by rfl, ?y23z23⟩) (by assumption) ?r23z23
                      case y23z23 => (intro w hSw; (try dsimp only at hSw); go_simp; try with_reducible rfl)
                      simp only [Act.put, List.getElem_toArray, List.getElem_cons_succ, List.getElem_cons_zero, List.setIfInBounds_toArray, List.set_cons_zero, List.set_cons_succ]
                      refine wpAnyH_take (i := 24) (v := ?v24z24) rfl (by kernel_rfl) (by kernel_rfl) (by kernel_rfl) (fun _ _ _ h => h) (Or.inl ⟨by rfl, ?y24z24⟩) (by assumption) ?r24z24
                      case y24z24 => (intro w hSw; (try dsimp only at hSw); go_simp; try with_reducible rfl)
                      simp only [Act.put, List.getElem_toArray, List.getElem_cons_succ, List.getElem_cons_zero, List.setIfInBounds_toArray, List.set_cons_zero, List.set_cons_succ]
                      refine wpAnyH_take (i := 25) (v := ?v25z25) rfl (by kernel_rfl) (by kernel_rfl) (by kernel_rfl) (fun _ _ _ h => h) (Or.inl ⟨by rfl, ?y25z25⟩) (by assumption) ?r25z25
                      case y25z25 => (intro w hSw; (try dsimp only at hSw); go_simp; try with_reducible rfl)
                      simp only [Act.put, List.getElem_toArray, List.getElem_cons_succ, List.getElem_cons_zero, List.setIfInBounds_toArray, List.set_cons_zero, List.set_cons_succ]
                      refine wpAnyH_take (i := 26) (v := ?v26z26) rfl (by kernel_rfl) (by kernel_rfl) (by kernel_rfl) (fun _ _ _ h => h) (Or.inl ⟨by rfl, ?y26z26⟩) (by assumption) ?r26z26
                      case y26z26 => (intro w hSw; have h0 := hSw.out.cell y0 (by simp); have h1 := hSw.out.cell y1 (by simp); have h2 := hSw.out.cell y2 (by simp); clear hSw; go_simp; try with_reducible rfl)
                      simp only [Act.put, List.getElem_toArray, List.getElem_cons_succ, List.getElem_cons_zero, List.setIfInBounds_toArray, List.set_cons_zero, List.set_cons_succ]
                      refine wpAnyH_take (i := 28) (v := ?v28z27) rfl (by kernel_rfl) (by kernel_rfl) (by kernel_rfl) (fun _ _ _ h => h) (Or.inl ⟨by rfl, ?y28z27⟩) (by assumption) ?r28z27
                      case y28z27 => (intro w hSw; (try dsimp only at hSw); go_simp; try with_reducible rfl)
                      simp only [Act.put, List.getElem_toArray, List.getElem_cons_succ, List.getElem_cons_zero, List.setIfInBounds_toArray, List.set_cons_zero, List.set_cons_succ]
                      refine wpAnyH_ready (rs := [20, 27]) (by kernel_rfl) (by simp) ?_
                      refine (AllReadyH.cons rfl (fun K' hK => ?_) (AllReadyH.cons rfl (fun K' hK => ?_) AllReadyH.nil))
                      · go_simp
                        skip
                        refine hK.out _ _ (Lib.hid (grown_drewT (grown_reflX _ _) |>.trans (World.grownBy_alloc _ _ none))) (fun hHeld => ?_)
                        clear hK K'
                        simp only [List.setIfInBounds_toArray, List.set_cons_zero, List.set_cons_succ]
                        refine wpAnyH_ready (rs := [27]) (by kernel_rfl) (by simp) ?_
                        refine AllReadyH.cons rfl (fun K' hK => ?_) AllReadyH.nil
                        go_simp
                        skip
                        refine hK.out _ _ (Lib.hid ((grown_drewT (grown_reflX _ _) |>.trans (World.grownBy_alloc _ _ none)).trans (World.grownBy_alloc _ _ none))) (fun hHeld => ?_)
                        clear hK K'
                        simp only [List.setIfInBounds_toArray, List.set_cons_zero, List.set_cons_succ]
                        refine wpAnyH_ready (rs := [29]) (by kernel_rfl) (by simp) ?_
                        refine AllReadyH.cons rfl (fun K' hK => ?_) AllReadyH.nil
                        go_simp
                        go_at_call 34
                        refine (HPj.out _ _ _ (by exact O1.out) (by exact O2.out)).mono ?_
                        rintro e w5 ⟨⟨r, rfl, hr⟩, hg⟩
                        have R := Lib.hid hr
                        have G3 : Hid (wr.grownBy w5 none) := Lib.hid (((grown_drewT (grown_reflX _ _) |>.trans (World.grownBy_alloc _ _ none)).trans (World.grownBy_alloc _ _ none)).trans hg)
                        clear hr hg
                        refine hK.out _ _ G3 (fun hHeld => ?_)
                        clear hK K'
                        simp only [List.setIfInBounds_toArray, List.set_cons_zero, List.set_cons_succ]
                        refine wpAnyH_take (i := 30) (v := ?v30z28) rfl (by kernel_rfl) (by kernel_rfl) (by kernel_rfl) (fun _ _ _ h => h) (Or.inl ⟨by rfl, ?y30z28⟩) (by assumption) ?r30z28
                        case y30z28 => (intro w hSw; (try dsimp only at hSw); go_simp; try with_reducible rfl)
                        simp only [Act.put, List.getElem_toArray, List.getElem_cons_succ, List.getElem_cons_zero, List.setIfInBounds_toArray, List.set_cons_zero, List.set_cons_succ]
                        refine wpAnyH_take (i := 31) (v := ?v31z29) rfl (by kernel_rfl) (by kernel_rfl) (by kernel_rfl) (fun _ _ _ h => h) (Or.inl ⟨by rfl, ?y31z29⟩) (by assumption) ?r31z29
                        case y31z29 => (intro w hSw; (try dsimp only at hSw); go_simp; try with_reducible rfl)
                        simp only [Act.put, List.getElem_toArray, List.getElem_cons_succ, List.getElem_cons_zero, List.setIfInBounds_toArray, List.set_cons_zero, List.set_cons_succ]
                        refine wpAnyH_done (by kernel_rfl) ?_ _
                        cases r with
                        | true =>
                          go_wp2_with fail
                          go_roundw
                          case rel => exact ⟨j + 1, by go_num, by omega, Lib.hid (E2.out ⟨by first | rfl | trivial, R.out.1 (by first | rfl | trivial)⟩), Lib.hid (K.out.trans G3.out)⟩
                          case measure => simp [intOf]; omega
                        | false =>
                          go_wp2_with fail
                          go_ret
                          exact ⟨⟨false, rfl, HL.out _ (by
                            constructor
                            · intro h; cases h
                            · intro h; exact absurd h.2.2.2.2.2.1.2 (E3.out (fun h2 => by have := R.out.2 h2.2; cases this)))⟩, K3.out.trans (K.out.trans G3.out)⟩
                      · go_simp
                        skip
                        refine hK.out _ _ (Lib.hid (grown_drewT (grown_reflX _ _) |>.trans (World.grownBy_alloc _ _ none))) (fun hHeld => ?_)
                        clear hK K'
                        simp only [List.setIfInBounds_toArray, List.set_cons_zero, List.set_cons_succ]
                        refine wpAnyH_ready (rs := [20]) (by kernel_rfl) (by simp) ?_
                        refine AllReadyH.cons rfl (fun K' hK => ?_) AllReadyH.nil
                        go_simp
                        skip
                        refine hK.out _ _ (Lib.hid ((grown_drewT (grown_reflX _ _) |>.trans (World.grownBy_alloc _ _ none)).trans (World.grownBy_alloc _ _ none))) (fun hHeld => ?_)
                        clear hK K'
                        simp only [List.setIfInBounds_toArray, List.set_cons_zero, List.set_cons_succ]
                        refine wpAnyH_ready (rs := [29]) (by kernel_rfl) (by simp) ?_
                        refine AllReadyH.cons rfl (fun K' hK => ?_) AllReadyH.nil
                        go_simp
                        go_at_call 34
                        refine (HPj.out _ _ _ (by exact O4.out) (by exact O3.out)).mono ?_
                        rintro e w5 ⟨⟨r, rfl, hr⟩, hg⟩
                        have R := Lib.hid hr
                        have G3 : Hid (wr.grownBy w5 none) := Lib.hid (((grown_drewT (grown_reflX _ _) |>.trans (World.grownBy_alloc _ _ none)).trans (World.grownBy_alloc _ _ none)).trans hg)
                        clear hr hg
                        refine hK.out _ _ G3 (fun hHeld => ?_)
                        clear hK K'
                        simp only [List.setIfInBounds_toArray, List.set_cons_zero, List.set_cons_succ]
                        refine wpAnyH_take (i := 30) (v := ?v30z30) rfl (by kernel_rfl) (by kernel_rfl) (by kernel_rfl) (fun _ _ _ h => h) (Or.inl ⟨by rfl, ?y30z30⟩) (by assumption) ?r30z30
                        case y30z30 => (intro w hSw; (try dsimp only at hSw); go_simp; try with_reducible rfl)
                        simp only [Act.put, List.getElem_toArray, List.getElem_cons_succ, List.getElem_cons_zero, List.setIfInBounds_toArray, List.set_cons_zero, List.set_cons_succ]
                        refine wpAnyH_take (i := 31) (v := ?v31z31) rfl (by kernel_rfl) (by kernel_rfl) (by kernel_rfl) (fun _ _ _ h => h) (Or.inl ⟨by rfl, ?y31z31⟩) (by assumption) ?r31z31
                        case y31z31 => (intro w hSw; (try dsimp only at hSw); go_simp; try with_reducible rfl)
                        simp only [Act.put, List.getElem_toArray, List.getElem_cons_succ, List.getElem_cons_zero, List.setIfInBounds_toArray, List.set_cons_zero, List.set_cons_succ]
                        refine wpAnyH_done (by kernel_rfl) ?_ _
                        cases r with
                        | true =>
                          go_wp2_with fail
                          go_roundw
                          case rel => exact ⟨j + 1, by go_num, by omega, Lib.hid (E2.out ⟨by first | rfl | trivial, R.out.1 (by first | rfl | trivial)⟩), Lib.hid (K.out.trans G3.out)⟩
                          case measure => simp [intOf]; omega
                        | false =>
                          go_wp2_with fail
                          go_ret
                          exact ⟨⟨false, rfl, HL.out _ (by
                            constructor
                            · intro h; cases h
                            · intro h; exact absurd h.2.2.2.2.2.1.2 (E3.out (fun h2 => by have := R.out.2 h2.2; cases this)))⟩, K3.out.trans (K.out.trans G3.out)⟩
                    · have e := (by simpa using hd : (xd == yd) = false)
                      have f : (xd != yd) = true := by simpa using hd
                      have HN := Lib.hid hd
                      clear hd
                      go_wp2_with fail
                      go_quiet (fail)
                      go_wp2_with fail
                      go_ret
                      exact ⟨⟨false, rfl, HL.out _ (by
                        constructor
                        · intro h; cases h
                        · intro h; exact absurd h.2.2.2.2.2.1.2 (E3.out (fun h2 => HN.out h2.1)))⟩, grown_drewNT (K3.out.trans K.out) _⟩
                  · obtain rfl : n8 = j := by omega
                    obtain ⟨a0, a1, a2, a3, a4, a5, a6, a7, a8, a9, a10, a11, a12, a13, a14, a15, a16⟩ := cells17 (blk_grown K.out V3.out)
                    obtain ⟨d0, d1, d2, d3, d4, d5, d6, d7, d8, d9, d10, d11, d12, d13, d14, d15, d16⟩ := cells17 (blk_grown K.out U3.out)
                    go_wp2_with fail
                    go_ret
                    exact ⟨⟨true, rfl, HL.out _ (by
                      constructor
                      · intro _; exact ⟨by first | rfl | trivial, by first | rfl | trivial, by first | rfl | trivial, HLI.out.1, HLI.out.2.1, ⟨by first | rfl | trivial, E.out⟩, HLI.out.2.2⟩
                      · intro _; first | rfl | trivial)⟩, K3.out.trans K.out⟩
        · have e3 := nat_eqf h3
          have f3 : ((n8 : Int) != (n9 : Int)) = true := by rw [bne_iff_ne]; omega
          have HN := Lib.hid h3
          clear h3
          go_enter Tryz.func14, Tryz.ntmps14
          go_wp2_with fail
          go_ret
          exact ⟨⟨false, rfl, HL.out _ (by simp [HN.out])⟩, K0.out⟩
      · have e2 := int_eqf h2
        have f2 : (lim1 != lim2) = true := by rw [bne_iff_ne]; exact h2
        have HN := Lib.hid h2
        clear h2
        go_enter Tryz.func14, Tryz.ntmps14
        go_wp2_with fail
        go_ret
        exact ⟨⟨false, rfl, HL.out _ (by simp [HN.out])⟩, K0.out⟩
    · have e1 := str_ne h1
      have HN := Lib.hid h1
      clear h1
      go_enter Tryz.func14, Tryz.ntmps14
      go_wp2_with fail
      go_ret
      exact ⟨⟨false, rfl, HL.out _ (by simp [HN.out])⟩, K0.out⟩
  · have e0 : (al1 == al2) = false := by simpa using h0
    have f0 : (al1 != al2) = true := by simpa using h0
    have HN := Lib.hid h0
    clear h0
    go_enter Tryz.func14, Tryz.ntmps14
    go_wp2_with fail
    go_ret
    exact ⟨⟨false, rfl, HL.out _ (by simp [HN.out])⟩, K0.out⟩
end Go.Proofs.YtppigamibgefaaaGreatDoor
