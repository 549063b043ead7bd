/- The reader's BETWEEN, and so among. The reader's predicates that begin with a name. Lists of predicates: are two alike, one by one? -/
import Derived.Test.YtppigamibgefaaaGreatDoorZp24
import Derived.Test.YtppigamibgefaaaGreatDoorZp18
namespace Go.Proofs.YtppigamibgefaaaGreatDoor
open Go.RowKit

theorem ten_of {w : World} {b : Nat} {v0 v1 v2 v3 v4 v5 v6 v7 v8 v9 : Value} {T : TypeId} (h : w.heap[b]? = some (.cells #[v0, v1, v2, v3, v4, v5, v6, v7, v8, v9] T (0, 0))) : (w.cell? ⟨b, 0, none⟩ = some v0 ∧ w.cell? ⟨b, 1, none⟩ = some v1 ∧ w.cell? ⟨b, 2, none⟩ = some v2 ∧ w.cell? ⟨b, 3, none⟩ = some v3 ∧ w.cell? ⟨b, 4, none⟩ = some v4) ∧ (w.cell? ⟨b, 5, none⟩ = some v5 ∧ w.cell? ⟨b, 6, none⟩ = some v6 ∧ w.cell? ⟨b, 7, none⟩ = some v7 ∧ w.cell? ⟨b, 8, none⟩ = some v8 ∧ w.cell? ⟨b, 9, none⟩ = some v9) := by
  have c0 := cell_of_row _ _ 0 _ _ _ h
  have c1 := cell_of_row _ _ 1 _ _ _ h
  have c2 := cell_of_row _ _ 2 _ _ _ h
  have c3 := cell_of_row _ _ 3 _ _ _ h
  have c4 := cell_of_row _ _ 4 _ _ _ h
  have c5 := cell_of_row _ _ 5 _ _ _ h
  have c6 := cell_of_row _ _ 6 _ _ _ h
  have c7 := cell_of_row _ _ 7 _ _ _ h
  have c8 := cell_of_row _ _ 8 _ _ _ h
  have c9 := cell_of_row _ _ 9 _ _ _ h
  simp at c0 c1 c2 c3 c4 c5 c6 c7 c8 c9
  exact ⟨⟨c0, c1, c2, c3, c4⟩, c5, c6, c7, c8, c9⟩
theorem cells_block {S : Nat → Prop} {w : World} {g : Nat} {xs : List Value} {T : TypeId} (h : w.heap[g]? = some (.cells xs.toArray T (0, 0))) (hS : S g) : CellsS S w (some ⟨g, 0, Option.none⟩) xs :=
  .inr ⟨g, 0, rfl, hS, (Array.getElem?_eq_some_iff.1 h).1, fun j u hj => by
    rw [Nat.zero_add, cell_of_row _ _ j _ _ _ h]
    simpa using hj⟩
theorem alloc2b (w : World) (o1 o2 : Obj) : ((w.alloc o1).alloc o2).heap[w.heap.size]? = some o1 ∧ ((w.alloc o1).alloc o2).heap[w.heap.size + 1]? = some o2 ∧ w.grownBy ((w.alloc o1).alloc o2) none :=
  ⟨heap_alloc2_old w _ _, heap_alloc2_new w _ _, (World.grownBy_alloc w o1 none).trans (World.grownBy_alloc _ o2 none)⟩
/-- A comparison of a column with a literal. -/
def cmpC (col : ByteArray) (r : Nat) (k n : Int) (t : ByteArray) (pos : Nat) : Array Value := #[.int .i64 3, .string col, .int .i64 r, .int .i64 k, .int .i64 n, .string t, .string ⟨#[]⟩, .slice Option.none 0 0, .slice Option.none 0 0, .int .i64 pos]
theorem set5 {w : World} {g : Nat} {col : ByteArray} {pos r : Nat} {k n : Int} {t : ByteArray} (h : w.heap[g]? = some (.cells (asC col pos) 31 (0, 0))) : (((((w.setCell ⟨g, 0, none⟩ (.int .i64 3)).setCell ⟨g, 2, none⟩ (.int .i64 r)).setCell ⟨g, 3, none⟩ (.int .i64 k)).setCell ⟨g, 4, none⟩ (.int .i64 n)).setCell ⟨g, 5, none⟩ (.string t)).heap[g]? = some (.cells (cmpC col r k n t pos) 31 (0, 0)) := by
  have h0 := heap_setCell_same _ _ 0 _ _ (.int .i64 3) h
  have h1 := heap_setCell_same _ _ 2 _ _ (.int .i64 r) h0
  have h2 := heap_setCell_same _ _ 3 _ _ (.int .i64 k) h1
  have h3 := heap_setCell_same _ _ 4 _ _ (.int .i64 n) h2
  have h4 := heap_setCell_same _ _ 5 _ _ (.string t) h3
  simpa [asC, cmpC] using h4
theorem grown5 (w : World) (g : Nat) (u0 u1 u2 u3 u4 : Value) : w.grownBy (((((w.setCell ⟨g, 0, none⟩ u0).setCell ⟨g, 2, none⟩ u1).setCell ⟨g, 3, none⟩ u2).setCell ⟨g, 4, none⟩ u3).setCell ⟨g, 5, none⟩ u4) (some g) :=
  grown_setX (grown_setX (grown_setX (grown_setX (grown_cellR w g 0 u0) 2 u1) 3 u2) 4 u3) 5 u4
theorem blk_row {w w' : World} {g g' : Nat} {o : Obj} (h : w.grownBy w' (some g')) (hg : w.heap[g]? = some o) (hne : g ≠ g') : w'.heap[g]? = some o := (h.block g (Array.getElem?_eq_some_iff.1 hg).1 (by simp; exact hne)).trans hg
set_option maxRecDepth 100000 in
set_option maxHeartbeats 6400000 in
theorem pbetween_any (R b deep : Nat) (s : RS) (col : ByteArray) (pos : Nat) (w : World) (h : RdA R b deep s w) (hc : s.comes bIn = false) :
    Calls Tryz.prog 191 #[.pointer (some ⟨R, 0, none⟩), .agg (asC col pos)] w (PrGo R b deep (amongL col pos s) w) := by
  have HS := Lib.hid h
  have HT := Lib.hid (fun W (hW : w.grownBy W none) => took_no R b deep s bIn W (h.keep hW) (by decide) hc)
  have HA := Lib.hid (show amongL col pos s = (((s.need bBetween).literal.1.need bAnd).literal.1, .mk 8 ⟨#[]⟩ 0 ⟨0, 0, ⟨#[]⟩⟩ ⟨#[]⟩ [] [.mk 3 col 6 (s.need bBetween).literal.2 ⟨#[]⟩ [] [] pos, .mk 3 col 4 ((s.need bBetween).literal.1.need bAnd).literal.2 ⟨#[]⟩ [] [] pos] pos) from by unfold amongL; rw [if_neg (by simp [hc])])
  have HB := Lib.hid (fun st W (hW : RdA R b deep st W) => need_any R b deep st bBetween W hW (by decide))
  have HN := Lib.hid (fun st W (hW : RdA R b deep st W) => need_any R b deep st bAnd W hW (by decide))
  have HL1 := Lib.hid (fun W (hW : RdA R b deep (s.need bBetween) W) => plit_any R b deep _ W hW)
  obtain ⟨⟨s1, k1, n1, t1⟩, q1⟩ : ∃ y, (s.need bBetween).literal = y := ⟨_, rfl⟩
  rw [q1] at HA HL1
  simp only [vCT] at HA HL1
  have HL2 := Lib.hid (fun W (hW : RdA R b deep (s1.need bAnd) W) => plit_any R b deep _ W hW)
  obtain ⟨⟨s2, k2, n2, t2⟩, q2⟩ : ∃ y, (s1.need bAnd).literal = y := ⟨_, rfl⟩
  rw [q2] at HA HL2
  simp only [vCT] at HA HL2
  clear q1 q2
  have hR := h.lt'
  unfold asC
  clear h hc
  go_enter Tryz.func191, Tryz.ntmps191
  obtain ⟨e0, e1, e2, eg, es⟩ := alloc3 w (.cells #[.pointer (some ⟨R, 0, none⟩)] 167) (.cells (asC col pos) 31) (.cells z10 31)
  have E := Lib.hid (And.intro e0 (And.intro e1 (And.intro e2 (And.intro eg es))))
  clear e0 e1 e2 eg es
  go_wp2_with fail
  refine (HT.out _ E.out.2.2.2.1).mono ?_
  rintro e w2 ⟨rfl, hr⟩
  have x0 := hr.blk E.out.1 (by omega)
  have X1 := Lib.hid (hr.blk E.out.2.1 (by omega))
  have x2 := Lib.hid (hr.blk E.out.2.2.1 (by omega))
  have X0 := Lib.hid x0
  have R2 := Lib.hid (show RdGo R b deep s w w2 from ⟨hr.1, E.out.2.2.2.1.trans' hr.2⟩)
  have l2 : w.heap.size + 3 ≤ w2.heap.size := by have := E.out.2.2.2.2; have := hr.2.size; omega
  have c0 := cell_of_row _ _ 0 _ _ _ x0
  simp at c0
  clear hr x0
  go_wp2_with fail
  refine (HB.out _ _ R2.out.1).mono ?_
  rintro e w3 ⟨rfl, hr⟩
  have Y0 := Lib.hid (hr.blk X0.out (by omega))
  have y1 := hr.blk X1.out (by omega)
  have Y2 := Lib.hid (hr.blk x2.out (by omega))
  have Y1 := Lib.hid y1
  have R3 := Lib.hid (R2.out.then hr)
  have l3 : w.heap.size + 3 ≤ w3.heap.size := by have := hr.2.size; omega
  obtain ⟨⟨d0, d1, d2, d3, d4⟩, d5, d6, d7, d8, d9⟩ := ten_of (show w3.heap[w.heap.size + 1]? = some (.cells #[.int .i64 0, .string col, .int .i64 0, .int .i64 0, .int .i64 0, .string ⟨#[]⟩, .string ⟨#[]⟩, .slice Option.none 0 0, .slice Option.none 0 0, .int .i64 pos] 31 (0, 0)) from y1)
  have k0 := cell_of_row _ _ 0 _ _ _ Y0.out
  simp at k0
  have lt3 : w.heap.size + 1 < w3.heap.size := by omega
  have ya := fun o => blk_grown (World.grownBy_alloc w3 o none) y1
  have yb := fun o o' => blk_grown (World.grownBy_alloc (w3.alloc o) o' none) (ya o)
  obtain ⟨⟨ta00, ta01, ta02, ta03, ta04⟩, ta05, ta06, ta07, ta08, ta09⟩ := ten_of (show (w3.alloc (.cells #[.int .i64 0, .string ⟨#[]⟩, .int .i64 0, .int .i64 0, .int .i64 0, .string ⟨#[]⟩, .string ⟨#[]⟩, .slice Option.none 0 0, .slice Option.none 0 0, .int .i64 0] 31)).drew.heap[w.heap.size + 1]? = some (.cells #[.int .i64 0, .string col, .int .i64 0, .int .i64 0, .int .i64 0, .string ⟨#[]⟩, .string ⟨#[]⟩, .slice Option.none 0 0, .slice Option.none 0 0, .int .i64 pos] 31 (0, 0)) from ya _)
  obtain ⟨⟨tb10, tb11, tb12, tb13, tb14⟩, tb15, tb16, tb17, tb18, tb19⟩ := ten_of (show ((w3.alloc (.cells #[.int .i64 0, .string ⟨#[]⟩, .int .i64 0, .int .i64 0, .int .i64 0, .string ⟨#[]⟩, .string ⟨#[]⟩, .slice Option.none 0 0, .slice Option.none 0 0, .int .i64 0] 31)).alloc (.cells #[.int .i64 0, .string ⟨#[]⟩, .int .i64 0, .int .i64 0, .int .i64 0, .string ⟨#[]⟩, .string ⟨#[]⟩, .slice Option.none 0 0, .slice Option.none 0 0, .int .i64 0] 31)).drew.heap[w.heap.size + 1]? = some (.cells #[.int .i64 0, .string col, .int .i64 0, .int .i64 0, .int .i64 0, .string ⟨#[]⟩, .string ⟨#[]⟩, .slice Option.none 0 0, .slice Option.none 0 0, .int .i64 pos] 31 (0, 0)) from yb _ _)
  obtain ⟨⟨tb20, tb21, tb22, tb23, tb24⟩, tb25, tb26, tb27, tb28, tb29⟩ := ten_of (show ((w3.alloc (.cells #[.int .i64 0, .string ⟨#[]⟩, .int .i64 0, .int .i64 0, .int .i64 0, .string ⟨#[]⟩, .string ⟨#[]⟩, .slice Option.none 0 0, .slice Option.none 0 0, .int .i64 0] 31)).alloc (.cells #[.int .i64 0, .string col, .int .i64 0, .int .i64 0, .int .i64 0, .string ⟨#[]⟩, .string ⟨#[]⟩, .slice Option.none 0 0, .slice Option.none 0 0, .int .i64 pos] 31)).drew.heap[w.heap.size + 1]? = some (.cells #[.int .i64 0, .string col, .int .i64 0, .int .i64 0, .int .i64 0, .string ⟨#[]⟩, .string ⟨#[]⟩, .slice Option.none 0 0, .slice Option.none 0 0, .int .i64 pos] 31 (0, 0)) from yb _ _)
  obtain ⟨⟨ta20, ta21, ta22, ta23, ta24⟩, ta25, ta26, ta27, ta28, ta29⟩ := ten_of (show (w3.alloc (.cells #[.int .i64 0, .string col, .int .i64 0, .int .i64 0, .int .i64 0, .string ⟨#[]⟩, .string ⟨#[]⟩, .slice Option.none 0 0, .slice Option.none 0 0, .int .i64 pos] 31)).drew.heap[w.heap.size + 1]? = some (.cells #[.int .i64 0, .string col, .int .i64 0, .int .i64 0, .int .i64 0, .string ⟨#[]⟩, .string ⟨#[]⟩, .slice Option.none 0 0, .slice Option.none 0 0, .int .i64 pos] 31 (0, 0)) from ya _)
  obtain ⟨⟨tb30, tb31, tb32, tb33, tb34⟩, tb35, tb36, tb37, tb38, tb39⟩ := ten_of (show ((w3.alloc (.cells #[.int .i64 0, .string col, .int .i64 0, .int .i64 0, .int .i64 0, .string ⟨#[]⟩, .string ⟨#[]⟩, .slice Option.none 0 0, .slice Option.none 0 0, .int .i64 pos] 31)).alloc (.cells #[.int .i64 0, .string ⟨#[]⟩, .int .i64 0, .int .i64 0, .int .i64 0, .string ⟨#[]⟩, .string ⟨#[]⟩, .slice Option.none 0 0, .slice Option.none 0 0, .int .i64 0] 31)).drew.heap[w.heap.size + 1]? = some (.cells #[.int .i64 0, .string col, .int .i64 0, .int .i64 0, .int .i64 0, .string ⟨#[]⟩, .string ⟨#[]⟩, .slice Option.none 0 0, .slice Option.none 0 0, .int .i64 pos] 31 (0, 0)) from yb _ _)
  obtain ⟨⟨tb40, tb41, tb42, tb43, tb44⟩, tb45, tb46, tb47, tb48, tb49⟩ := ten_of (show ((w3.alloc (.cells #[.int .i64 0, .string col, .int .i64 0, .int .i64 0, .int .i64 0, .string ⟨#[]⟩, .string ⟨#[]⟩, .slice Option.none 0 0, .slice Option.none 0 0, .int .i64 pos] 31)).alloc (.cells #[.int .i64 0, .string col, .int .i64 0, .int .i64 0, .int .i64 0, .string ⟨#[]⟩, .string ⟨#[]⟩, .slice Option.none 0 0, .slice Option.none 0 0, .int .i64 pos] 31)).drew.heap[w.heap.size + 1]? = some (.cells #[.int .i64 0, .string col, .int .i64 0, .int .i64 0, .int .i64 0, .string ⟨#[]⟩, .string ⟨#[]⟩, .slice Option.none 0 0, .slice Option.none 0 0, .int .i64 pos] 31 (0, 0)) from yb _ _)
  clear hr y1 c0 ya yb
  go_wp2_with fail
  go_region
  all_goals
    clear ta00 ta01 ta02 ta03 ta04 ta05 ta06 ta07 ta08 ta09 ta20 ta21 ta22 ta23 ta24 ta25 ta26 ta27 ta28 ta29
    clear tb10 tb11 tb12 tb13 tb14 tb15 tb16 tb17 tb18 tb19 tb20 tb21 tb22 tb23 tb24 tb25 tb26 tb27 tb28 tb29 tb30 tb31 tb32 tb33 tb34 tb35 tb36 tb37 tb38 tb39 tb40 tb41 tb42 tb43 tb44 tb45 tb46 tb47 tb48 tb49
    clear d0 d1 d2 d3 d4 d5 d6 d7 d8 d9 k0 lt3
    change Exit.then _ _ _ _ ((w3.alloc (.cells (asC col pos) 31)).alloc (.cells (asC col pos) 31)).drew
  · have W4 := Lib.hid (And.intro (show ((w3.alloc (.cells (asC col pos) 31)).alloc (.cells (asC col pos) 31)).drew.heap[w3.heap.size]? = some (.cells (asC col pos) 31 (0, 0)) from (alloc2b w3 _ _).1) (And.intro (show ((w3.alloc (.cells (asC col pos) 31)).alloc (.cells (asC col pos) 31)).drew.heap[w3.heap.size + 1]? = some (.cells (asC col pos) 31 (0, 0)) from (alloc2b w3 _ _).2.1) (show w3.grownBy ((w3.alloc (.cells (asC col pos) 31)).alloc (.cells (asC col pos) 31)).drew none from grown_drewT (alloc2b w3 _ _).2.2)))
    have l4 : ((w3.alloc (.cells (asC col pos) 31)).alloc (.cells (asC col pos) 31)).drew.heap.size = w3.heap.size + 1 + 1 := by rw [heap_drew]; simp
    generalize ((w3.alloc (.cells (asC col pos) 31)).alloc (.cells (asC col pos) 31)).drew = w4 at *
    have R4 := Lib.hid (R3.out.keep W4.out.2.2)
    have B0 := Lib.hid (blk_grown W4.out.2.2 Y0.out)
    have B1 := Lib.hid (blk_grown W4.out.2.2 Y1.out)
    have B2 := Lib.hid (blk_grown W4.out.2.2 Y2.out)
    have b0 := cell_of_row _ _ 0 _ _ _ B0.out
    simp at b0
    go_wp2_with fail
    refine (HL1.out _ R4.out.1).mono ?_
    rintro e w5 ⟨rfl, hr⟩
    have C0 := Lib.hid (hr.blk B0.out (by omega))
    have C1 := Lib.hid (hr.blk B1.out (by omega))
    have C2 := Lib.hid (hr.blk B2.out (by omega))
    have C5 := Lib.hid (hr.blk W4.out.1 (by omega))
    have C6 := Lib.hid (hr.blk W4.out.2.1 (by omega))
    have R5 := Lib.hid (R4.out.then hr)
    have l5 : w3.heap.size + 1 + 1 ≤ w5.heap.size := by have := hr.2.size; omega
    obtain ⟨⟨d0, _, d2, d3, d4⟩, d5, _, _, _, _⟩ := ten_of (show w5.heap[w3.heap.size]? = some (.cells #[.int .i64 0, .string col, .int .i64 0, .int .i64 0, .int .i64 0, .string ⟨#[]⟩, .string ⟨#[]⟩, .slice Option.none 0 0, .slice Option.none 0 0, .int .i64 pos] 31 (0, 0)) from C5.out)
    have f0 := frozen_of_row _ _ 0 _ _ C5.out
    have f2 := frozen_of_row _ _ 2 _ _ C5.out
    have f3 := frozen_of_row _ _ 3 _ _ C5.out
    have f4 := frozen_of_row _ _ 4 _ _ C5.out
    have f5 := frozen_of_row _ _ 5 _ _ C5.out
    have c0 := cell_of_row _ _ 0 _ _ _ C0.out
    simp at c0
    clear hr b0
    go_upto_region 10 with fail
    have gS := Lib.hid (grown5 w5 (w3.heap.size) (.int .i64 3) (.int .i64 6) (.int .i64 k1) (.int .i64 n1) (.string t1))
    have D5 := Lib.hid (set5 (r := 6) (k := k1) (n := n1) (t := t1) C5.out)
    simp only [show ((6 : Nat) : Int) = 6 from rfl] at D5
    generalize ((((w5.setCell ⟨w3.heap.size, 0, none⟩ (.int .i64 3)).setCell ⟨w3.heap.size, 2, none⟩ (.int .i64 6)).setCell ⟨w3.heap.size, 3, none⟩ (.int .i64 k1)).setCell ⟨w3.heap.size, 4, none⟩ (.int .i64 n1)).setCell ⟨w3.heap.size, 5, none⟩ (.string t1) = w6 at *
    have D0 := Lib.hid (blk_row gS.out C0.out (by omega))
    have D1 := Lib.hid (blk_row gS.out C1.out (by omega))
    have D2 := Lib.hid (blk_row gS.out C2.out (by omega))
    have D6 := Lib.hid (blk_row gS.out C6.out (by omega))
    have R6 := Lib.hid (RdGo.stored HS.out R5.out (g := w3.heap.size) (by omega) gS.out)
    have l6 : w3.heap.size + 1 + 1 ≤ w6.heap.size := Nat.le_trans l5 gS.out.size
    clear d0 d2 d3 d4 d5 f0 f2 f3 f4 f5 c0
    have c0 := cell_of_row _ _ 0 _ _ _ D0.out
    simp at c0
    go_wp2_with fail
    refine (HN.out _ _ R6.out.1).mono ?_
    rintro e w7 ⟨rfl, hr⟩
    have E0 := Lib.hid (hr.blk D0.out (by omega))
    have E1 := Lib.hid (hr.blk D1.out (by omega))
    have E2 := Lib.hid (hr.blk D2.out (by omega))
    have E5 := Lib.hid (hr.blk D5.out (by omega))
    have E6 := Lib.hid (hr.blk D6.out (by omega))
    have R7 := Lib.hid (R6.out.then hr)
    have l7 : w3.heap.size + 1 + 1 ≤ w7.heap.size := Nat.le_trans l6 hr.2.size
    clear hr c0
    have c0 := cell_of_row _ _ 0 _ _ _ E0.out
    simp at c0
    go_wp2_with fail
    refine (HL2.out _ R7.out.1).mono ?_
    rintro e w8 ⟨rfl, hr⟩
    have F1 := Lib.hid (hr.blk E1.out (by omega))
    have F2 := Lib.hid (hr.blk E2.out (by omega))
    have F5 := Lib.hid (hr.blk E5.out (by omega))
    have F6 := Lib.hid (hr.blk E6.out (by omega))
    have R8 := Lib.hid (R7.out.then hr)
    have l8 : w3.heap.size + 1 + 1 ≤ w8.heap.size := Nat.le_trans l7 hr.2.size
    obtain ⟨⟨d0, _, d2, d3, d4⟩, d5, _, _, _, _⟩ := ten_of (show w8.heap[w3.heap.size + 1]? = some (.cells #[.int .i64 0, .string col, .int .i64 0, .int .i64 0, .int .i64 0, .string ⟨#[]⟩, .string ⟨#[]⟩, .slice Option.none 0 0, .slice Option.none 0 0, .int .i64 pos] 31 (0, 0)) from F6.out)
    have f0 := frozen_of_row _ _ 0 _ _ F6.out
    have f2 := frozen_of_row _ _ 2 _ _ F6.out
    have f3 := frozen_of_row _ _ 3 _ _ F6.out
    have f4 := frozen_of_row _ _ 4 _ _ F6.out
    have f5 := frozen_of_row _ _ 5 _ _ F6.out
    clear hr c0
    go_upto_region 12 with fail
    have gS2 := Lib.hid (grown5 w8 (w3.heap.size + 1) (.int .i64 3) (.int .i64 4) (.int .i64 k2) (.int .i64 n2) (.string t2))
    have H6 := Lib.hid (set5 (r := 4) (k := k2) (n := n2) (t := t2) F6.out)
    simp only [show ((4 : Nat) : Int) = 4 from rfl] at H6
    generalize ((((w8.setCell ⟨w3.heap.size + 1, 0, none⟩ (.int .i64 3)).setCell ⟨w3.heap.size + 1, 2, none⟩ (.int .i64 4)).setCell ⟨w3.heap.size + 1, 3, none⟩ (.int .i64 k2)).setCell ⟨w3.heap.size + 1, 4, none⟩ (.int .i64 n2)).setCell ⟨w3.heap.size + 1, 5, none⟩ (.string t2) = w9 at *
    have h1 := blk_row gS2.out F1.out (show w.heap.size + 1 ≠ w3.heap.size + 1 by omega)
    have H2 := Lib.hid (blk_row gS2.out F2.out (by omega))
    have h5 := blk_row gS2.out F5.out (show w3.heap.size ≠ w3.heap.size + 1 by omega)
    have R9 := Lib.hid (RdGo.stored HS.out R8.out (g := w3.heap.size + 1) (by omega) gS2.out)
    have l9 : w3.heap.size + 1 + 1 ≤ w9.heap.size := Nat.le_trans l8 gS2.out.size
    clear d0 d2 d3 d4 d5 f0 f2 f3 f4 f5
    obtain ⟨⟨p0, p1, p2, p3, p4⟩, p5, p6, p7, p8, p9⟩ := ten_of (show w9.heap[w3.heap.size]? = some (.cells #[.int .i64 3, .string col, .int .i64 (6 : Nat), .int .i64 k1, .int .i64 n1, .string t1, .string ⟨#[]⟩, .slice Option.none 0 0, .slice Option.none 0 0, .int .i64 pos] 31 (0, 0)) from h5)
    obtain ⟨⟨r0, r1, r2, r3, r4⟩, r5, r6, r7, r8, r9⟩ := ten_of (show w9.heap[w3.heap.size + 1]? = some (.cells #[.int .i64 3, .string col, .int .i64 (4 : Nat), .int .i64 k2, .int .i64 n2, .string t2, .string ⟨#[]⟩, .slice Option.none 0 0, .slice Option.none 0 0, .int .i64 pos] 31 (0, 0)) from H6.out)
    have x9 := cell_of_row _ _ 9 _ _ _ h1
    simp [asC] at x9
    have lt9 : w.heap.size + 1 < w9.heap.size := by omega
    clear h1 h5
    go_wp2_with (refine wpList_store_row rfl 31 (.tmp 4) (.tmp 39) rfl (w.heap.size + 1 + 1) (Pm.mk 8 ⟨#[]⟩ 0 ⟨0, 0, ⟨#[]⟩⟩ ⟨#[]⟩ Option.none 0 [] (some ⟨w9.heap.size, 0, Option.none⟩) 2 [.mk 3 col 6 ⟨k1, n1, t1⟩ ⟨#[]⟩ Option.none 0 [] Option.none 0 [] pos, .mk 3 col 4 ⟨k2, n2, t2⟩ ⟨#[]⟩ Option.none 0 [] Option.none 0 [] pos] pos).c.toArray rfl rfl 31 z10 (blk_grown (World.grownBy_alloc w9 _ none) H2.out) (by rw [Pm.c_size]; exact pred_size) (by rw [Pm.c_size]; rfl) (Pm.c_all _) ?_)
    have hk := heap_alloc_new w9 (.cells ([Pm.mk 3 col 6 ⟨k1, n1, t1⟩ ⟨#[]⟩ Option.none 0 [] Option.none 0 [] pos, Pm.mk 3 col 4 ⟨k2, n2, t2⟩ ⟨#[]⟩ Option.none 0 [] Option.none 0 [] pos].flatMap Pm.c).toArray 31)
    have z2 := blk_grown (World.grownBy_alloc w9 (.cells ([Pm.mk 3 col 6 ⟨k1, n1, t1⟩ ⟨#[]⟩ Option.none 0 [] Option.none 0 [] pos, Pm.mk 3 col 4 ⟨k2, n2, t2⟩ ⟨#[]⟩ Option.none 0 [] Option.none 0 [] pos].flatMap Pm.c).toArray 31) none) H2.out
    have R10 := R9.out.keep (World.grownBy_alloc w9 (.cells ([Pm.mk 3 col 6 ⟨k1, n1, t1⟩ ⟨#[]⟩ Option.none 0 [] Option.none 0 [] pos, Pm.mk 3 col 4 ⟨k2, n2, t2⟩ ⟨#[]⟩ Option.none 0 [] Option.none 0 [] pos].flatMap Pm.c).toArray 31) none)
    rw [HA.out]
    obtain ⟨hp, hb⟩ := PrGo.ret (r := (s2, .mk 8 ⟨#[]⟩ 0 ⟨0, 0, ⟨#[]⟩⟩ ⟨#[]⟩ [] [.mk 3 col 6 ⟨k1, n1, t1⟩ ⟨#[]⟩ [] [] pos, .mk 3 col 4 ⟨k2, n2, t2⟩ ⟨#[]⟩ [] [] pos] pos)) HS.out (Pm.mk 8 ⟨#[]⟩ 0 ⟨0, 0, ⟨#[]⟩⟩ ⟨#[]⟩ Option.none 0 [] (some ⟨w9.heap.size, 0, Option.none⟩) 2 [.mk 3 col 6 ⟨k1, n1, t1⟩ ⟨#[]⟩ Option.none 0 [] Option.none 0 [] pos, .mk 3 col 4 ⟨k2, n2, t2⟩ ⟨#[]⟩ Option.none 0 [] Option.none 0 [] pos] pos) rfl ⟨RwS.nil _ _ _, Nat.le_refl _, cells_block hk ⟨by omega, by omega⟩, Nat.le_refl _, PmS.leaf _ _ _ _ _ _ _ _ _ _ _ _, PmS.leaf _ _ _ _ _ _ _ _ _ _ _ _, trivial⟩ R10 (Nat.le_trans (Nat.le_succ _) (Nat.le_succ _)) z2
    exact bodyPost_ret (results_pm rfl _ _ (w.heap.size + 1 + 1) _ rfl hb) rfl hp
  · have W4 := Lib.hid (And.intro (show ((w3.alloc (.cells (asC col pos) 31)).alloc (.cells (asC col pos) 31)).drew.heap[w3.heap.size]? = some (.cells (asC col pos) 31 (0, 0)) from (alloc2b w3 _ _).1) (And.intro (show ((w3.alloc (.cells (asC col pos) 31)).alloc (.cells (asC col pos) 31)).drew.heap[w3.heap.size + 1]? = some (.cells (asC col pos) 31 (0, 0)) from (alloc2b w3 _ _).2.1) (show w3.grownBy ((w3.alloc (.cells (asC col pos) 31)).alloc (.cells (asC col pos) 31)).drew none from grown_drewT (alloc2b w3 _ _).2.2)))
    have l4 : ((w3.alloc (.cells (asC col pos) 31)).alloc (.cells (asC col pos) 31)).drew.heap.size = w3.heap.size + 1 + 1 := by rw [heap_drew]; simp
    generalize ((w3.alloc (.cells (asC col pos) 31)).alloc (.cells (asC col pos) 31)).drew = w4 at *
    have R4 := Lib.hid (R3.out.keep W4.out.2.2)
    have B0 := Lib.hid (blk_grown W4.out.2.2 Y0.out)
    have B1 := Lib.hid (blk_grown W4.out.2.2 Y1.out)
    have B2 := Lib.hid (blk_grown W4.out.2.2 Y2.out)
    have b0 := cell_of_row _ _ 0 _ _ _ B0.out
    simp at b0
    go_wp2_with fail
    refine (HL1.out _ R4.out.1).mono ?_
    rintro e w5 ⟨rfl, hr⟩
    have C0 := Lib.hid (hr.blk B0.out (by omega))
    have C1 := Lib.hid (hr.blk B1.out (by omega))
    have C2 := Lib.hid (hr.blk B2.out (by omega))
    have C5 := Lib.hid (hr.blk W4.out.2.1 (by omega))
    have C6 := Lib.hid (hr.blk W4.out.1 (by omega))
    have R5 := Lib.hid (R4.out.then hr)
    have l5 : w3.heap.size + 1 + 1 ≤ w5.heap.size := by have := hr.2.size; omega
    obtain ⟨⟨d0, _, d2, d3, d4⟩, d5, _, _, _, _⟩ := ten_of (show w5.heap[w3.heap.size + 1]? = some (.cells #[.int .i64 0, .string col, .int .i64 0, .int .i64 0, .int .i64 0, .string ⟨#[]⟩, .string ⟨#[]⟩, .slice Option.none 0 0, .slice Option.none 0 0, .int .i64 pos] 31 (0, 0)) from C5.out)
    have f0 := frozen_of_row _ _ 0 _ _ C5.out
    have f2 := frozen_of_row _ _ 2 _ _ C5.out
    have f3 := frozen_of_row _ _ 3 _ _ C5.out
    have f4 := frozen_of_row _ _ 4 _ _ C5.out
    have f5 := frozen_of_row _ _ 5 _ _ C5.out
    have c0 := cell_of_row _ _ 0 _ _ _ C0.out
    simp at c0
    clear hr b0
    go_upto_region 10 with fail
    have gS := Lib.hid (grown5 w5 (w3.heap.size + 1) (.int .i64 3) (.int .i64 6) (.int .i64 k1) (.int .i64 n1) (.string t1))
    have D5 := Lib.hid (set5 (r := 6) (k := k1) (n := n1) (t := t1) C5.out)
    simp only [show ((6 : Nat) : Int) = 6 from rfl] at D5
    generalize ((((w5.setCell ⟨w3.heap.size + 1, 0, none⟩ (.int .i64 3)).setCell ⟨w3.heap.size + 1, 2, none⟩ (.int .i64 6)).setCell ⟨w3.heap.size + 1, 3, none⟩ (.int .i64 k1)).setCell ⟨w3.heap.size + 1, 4, none⟩ (.int .i64 n1)).setCell ⟨w3.heap.size + 1, 5, none⟩ (.string t1) = w6 at *
    have D0 := Lib.hid (blk_row gS.out C0.out (by omega))
    have D1 := Lib.hid (blk_row gS.out C1.out (by omega))
    have D2 := Lib.hid (blk_row gS.out C2.out (by omega))
    have D6 := Lib.hid (blk_row gS.out C6.out (by omega))
    have R6 := Lib.hid (RdGo.stored HS.out R5.out (g := w3.heap.size + 1) (by omega) gS.out)
    have l6 : w3.heap.size + 1 + 1 ≤ w6.heap.size := Nat.le_trans l5 gS.out.size
    clear d0 d2 d3 d4 d5 f0 f2 f3 f4 f5 c0
    have c0 := cell_of_row _ _ 0 _ _ _ D0.out
    simp at c0
    go_wp2_with fail
    refine (HN.out _ _ R6.out.1).mono ?_
    rintro e w7 ⟨rfl, hr⟩
    have E0 := Lib.hid (hr.blk D0.out (by omega))
    have E1 := Lib.hid (hr.blk D1.out (by omega))
    have E2 := Lib.hid (hr.blk D2.out (by omega))
    have E5 := Lib.hid (hr.blk D5.out (by omega))
    have E6 := Lib.hid (hr.blk D6.out (by omega))
    have R7 := Lib.hid (R6.out.then hr)
    have l7 : w3.heap.size + 1 + 1 ≤ w7.heap.size := Nat.le_trans l6 hr.2.size
    clear hr c0
    have c0 := cell_of_row _ _ 0 _ _ _ E0.out
    simp at c0
    go_wp2_with fail
    refine (HL2.out _ R7.out.1).mono ?_
    rintro e w8 ⟨rfl, hr⟩
    have F1 := Lib.hid (hr.blk E1.out (by omega))
    have F2 := Lib.hid (hr.blk E2.out (by omega))
    have F5 := Lib.hid (hr.blk E5.out (by omega))
    have F6 := Lib.hid (hr.blk E6.out (by omega))
    have R8 := Lib.hid (R7.out.then hr)
    have l8 : w3.heap.size + 1 + 1 ≤ w8.heap.size := Nat.le_trans l7 hr.2.size
    obtain ⟨⟨d0, _, d2, d3, d4⟩, d5, _, _, _, _⟩ := ten_of (show w8.heap[w3.heap.size]? = some (.cells #[.int .i64 0, .string col, .int .i64 0, .int .i64 0, .int .i64 0, .string ⟨#[]⟩, .string ⟨#[]⟩, .slice Option.none 0 0, .slice Option.none 0 0, .int .i64 pos] 31 (0, 0)) from F6.out)
    have f0 := frozen_of_row _ _ 0 _ _ F6.out
    have f2 := frozen_of_row _ _ 2 _ _ F6.out
    have f3 := frozen_of_row _ _ 3 _ _ F6.out
    have f4 := frozen_of_row _ _ 4 _ _ F6.out
    have f5 := frozen_of_row _ _ 5 _ _ F6.out
    clear hr c0
    go_upto_region 12 with fail
    have gS2 := Lib.hid (grown5 w8 (w3.heap.size) (.int .i64 3) (.int .i64 4) (.int .i64 k2) (.int .i64 n2) (.string t2))
    have H6 := Lib.hid (set5 (r := 4) (k := k2) (n := n2) (t := t2) F6.out)
    simp only [show ((4 : Nat) : Int) = 4 from rfl] at H6
    generalize ((((w8.setCell ⟨w3.heap.size, 0, none⟩ (.int .i64 3)).setCell ⟨w3.heap.size, 2, none⟩ (.int .i64 4)).setCell ⟨w3.heap.size, 3, none⟩ (.int .i64 k2)).setCell ⟨w3.heap.size, 4, none⟩ (.int .i64 n2)).setCell ⟨w3.heap.size, 5, none⟩ (.string t2) = w9 at *
    have h1 := blk_row gS2.out F1.out (show w.heap.size + 1 ≠ w3.heap.size by omega)
    have H2 := Lib.hid (blk_row gS2.out F2.out (by omega))
    have h5 := blk_row gS2.out F5.out (show w3.heap.size + 1 ≠ w3.heap.size by omega)
    have R9 := Lib.hid (RdGo.stored HS.out R8.out (g := w3.heap.size) (by omega) gS2.out)
    have l9 : w3.heap.size + 1 + 1 ≤ w9.heap.size := Nat.le_trans l8 gS2.out.size
    clear d0 d2 d3 d4 d5 f0 f2 f3 f4 f5
    obtain ⟨⟨p0, p1, p2, p3, p4⟩, p5, p6, p7, p8, p9⟩ := ten_of (show w9.heap[w3.heap.size + 1]? = some (.cells #[.int .i64 3, .string col, .int .i64 (6 : Nat), .int .i64 k1, .int .i64 n1, .string t1, .string ⟨#[]⟩, .slice Option.none 0 0, .slice Option.none 0 0, .int .i64 pos] 31 (0, 0)) from h5)
    obtain ⟨⟨r0, r1, r2, r3, r4⟩, r5, r6, r7, r8, r9⟩ := ten_of (show w9.heap[w3.heap.size]? = some (.cells #[.int .i64 3, .string col, .int .i64 (4 : Nat), .int .i64 k2, .int .i64 n2, .string t2, .string ⟨#[]⟩, .slice Option.none 0 0, .slice Option.none 0 0, .int .i64 pos] 31 (0, 0)) from H6.out)
    have x9 := cell_of_row _ _ 9 _ _ _ h1
    simp [asC] at x9
    have lt9 : w.heap.size + 1 < w9.heap.size := by omega
    clear h1 h5
    go_wp2_with (refine wpList_store_row rfl 31 (.tmp 4) (.tmp 39) rfl (w.heap.size + 1 + 1) (Pm.mk 8 ⟨#[]⟩ 0 ⟨0, 0, ⟨#[]⟩⟩ ⟨#[]⟩ Option.none 0 [] (some ⟨w9.heap.size, 0, Option.none⟩) 2 [.mk 3 col 6 ⟨k1, n1, t1⟩ ⟨#[]⟩ Option.none 0 [] Option.none 0 [] pos, .mk 3 col 4 ⟨k2, n2, t2⟩ ⟨#[]⟩ Option.none 0 [] Option.none 0 [] pos] pos).c.toArray rfl rfl 31 z10 (blk_grown (World.grownBy_alloc w9 _ none) H2.out) (by rw [Pm.c_size]; exact pred_size) (by rw [Pm.c_size]; rfl) (Pm.c_all _) ?_)
    have hk := heap_alloc_new w9 (.cells ([Pm.mk 3 col 6 ⟨k1, n1, t1⟩ ⟨#[]⟩ Option.none 0 [] Option.none 0 [] pos, Pm.mk 3 col 4 ⟨k2, n2, t2⟩ ⟨#[]⟩ Option.none 0 [] Option.none 0 [] pos].flatMap Pm.c).toArray 31)
    have z2 := blk_grown (World.grownBy_alloc w9 (.cells ([Pm.mk 3 col 6 ⟨k1, n1, t1⟩ ⟨#[]⟩ Option.none 0 [] Option.none 0 [] pos, Pm.mk 3 col 4 ⟨k2, n2, t2⟩ ⟨#[]⟩ Option.none 0 [] Option.none 0 [] pos].flatMap Pm.c).toArray 31) none) H2.out
    have R10 := R9.out.keep (World.grownBy_alloc w9 (.cells ([Pm.mk 3 col 6 ⟨k1, n1, t1⟩ ⟨#[]⟩ Option.none 0 [] Option.none 0 [] pos, Pm.mk 3 col 4 ⟨k2, n2, t2⟩ ⟨#[]⟩ Option.none 0 [] Option.none 0 [] pos].flatMap Pm.c).toArray 31) none)
    rw [HA.out]
    obtain ⟨hp, hb⟩ := PrGo.ret (r := (s2, .mk 8 ⟨#[]⟩ 0 ⟨0, 0, ⟨#[]⟩⟩ ⟨#[]⟩ [] [.mk 3 col 6 ⟨k1, n1, t1⟩ ⟨#[]⟩ [] [] pos, .mk 3 col 4 ⟨k2, n2, t2⟩ ⟨#[]⟩ [] [] pos] pos)) HS.out (Pm.mk 8 ⟨#[]⟩ 0 ⟨0, 0, ⟨#[]⟩⟩ ⟨#[]⟩ Option.none 0 [] (some ⟨w9.heap.size, 0, Option.none⟩) 2 [.mk 3 col 6 ⟨k1, n1, t1⟩ ⟨#[]⟩ Option.none 0 [] Option.none 0 [] pos, .mk 3 col 4 ⟨k2, n2, t2⟩ ⟨#[]⟩ Option.none 0 [] Option.none 0 [] pos] pos) rfl ⟨RwS.nil _ _ _, Nat.le_refl _, cells_block hk ⟨by omega, by omega⟩, Nat.le_refl _, PmS.leaf _ _ _ _ _ _ _ _ _ _ _ _, PmS.leaf _ _ _ _ _ _ _ _ _ _ _ _, trivial⟩ R10 (Nat.le_trans (Nat.le_succ _) (Nat.le_succ _)) z2
    exact bodyPost_ret (results_pm rfl _ _ (w.heap.size + 1 + 1) _ rfl hb) rfl hp
theorem pamong_any (R b deep : Nat) (s : RS) (col : ByteArray) (pos : Nat) (w : World) (h : RdA R b deep s w) :
    Calls Tryz.prog 191 #[.pointer (some ⟨R, 0, none⟩), .agg (asC col pos)] w (PrGo R b deep (amongL col pos s) w) := by
  cases hc : s.comes bIn with
  | true => exact pin_any R b deep s col pos w h hc
  | false => exact pbetween_any R b deep s col pos w h hc
end Go.Proofs.YtppigamibgefaaaGreatDoor
namespace Go.Proofs.YtppigamibgefaaaGreatDoor
open Go.RowKit

/-- A predicate without lists. -/
def lfP (kd : Nat) (c : ByteArray) (r : Nat) (v : Vl) (o : ByteArray) (pos : Nat) : Pm := .mk kd c r v o Option.none 0 [] Option.none 0 [] pos
theorem lf0 {w : World} {g kd r pos : Nat} {c o : ByteArray} {v : Vl} {T : TypeId} (h : w.heap[g]? = some (.cells (lfP kd c r v o pos).c.toArray T (0, 0))) (k' : Nat) : (w.setCell ⟨g, 0, none⟩ (.int .i64 k')).heap[g]? = some (.cells (lfP k' c r v o pos).c.toArray T (0, 0)) := by
  simpa [lfP, Pm.c] using heap_setCell_same _ _ 0 _ _ (.int .i64 k') h
theorem lf2 {w : World} {g kd r pos : Nat} {c o : ByteArray} {v : Vl} {T : TypeId} (h : w.heap[g]? = some (.cells (lfP kd c r v o pos).c.toArray T (0, 0))) (r' : Nat) : (w.setCell ⟨g, 2, none⟩ (.int .i64 r')).heap[g]? = some (.cells (lfP kd c r' v o pos).c.toArray T (0, 0)) := by
  simpa [lfP, Pm.c] using heap_setCell_same _ _ 2 _ _ (.int .i64 r') h
theorem lf06 {w : World} {g kd r pos : Nat} {c o : ByteArray} {v : Vl} {T : TypeId} (h : w.heap[g]? = some (.cells (lfP kd c r v o pos).c.toArray T (0, 0))) (k' : Nat) (o' : ByteArray) : ((w.setCell ⟨g, 0, none⟩ (.int .i64 k')).setCell ⟨g, 6, none⟩ (.string o')).heap[g]? = some (.cells (lfP k' c r v o' pos).c.toArray T (0, 0)) := by
  simpa [lfP, Pm.c] using heap_setCell_same _ _ 6 _ _ (.string o') (lf0 h k')
theorem lf0v {w : World} {g kd r pos : Nat} {c o : ByteArray} {v : Vl} {T : TypeId} (h : w.heap[g]? = some (.cells (lfP kd c r v o pos).c.toArray T (0, 0))) (k' : Nat) (v' : Vl) : ((((w.setCell ⟨g, 0, none⟩ (.int .i64 k')).setCell ⟨g, 3, none⟩ (.int .i64 v'.k)).setCell ⟨g, 4, none⟩ (.int .i64 v'.n)).setCell ⟨g, 5, none⟩ (.string v'.s)).heap[g]? = some (.cells (lfP k' c r v' o pos).c.toArray T (0, 0)) := by
  have h1 := heap_setCell_same _ _ 3 _ _ (.int .i64 v'.k) (lf0 h k')
  have h2 := heap_setCell_same _ _ 4 _ _ (.int .i64 v'.n) h1
  have h3 := heap_setCell_same _ _ 5 _ _ (.string v'.s) h2
  simpa [lfP, Pm.c] using h3
theorem lf_cells {w : World} {g kd r pos : Nat} {c o : ByteArray} {v : Vl} {T : TypeId} (h : w.heap[g]? = some (.cells (lfP kd c r v o pos).c.toArray T (0, 0))) : w.cell? ⟨g, 0, none⟩ = some (.int .i64 kd) ∧ w.cell? ⟨g, 2, none⟩ = some (.int .i64 r) ∧ w.cell? ⟨g, 3, none⟩ = some (.int .i64 v.k) ∧ w.cell? ⟨g, 4, none⟩ = some (.int .i64 v.n) ∧ w.cell? ⟨g, 5, none⟩ = some (.string v.s) ∧ w.cell? ⟨g, 6, none⟩ = some (.string o) ∧ w.frozen? ⟨g, 0, none⟩ = false ∧ w.frozen? ⟨g, 2, none⟩ = false ∧ w.frozen? ⟨g, 3, none⟩ = false ∧ w.frozen? ⟨g, 4, none⟩ = false ∧ w.frozen? ⟨g, 5, none⟩ = false ∧ w.frozen? ⟨g, 6, none⟩ = false := by
  have c0 := cell_of_row _ _ 0 _ _ _ h
  have c2 := cell_of_row _ _ 2 _ _ _ h
  have c3 := cell_of_row _ _ 3 _ _ _ h
  have c4 := cell_of_row _ _ 4 _ _ _ h
  have c5 := cell_of_row _ _ 5 _ _ _ h
  have c6 := cell_of_row _ _ 6 _ _ _ h
  simp [lfP, Pm.c] at c0 c2 c3 c4 c5 c6
  exact ⟨c0, c2, c3, c4, c5, c6, frozen_of_row _ _ 0 _ _ h, frozen_of_row _ _ 2 _ _ h, frozen_of_row _ _ 3 _ _ h, frozen_of_row _ _ 4 _ _ h, frozen_of_row _ _ 5 _ _ h, frozen_of_row _ _ 6 _ _ h⟩
theorem lf_asC (c : ByteArray) (pos : Nat) : asC c pos = (lfP 0 c 0 ⟨0, 0, ⟨#[]⟩⟩ ⟨#[]⟩ pos).c.toArray := rfl
theorem lf_leaf {S : Nat → Prop} {w : World} (kd : Nat) (c : ByteArray) (r : Nat) (v : Vl) (o : ByteArray) (pos : Nat) : PmS S w (lfP kd c r v o pos) := PmS.leaf _ _ _ _ _ _ _ _ _ _ _ _
theorem grown2x (w : World) (g i j : Nat) (u v : Value) : w.grownBy ((w.setCell ⟨g, i, none⟩ u).setCell ⟨g, j, none⟩ v) (some g) := grown_setX (grown_cellR w g i u) j v
theorem grown4x (w : World) (g : Nat) (u0 u1 u2 u3 : Value) : w.grownBy ((((w.setCell ⟨g, 0, none⟩ u0).setCell ⟨g, 3, none⟩ u1).setCell ⟨g, 4, none⟩ u2).setCell ⟨g, 5, none⟩ u3) (some g) := grown_setX (grown_setX (grown_setX (grown_cellR w g 0 u0) 3 u1) 4 u2) 5 u3
set_option maxRecDepth 100000 in
set_option maxHeartbeats 3200000 in
theorem pname_isnot (R b deep : Nat) (s s1 : RS) (c : ByteArray) (pos : Nat) (w : World) (h : RdA R b deep s w) (hn : s.name = (s1, c)) (h1 : s1.comes bIs = true) (h2 : s1.pass.comes bNot = true) :
    Calls Tryz.prog 179 #[.pointer (some ⟨R, 0, none⟩), .int .i64 pos] w (PrGo R b deep (s1.pass.pass.need bNull, .mk 7 c 0 ⟨0, 0, ⟨#[]⟩⟩ ⟨#[]⟩ [] [] pos) w) := by
  have HS := Lib.hid h
  have HN := Lib.hid (fun W (hW : w.grownBy W none) => pname_any R b deep s W (h.keep hW))
  rw [hn] at HN
  simp only at HN
  have hR := h.lt'
  have HI := Lib.hid (fun st (hc : st.comes bIs = true) W (hW : RdA R b deep st W) => took_yes R b deep st bIs W hW (by decide) hc)
  have HT := Lib.hid (fun st (hc : st.comes bNot = true) W (hW : RdA R b deep st W) => took_yes R b deep st bNot W hW (by decide) hc)
  have HU := Lib.hid (fun st W (hW : RdA R b deep st W) => need_any R b deep st bNull W hW (by decide))
  clear h hn
  go_enter Tryz.func179, Tryz.ntmps179
  have GA := Lib.hid (World.grownBy_alloc w (.cells z10 31) none)
  have GA1 := Lib.hid (heap_alloc_new w (.cells z10 31))
  go_wp2_with fail
  refine (HN.out _ GA.out).mono ?_
  rintro e w2 ⟨rfl, hr⟩
  have hlt := (Array.getElem?_eq_some_iff.1 GA1.out).1
  have a2 := hr.blk GA1.out (by omega)
  have R2 := Lib.hid (show RdGo R b deep s1 w w2 from ⟨hr.1, GA.out.trans' hr.2⟩)
  have lw : w.heap.size < w2.heap.size := (Array.getElem?_eq_some_iff.1 a2).1
  have lR : R < w2.heap.size := Nat.lt_of_lt_of_le hR (Nat.le_of_lt lw)
  have R3 := Lib.hid (R2.out.keep (World.grownBy_alloc w2 (.cells (lfP 0 c 0 ⟨0, 0, ⟨#[]⟩⟩ ⟨#[]⟩ pos).c.toArray 31) none))
  have A3 := Lib.hid (blk_grown (World.grownBy_alloc w2 (.cells (lfP 0 c 0 ⟨0, 0, ⟨#[]⟩⟩ ⟨#[]⟩ pos).c.toArray 31) none) a2)
  have B3 := Lib.hid (heap_alloc_new w2 (.cells (lfP 0 c 0 ⟨0, 0, ⟨#[]⟩⟩ ⟨#[]⟩ pos).c.toArray 31))
  clear hr hlt a2
  go_wp2_with fail
  refine (HI.out _ h1 _ R3.out.1).mono ?_
  rintro e w4 ⟨rfl, hr⟩
  have A4 := Lib.hid (hr.blk A3.out (by omega))
  have B4 := Lib.hid (hr.blk B3.out (by omega))
  have R4 := Lib.hid (R3.out.then hr)
  clear hr
  obtain ⟨x0, x2, x3, x4, x5, x6, f0, f2, f3, f4, f5, f6⟩ := lf_cells B4.out
  go_wp2_with fail
  have B5 := Lib.hid (lf0 B4.out 6)
  have gS4 := Lib.hid (grown_cellR w4 w2.heap.size 0 (.int .i64 (6 : Nat)))
  try simp only [Int.cast_ofNat_Int, Int.natCast_ofNat] at B5 gS4
  generalize w4.setCell ⟨w2.heap.size, 0, none⟩ (.int .i64 6) = w5 at *
  have A5 := Lib.hid (blk_row gS4.out A4.out (Nat.ne_of_lt lw))
  have R5 := Lib.hid (RdGo.stored HS.out R4.out (Nat.le_of_lt lw) gS4.out)
  clear x0 x2 x3 x4 x5 x6 f0 f2 f3 f4 f5 f6
  refine (HT.out _ h2 _ R5.out.1).mono ?_
  rintro e w6 ⟨rfl, hr⟩
  have A6 := Lib.hid (hr.blk A5.out (by omega))
  have B6 := Lib.hid (hr.blk B5.out (by omega))
  have R6 := Lib.hid (R5.out.then hr)
  clear hr
  obtain ⟨x0, x2, x3, x4, x5, x6, f0, f2, f3, f4, f5, f6⟩ := lf_cells B6.out
  go_wp2_with fail
  have B7 := Lib.hid (lf0 B6.out 7)
  have gS6 := Lib.hid (grown_cellR w6 w2.heap.size 0 (.int .i64 (7 : Nat)))
  try simp only [Int.cast_ofNat_Int, Int.natCast_ofNat] at B7 gS6
  generalize w6.setCell ⟨w2.heap.size, 0, none⟩ (.int .i64 7) = w7 at *
  have A7 := Lib.hid (blk_row gS6.out A6.out (Nat.ne_of_lt lw))
  have R7 := Lib.hid (RdGo.stored HS.out R6.out (Nat.le_of_lt lw) gS6.out)
  clear x0 x2 x3 x4 x5 x6 f0 f2 f3 f4 f5 f6
  refine (HU.out _ _ R7.out.1).mono ?_
  rintro e w8 ⟨rfl, hr⟩
  have A8 := Lib.hid (hr.blk A7.out (by omega))
  have B8 := Lib.hid (hr.blk B7.out (by omega))
  have R8 := Lib.hid (R7.out.then hr)
  clear hr
  go_wp2_with (first
    | (refine wpList_load_row rfl 31 (.tmp 5) rfl w2.heap.size rfl 31 (lfP 7 c 0 ⟨0, 0, ⟨#[]⟩⟩ ⟨#[]⟩ pos).c.toArray (0, 0) _ B8.out Tryz.underlying31 rfl (by rw [Pm.c_size]; exact pred_size) ?_)
    | (refine wpList_store_row rfl 31 (.tmp 4) (.tmp 18) rfl w.heap.size (lfP 7 c 0 ⟨0, 0, ⟨#[]⟩⟩ ⟨#[]⟩ pos).c.toArray rfl rfl 31 z10 A8.out (by rw [Pm.c_size]; exact pred_size) (by rw [Pm.c_size]; rfl) (Pm.c_all _) ?_))
  obtain ⟨hp, hb⟩ := PrGo.ret (r := (s1.pass.pass.need bNull, .mk 7 c 0 ⟨0, 0, ⟨#[]⟩⟩ ⟨#[]⟩ [] [] pos)) HS.out (lfP 7 c 0 ⟨0, 0, ⟨#[]⟩⟩ ⟨#[]⟩ pos) rfl (lf_leaf _ _ _ _ _ _) R8.out (Nat.le_refl _) A8.out
  exact bodyPost_ret (results_pm rfl _ _ w.heap.size _ rfl hb) rfl hp
set_option maxRecDepth 100000 in
set_option maxHeartbeats 3200000 in
theorem pname_is (R b deep : Nat) (s s1 : RS) (c : ByteArray) (pos : Nat) (w : World) (h : RdA R b deep s w) (hn : s.name = (s1, c)) (h1 : s1.comes bIs = true) (h2 : s1.pass.comes bNot = false) :
    Calls Tryz.prog 179 #[.pointer (some ⟨R, 0, none⟩), .int .i64 pos] w (PrGo R b deep (s1.pass.need bNull, .mk 6 c 0 ⟨0, 0, ⟨#[]⟩⟩ ⟨#[]⟩ [] [] pos) w) := by
  have HS := Lib.hid h
  have HN := Lib.hid (fun W (hW : w.grownBy W none) => pname_any R b deep s W (h.keep hW))
  rw [hn] at HN
  simp only at HN
  have hR := h.lt'
  have HI := Lib.hid (fun st (hc : st.comes bIs = true) W (hW : RdA R b deep st W) => took_yes R b deep st bIs W hW (by decide) hc)
  have HT := Lib.hid (fun st (hc : st.comes bNot = false) W (hW : RdA R b deep st W) => took_no R b deep st bNot W hW (by decide) hc)
  have HU := Lib.hid (fun st W (hW : RdA R b deep st W) => need_any R b deep st bNull W hW (by decide))
  clear h hn
  go_enter Tryz.func179, Tryz.ntmps179
  have GA := Lib.hid (World.grownBy_alloc w (.cells z10 31) none)
  have GA1 := Lib.hid (heap_alloc_new w (.cells z10 31))
  go_wp2_with fail
  refine (HN.out _ GA.out).mono ?_
  rintro e w2 ⟨rfl, hr⟩
  have hlt := (Array.getElem?_eq_some_iff.1 GA1.out).1
  have a2 := hr.blk GA1.out (by omega)
  have R2 := Lib.hid (show RdGo R b deep s1 w w2 from ⟨hr.1, GA.out.trans' hr.2⟩)
  have lw : w.heap.size < w2.heap.size := (Array.getElem?_eq_some_iff.1 a2).1
  have lR : R < w2.heap.size := Nat.lt_of_lt_of_le hR (Nat.le_of_lt lw)
  have R3 := Lib.hid (R2.out.keep (World.grownBy_alloc w2 (.cells (lfP 0 c 0 ⟨0, 0, ⟨#[]⟩⟩ ⟨#[]⟩ pos).c.toArray 31) none))
  have A3 := Lib.hid (blk_grown (World.grownBy_alloc w2 (.cells (lfP 0 c 0 ⟨0, 0, ⟨#[]⟩⟩ ⟨#[]⟩ pos).c.toArray 31) none) a2)
  have B3 := Lib.hid (heap_alloc_new w2 (.cells (lfP 0 c 0 ⟨0, 0, ⟨#[]⟩⟩ ⟨#[]⟩ pos).c.toArray 31))
  clear hr hlt a2
  go_wp2_with fail
  refine (HI.out _ h1 _ R3.out.1).mono ?_
  rintro e w4 ⟨rfl, hr⟩
  have A4 := Lib.hid (hr.blk A3.out (by omega))
  have B4 := Lib.hid (hr.blk B3.out (by omega))
  have R4 := Lib.hid (R3.out.then hr)
  clear hr
  obtain ⟨x0, x2, x3, x4, x5, x6, f0, f2, f3, f4, f5, f6⟩ := lf_cells B4.out
  go_wp2_with fail
  have B5 := Lib.hid (lf0 B4.out 6)
  have gS4 := Lib.hid (grown_cellR w4 w2.heap.size 0 (.int .i64 (6 : Nat)))
  try simp only [Int.cast_ofNat_Int, Int.natCast_ofNat] at B5 gS4
  generalize w4.setCell ⟨w2.heap.size, 0, none⟩ (.int .i64 6) = w5 at *
  have A5 := Lib.hid (blk_row gS4.out A4.out (Nat.ne_of_lt lw))
  have R5 := Lib.hid (RdGo.stored HS.out R4.out (Nat.le_of_lt lw) gS4.out)
  clear x0 x2 x3 x4 x5 x6 f0 f2 f3 f4 f5 f6
  refine (HT.out _ h2 _ R5.out.1).mono ?_
  rintro e w6 ⟨rfl, hr⟩
  have A6 := Lib.hid (hr.blk A5.out (by omega))
  have B6 := Lib.hid (hr.blk B5.out (by omega))
  have R6 := Lib.hid (R5.out.then hr)
  clear hr
  go_wp2_with fail
  refine (HU.out _ _ R6.out.1).mono ?_
  rintro e w7 ⟨rfl, hr⟩
  have A7 := Lib.hid (hr.blk A6.out (by omega))
  have B7 := Lib.hid (hr.blk B6.out (by omega))
  have R7 := Lib.hid (R6.out.then hr)
  clear hr
  go_wp2_with (first
    | (refine wpList_load_row rfl 31 (.tmp 5) rfl w2.heap.size rfl 31 (lfP 6 c 0 ⟨0, 0, ⟨#[]⟩⟩ ⟨#[]⟩ pos).c.toArray (0, 0) _ B7.out Tryz.underlying31 rfl (by rw [Pm.c_size]; exact pred_size) ?_)
    | (refine wpList_store_row rfl 31 (.tmp 4) (.tmp 18) rfl w.heap.size (lfP 6 c 0 ⟨0, 0, ⟨#[]⟩⟩ ⟨#[]⟩ pos).c.toArray rfl rfl 31 z10 A7.out (by rw [Pm.c_size]; exact pred_size) (by rw [Pm.c_size]; rfl) (Pm.c_all _) ?_))
  obtain ⟨hp, hb⟩ := PrGo.ret (r := (s1.pass.need bNull, .mk 6 c 0 ⟨0, 0, ⟨#[]⟩⟩ ⟨#[]⟩ [] [] pos)) HS.out (lfP 6 c 0 ⟨0, 0, ⟨#[]⟩⟩ ⟨#[]⟩ pos) rfl (lf_leaf _ _ _ _ _ _) R7.out (Nat.le_refl _) A7.out
  exact bodyPost_ret (results_pm rfl _ _ w.heap.size _ rfl hb) rfl hp
set_option maxRecDepth 100000 in
set_option maxHeartbeats 3200000 in
theorem pname_not (R b deep : Nat) (s s1 : RS) (c : ByteArray) (pos : Nat) (w : World) (h : RdA R b deep s w) (hn : s.name = (s1, c)) (h1 : s1.comes bIs = false) (h2 : s1.comes bNot = true) :
    Calls Tryz.prog 179 #[.pointer (some ⟨R, 0, none⟩), .int .i64 pos] w (PrGo R b deep ((amongL c pos s1.pass).1, notP (amongL c pos s1.pass).2 pos) w) := by
  have HS := Lib.hid h
  have HN := Lib.hid (fun W (hW : w.grownBy W none) => pname_any R b deep s W (h.keep hW))
  rw [hn] at HN
  simp only at HN
  have hR := h.lt'
  have HI := Lib.hid (fun st (hc : st.comes bIs = false) W (hW : RdA R b deep st W) => took_no R b deep st bIs W hW (by decide) hc)
  have HT := Lib.hid (fun st (hc : st.comes bNot = true) W (hW : RdA R b deep st W) => took_yes R b deep st bNot W hW (by decide) hc)
  have HAm := Lib.hid (fun W (hW : RdA R b deep s1.pass W) => pamong_any R b deep s1.pass c pos W hW)
  clear h hn
  go_enter Tryz.func179, Tryz.ntmps179
  have GA := Lib.hid (World.grownBy_alloc w (.cells z10 31) none)
  have GA1 := Lib.hid (heap_alloc_new w (.cells z10 31))
  go_wp2_with fail
  refine (HN.out _ GA.out).mono ?_
  rintro e w2 ⟨rfl, hr⟩
  have hlt := (Array.getElem?_eq_some_iff.1 GA1.out).1
  have a2 := hr.blk GA1.out (by omega)
  have R2 := Lib.hid (show RdGo R b deep s1 w w2 from ⟨hr.1, GA.out.trans' hr.2⟩)
  have lw : w.heap.size < w2.heap.size := (Array.getElem?_eq_some_iff.1 a2).1
  have lR : R < w2.heap.size := Nat.lt_of_lt_of_le hR (Nat.le_of_lt lw)
  have R3 := Lib.hid (R2.out.keep (World.grownBy_alloc w2 (.cells (lfP 0 c 0 ⟨0, 0, ⟨#[]⟩⟩ ⟨#[]⟩ pos).c.toArray 31) none))
  have A3 := Lib.hid (blk_grown (World.grownBy_alloc w2 (.cells (lfP 0 c 0 ⟨0, 0, ⟨#[]⟩⟩ ⟨#[]⟩ pos).c.toArray 31) none) a2)
  have B3 := Lib.hid (heap_alloc_new w2 (.cells (lfP 0 c 0 ⟨0, 0, ⟨#[]⟩⟩ ⟨#[]⟩ pos).c.toArray 31))
  clear hr hlt a2
  go_wp2_with fail
  refine (HI.out _ h1 _ R3.out.1).mono ?_
  rintro e w4 ⟨rfl, hr⟩
  have A4 := Lib.hid (hr.blk A3.out (by omega))
  have B4 := Lib.hid (hr.blk B3.out (by omega))
  have R4 := Lib.hid (R3.out.then hr)
  clear hr
  go_wp2_with fail
  refine (HT.out _ h2 _ R4.out.1).mono ?_
  rintro e w5 ⟨rfl, hr⟩
  have A5 := Lib.hid (hr.blk A4.out (by omega))
  have B5 := Lib.hid (hr.blk B4.out (by omega))
  have R5 := Lib.hid (R4.out.then hr)
  clear hr
  go_wp2_with (refine wpList_load_row rfl 31 (.tmp 5) rfl w2.heap.size rfl 31 (lfP 0 c 0 ⟨0, 0, ⟨#[]⟩⟩ ⟨#[]⟩ pos).c.toArray (0, 0) _ B5.out Tryz.underlying31 rfl (by rw [Pm.c_size]; exact pred_size) ?_)
  refine (HAm.out _ R5.out.1).mono ?_
  rintro e w6 ⟨x, rfl, hx, hxS, hr⟩
  have A6 := Lib.hid (hr.blk A5.out (by omega))
  have R6 := Lib.hid (R5.out.then hr)
  have lx : w.heap.size < w5.heap.size := (Array.getElem?_eq_some_iff.1 A5.out).1
  have HX := Lib.hid (And.intro hx hxS)
  have lz : w5.heap.size ≤ w6.heap.size := hr.2.size
  clear hr hx hxS
  have HNt := Lib.hid (pnot_any w5.heap.size x pos w6 HX.out.2 lz)
  go_wp2_with fail
  refine HNt.out.mono ?_
  rintro e w7 ⟨⟨y, rfl, hy, hyS⟩, hg⟩
  have A7 := Lib.hid (blk_grown hg A6.out)
  have R7 := Lib.hid (R6.out.keep hg)
  have HY := Lib.hid (And.intro hy hyS)
  clear hg hy hyS
  go_wp2_with (refine wpList_store_row rfl 31 (.tmp 4) (.tmp 25) rfl w.heap.size (y).c.toArray rfl rfl 31 z10 A7.out (by rw [Pm.c_size]; exact pred_size) (by rw [Pm.c_size]; rfl) (Pm.c_all _) ?_)
  obtain ⟨hp, hb⟩ := PrGo.ret (r := ((amongL c pos s1.pass).1, notP (amongL c pos s1.pass).2 pos)) HS.out (y) (by rw [HY.out.1, HX.out.1]) (HY.out.2.mono (fun j _ hj => ⟨Nat.le_of_lt (Nat.lt_of_lt_of_le lx hj), fun e => by omega⟩)) R7.out (Nat.le_refl _) A7.out
  exact bodyPost_ret (results_pm rfl _ _ w.heap.size _ rfl hb) rfl hp
set_option maxRecDepth 100000 in
set_option maxHeartbeats 3200000 in
theorem pname_in (R b deep : Nat) (s s1 : RS) (c : ByteArray) (pos : Nat) (w : World) (h : RdA R b deep s w) (hn : s.name = (s1, c)) (h1 : s1.comes bIs = false) (h2 : s1.comes bNot = false) (s2 : RS) (hr0 : s1.rel = (s2, 0)) :
    Calls Tryz.prog 179 #[.pointer (some ⟨R, 0, none⟩), .int .i64 pos] w (PrGo R b deep (amongL c pos s2) w) := by
  have HS := Lib.hid h
  have HN := Lib.hid (fun W (hW : w.grownBy W none) => pname_any R b deep s W (h.keep hW))
  rw [hn] at HN
  simp only at HN
  have hR := h.lt'
  have HI := Lib.hid (fun st (hc : st.comes bIs = false) W (hW : RdA R b deep st W) => took_no R b deep st bIs W hW (by decide) hc)
  have HT := Lib.hid (fun st (hc : st.comes bNot = false) W (hW : RdA R b deep st W) => took_no R b deep st bNot W hW (by decide) hc)
  have HRl := Lib.hid (fun W (hW : RdA R b deep s1 W) => prel_any R b deep s1 W hW)
  rw [hr0] at HRl
  simp only at HRl
  rw [show ((0 : Nat) : Int) = 0 from rfl] at HRl
  have HAm := Lib.hid (fun W (hW : RdA R b deep s2 W) => pamong_any R b deep s2 c pos W hW)
  clear h hn hr0
  go_enter Tryz.func179, Tryz.ntmps179
  have GA := Lib.hid (World.grownBy_alloc w (.cells z10 31) none)
  have GA1 := Lib.hid (heap_alloc_new w (.cells z10 31))
  go_wp2_with fail
  refine (HN.out _ GA.out).mono ?_
  rintro e w2 ⟨rfl, hr⟩
  have hlt := (Array.getElem?_eq_some_iff.1 GA1.out).1
  have a2 := hr.blk GA1.out (by omega)
  have R2 := Lib.hid (show RdGo R b deep s1 w w2 from ⟨hr.1, GA.out.trans' hr.2⟩)
  have lw : w.heap.size < w2.heap.size := (Array.getElem?_eq_some_iff.1 a2).1
  have lR : R < w2.heap.size := Nat.lt_of_lt_of_le hR (Nat.le_of_lt lw)
  have R3 := Lib.hid (R2.out.keep (World.grownBy_alloc w2 (.cells (lfP 0 c 0 ⟨0, 0, ⟨#[]⟩⟩ ⟨#[]⟩ pos).c.toArray 31) none))
  have A3 := Lib.hid (blk_grown (World.grownBy_alloc w2 (.cells (lfP 0 c 0 ⟨0, 0, ⟨#[]⟩⟩ ⟨#[]⟩ pos).c.toArray 31) none) a2)
  have B3 := Lib.hid (heap_alloc_new w2 (.cells (lfP 0 c 0 ⟨0, 0, ⟨#[]⟩⟩ ⟨#[]⟩ pos).c.toArray 31))
  clear hr hlt a2
  go_wp2_with fail
  refine (HI.out _ h1 _ R3.out.1).mono ?_
  rintro e w4 ⟨rfl, hr⟩
  have A4 := Lib.hid (hr.blk A3.out (by omega))
  have B4 := Lib.hid (hr.blk B3.out (by omega))
  have R4 := Lib.hid (R3.out.then hr)
  clear hr
  go_wp2_with fail
  refine (HT.out _ h2 _ R4.out.1).mono ?_
  rintro e w5 ⟨rfl, hr⟩
  have A5 := Lib.hid (hr.blk A4.out (by omega))
  have B5 := Lib.hid (hr.blk B4.out (by omega))
  have R5 := Lib.hid (R4.out.then hr)
  clear hr
  go_wp2_with fail
  refine (HRl.out _ R5.out.1).mono ?_
  rintro e w6 ⟨rfl, hr⟩
  have A6 := Lib.hid (hr.blk A5.out (by omega))
  have B6 := Lib.hid (hr.blk B5.out (by omega))
  have R6 := Lib.hid (R5.out.then hr)
  clear hr
  obtain ⟨x0, x2, x3, x4, x5, x6, f0, f2, f3, f4, f5, f6⟩ := lf_cells B6.out
  go_upto_region 12 with fail
  have B7 := Lib.hid (lf2 B6.out 0)
  have gS6 := Lib.hid (grown_cellR w6 w2.heap.size 2 (.int .i64 (0 : Nat)))
  try simp only [Int.cast_ofNat_Int, Int.natCast_ofNat] at B7 gS6
  generalize w6.setCell ⟨w2.heap.size, 2, none⟩ (.int .i64 0) = w7 at *
  have A7 := Lib.hid (blk_row gS6.out A6.out (Nat.ne_of_lt lw))
  have R7 := Lib.hid (RdGo.stored HS.out R6.out (Nat.le_of_lt lw) gS6.out)
  clear x0 x2 x3 x4 x5 x6 f0 f2 f3 f4 f5 f6
  obtain ⟨x0, x2, x3, x4, x5, x6, f0, f2, f3, f4, f5, f6⟩ := lf_cells B7.out
  go_wp2_with (refine wpList_load_row rfl 31 (.tmp 5) rfl w2.heap.size rfl 31 (lfP 0 c 0 ⟨0, 0, ⟨#[]⟩⟩ ⟨#[]⟩ pos).c.toArray (0, 0) _ B7.out Tryz.underlying31 rfl (by rw [Pm.c_size]; exact pred_size) ?_)
  refine (HAm.out _ R7.out.1).mono ?_
  rintro e w8 ⟨x, rfl, hx, hxS, hr⟩
  have A8 := Lib.hid (hr.blk A7.out (by omega))
  have R8 := Lib.hid (R7.out.then hr)
  have lx : w.heap.size < w7.heap.size := (Array.getElem?_eq_some_iff.1 A7.out).1
  have HX := Lib.hid (And.intro hx hxS)
  have lz : w7.heap.size ≤ w8.heap.size := hr.2.size
  clear hr hx hxS
  go_wp2_with (refine wpList_store_row rfl 31 (.tmp 4) (.tmp 39) rfl w.heap.size (x).c.toArray rfl rfl 31 z10 A8.out (by rw [Pm.c_size]; exact pred_size) (by rw [Pm.c_size]; rfl) (Pm.c_all _) ?_)
  obtain ⟨hp, hb⟩ := PrGo.ret (r := (amongL c pos s2)) HS.out (x) HX.out.1 (HX.out.2.mono (fun j _ hj => ⟨Nat.le_of_lt (Nat.lt_of_lt_of_le lx hj), fun e => by omega⟩)) R8.out (Nat.le_refl _) A8.out
  exact bodyPost_ret (results_pm rfl _ _ w.heap.size _ rfl hb) rfl hp
set_option maxRecDepth 100000 in
set_option maxHeartbeats 3200000 in
theorem pname_cols (R b deep : Nat) (s s1 : RS) (c : ByteArray) (pos : Nat) (w : World) (h : RdA R b deep s w) (hn : s.name = (s1, c)) (h1 : s1.comes bIs = false) (h2 : s1.comes bNot = false) (s2 : RS) (rv : Nat) (hr0 : s1.rel = (s2, rv)) (hrv : rv ≠ 0) (hnm : s2.named = true) (s3 : RS) (c2 : ByteArray) (h3 : s2.name = (s3, c2)) :
    Calls Tryz.prog 179 #[.pointer (some ⟨R, 0, none⟩), .int .i64 pos] w (PrGo R b deep (s3, .mk 4 c rv ⟨0, 0, ⟨#[]⟩⟩ c2 [] [] pos) w) := by
  have HS := Lib.hid h
  have HN := Lib.hid (fun W (hW : w.grownBy W none) => pname_any R b deep s W (h.keep hW))
  rw [hn] at HN
  simp only at HN
  have hR := h.lt'
  have HI := Lib.hid (fun st (hc : st.comes bIs = false) W (hW : RdA R b deep st W) => took_no R b deep st bIs W hW (by decide) hc)
  have HT := Lib.hid (fun st (hc : st.comes bNot = false) W (hW : RdA R b deep st W) => took_no R b deep st bNot W hW (by decide) hc)
  have HRl := Lib.hid (fun W (hW : RdA R b deep s1 W) => prel_any R b deep s1 W hW)
  rw [hr0] at HRl
  simp only at HRl
  have HNm := Lib.hid (fun W (hW : RdA R b deep s2 W) => pnamed_any R b deep s2 W hW)
  rw [hnm] at HNm
  have HN2 := Lib.hid (fun W (hW : RdA R b deep s2 W) => pname_any R b deep s2 W hW)
  rw [h3] at HN2
  simp only at HN2
  have hrb : ((rv : Int) == 0) = false := by rw [beq_eq_false_iff_ne]; omega
  clear h hn hr0 hrv hnm h3
  go_enter Tryz.func179, Tryz.ntmps179
  have GA := Lib.hid (World.grownBy_alloc w (.cells z10 31) none)
  have GA1 := Lib.hid (heap_alloc_new w (.cells z10 31))
  go_wp2_with fail
  refine (HN.out _ GA.out).mono ?_
  rintro e w2 ⟨rfl, hr⟩
  have hlt := (Array.getElem?_eq_some_iff.1 GA1.out).1
  have a2 := hr.blk GA1.out (by omega)
  have R2 := Lib.hid (show RdGo R b deep s1 w w2 from ⟨hr.1, GA.out.trans' hr.2⟩)
  have lw : w.heap.size < w2.heap.size := (Array.getElem?_eq_some_iff.1 a2).1
  have lR : R < w2.heap.size := Nat.lt_of_lt_of_le hR (Nat.le_of_lt lw)
  have R3 := Lib.hid (R2.out.keep (World.grownBy_alloc w2 (.cells (lfP 0 c 0 ⟨0, 0, ⟨#[]⟩⟩ ⟨#[]⟩ pos).c.toArray 31) none))
  have A3 := Lib.hid (blk_grown (World.grownBy_alloc w2 (.cells (lfP 0 c 0 ⟨0, 0, ⟨#[]⟩⟩ ⟨#[]⟩ pos).c.toArray 31) none) a2)
  have B3 := Lib.hid (heap_alloc_new w2 (.cells (lfP 0 c 0 ⟨0, 0, ⟨#[]⟩⟩ ⟨#[]⟩ pos).c.toArray 31))
  clear hr hlt a2
  go_wp2_with fail
  refine (HI.out _ h1 _ R3.out.1).mono ?_
  rintro e w4 ⟨rfl, hr⟩
  have A4 := Lib.hid (hr.blk A3.out (by omega))
  have B4 := Lib.hid (hr.blk B3.out (by omega))
  have R4 := Lib.hid (R3.out.then hr)
  clear hr
  go_wp2_with fail
  refine (HT.out _ h2 _ R4.out.1).mono ?_
  rintro e w5 ⟨rfl, hr⟩
  have A5 := Lib.hid (hr.blk A4.out (by omega))
  have B5 := Lib.hid (hr.blk B4.out (by omega))
  have R5 := Lib.hid (R4.out.then hr)
  clear hr
  go_wp2_with fail
  refine (HRl.out _ R5.out.1).mono ?_
  rintro e w6 ⟨rfl, hr⟩
  have A6 := Lib.hid (hr.blk A5.out (by omega))
  have B6 := Lib.hid (hr.blk B5.out (by omega))
  have R6 := Lib.hid (R5.out.then hr)
  clear hr
  obtain ⟨x0, x2, x3, x4, x5, x6, f0, f2, f3, f4, f5, f6⟩ := lf_cells B6.out
  go_upto_region 12 with fail
  have B7 := Lib.hid (lf2 B6.out rv)
  have gS6 := Lib.hid (grown_cellR w6 w2.heap.size 2 (.int .i64 rv))
  try simp only [Int.cast_ofNat_Int, Int.natCast_ofNat] at B7 gS6
  generalize w6.setCell ⟨w2.heap.size, 2, none⟩ (.int .i64 rv) = w7 at *
  have A7 := Lib.hid (blk_row gS6.out A6.out (Nat.ne_of_lt lw))
  have R7 := Lib.hid (RdGo.stored HS.out R6.out (Nat.le_of_lt lw) gS6.out)
  clear x0 x2 x3 x4 x5 x6 f0 f2 f3 f4 f5 f6
  obtain ⟨x0, x2, x3, x4, x5, x6, f0, f2, f3, f4, f5, f6⟩ := lf_cells B7.out
  go_wp2_with fail
  refine (HNm.out _ R7.out.1).mono ?_
  rintro e w8 ⟨rfl, hg⟩
  have A8 := Lib.hid (blk_grown hg A7.out)
  have B8 := Lib.hid (blk_grown hg B7.out)
  have R8 := Lib.hid (R7.out.keep hg)
  clear hg
  clear x0 x2 x3 x4 x5 x6 f0 f2 f3 f4 f5 f6
  go_wp2_with fail
  refine (HN2.out _ R8.out.1).mono ?_
  rintro e w9 ⟨rfl, hr⟩
  have A9 := Lib.hid (hr.blk A8.out (by omega))
  have B9 := Lib.hid (hr.blk B8.out (by omega))
  have R9 := Lib.hid (R8.out.then hr)
  clear hr
  obtain ⟨x0, x2, x3, x4, x5, x6, f0, f2, f3, f4, f5, f6⟩ := lf_cells B9.out
  go_upto_region 16 with fail
  have B10 := Lib.hid (lf06 B9.out 4 c2)
  have gS9 := Lib.hid (grown2x w9 w2.heap.size 0 6 (.int .i64 (4 : Nat)) (.string c2))
  try simp only [Int.cast_ofNat_Int, Int.natCast_ofNat] at B10 gS9
  generalize (w9.setCell ⟨w2.heap.size, 0, none⟩ (.int .i64 4)).setCell ⟨w2.heap.size, 6, none⟩ (.string c2) = w10 at *
  have A10 := Lib.hid (blk_row gS9.out A9.out (Nat.ne_of_lt lw))
  have R10 := Lib.hid (RdGo.stored HS.out R9.out (Nat.le_of_lt lw) gS9.out)
  clear x0 x2 x3 x4 x5 x6 f0 f2 f3 f4 f5 f6
  go_wp2_with (first
    | (refine wpList_load_row rfl 31 (.tmp 5) rfl w2.heap.size rfl 31 (lfP 4 c rv ⟨0, 0, ⟨#[]⟩⟩ c2 pos).c.toArray (0, 0) _ B10.out Tryz.underlying31 rfl (by rw [Pm.c_size]; exact pred_size) ?_)
    | (refine wpList_store_row rfl 31 (.tmp 4) (.tmp 47) rfl w.heap.size (lfP 4 c rv ⟨0, 0, ⟨#[]⟩⟩ c2 pos).c.toArray rfl rfl 31 z10 A10.out (by rw [Pm.c_size]; exact pred_size) (by rw [Pm.c_size]; rfl) (Pm.c_all _) ?_))
  obtain ⟨hp, hb⟩ := PrGo.ret (r := (s3, .mk 4 c rv ⟨0, 0, ⟨#[]⟩⟩ c2 [] [] pos)) HS.out (lfP 4 c rv ⟨0, 0, ⟨#[]⟩⟩ c2 pos) rfl (lf_leaf _ _ _ _ _ _) R10.out (Nat.le_refl _) A10.out
  exact bodyPost_ret (results_pm rfl _ _ w.heap.size _ rfl hb) rfl hp
set_option maxRecDepth 100000 in
set_option maxHeartbeats 3200000 in
theorem pname_lit (R b deep : Nat) (s s1 : RS) (c : ByteArray) (pos : Nat) (w : World) (h : RdA R b deep s w) (hn : s.name = (s1, c)) (h1 : s1.comes bIs = false) (h2 : s1.comes bNot = false) (s2 : RS) (rv : Nat) (hr0 : s1.rel = (s2, rv)) (hrv : rv ≠ 0) (hnm : s2.named = false) (s3 : RS) (v : Vl) (h3 : s2.literal = (s3, v)) :
    Calls Tryz.prog 179 #[.pointer (some ⟨R, 0, none⟩), .int .i64 pos] w (PrGo R b deep (s3, .mk 3 c rv v ⟨#[]⟩ [] [] pos) w) := by
  have HS := Lib.hid h
  have HN := Lib.hid (fun W (hW : w.grownBy W none) => pname_any R b deep s W (h.keep hW))
  rw [hn] at HN
  simp only at HN
  have hR := h.lt'
  have HI := Lib.hid (fun st (hc : st.comes bIs = false) W (hW : RdA R b deep st W) => took_no R b deep st bIs W hW (by decide) hc)
  have HT := Lib.hid (fun st (hc : st.comes bNot = false) W (hW : RdA R b deep st W) => took_no R b deep st bNot W hW (by decide) hc)
  have HRl := Lib.hid (fun W (hW : RdA R b deep s1 W) => prel_any R b deep s1 W hW)
  rw [hr0] at HRl
  simp only at HRl
  have HNm := Lib.hid (fun W (hW : RdA R b deep s2 W) => pnamed_any R b deep s2 W hW)
  rw [hnm] at HNm
  have HN2 := Lib.hid (fun W (hW : RdA R b deep s2 W) => plit_any R b deep s2 W hW)
  rw [h3] at HN2
  obtain ⟨vk, vn, vs⟩ := v
  simp only [vCT] at HN2
  have hrb : ((rv : Int) == 0) = false := by rw [beq_eq_false_iff_ne]; omega
  clear h hn hr0 hrv hnm h3
  go_enter Tryz.func179, Tryz.ntmps179
  have GA := Lib.hid (World.grownBy_alloc w (.cells z10 31) none)
  have GA1 := Lib.hid (heap_alloc_new w (.cells z10 31))
  go_wp2_with fail
  refine (HN.out _ GA.out).mono ?_
  rintro e w2 ⟨rfl, hr⟩
  have hlt := (Array.getElem?_eq_some_iff.1 GA1.out).1
  have a2 := hr.blk GA1.out (by omega)
  have R2 := Lib.hid (show RdGo R b deep s1 w w2 from ⟨hr.1, GA.out.trans' hr.2⟩)
  have lw : w.heap.size < w2.heap.size := (Array.getElem?_eq_some_iff.1 a2).1
  have lR : R < w2.heap.size := Nat.lt_of_lt_of_le hR (Nat.le_of_lt lw)
  have R3 := Lib.hid (R2.out.keep (World.grownBy_alloc w2 (.cells (lfP 0 c 0 ⟨0, 0, ⟨#[]⟩⟩ ⟨#[]⟩ pos).c.toArray 31) none))
  have A3 := Lib.hid (blk_grown (World.grownBy_alloc w2 (.cells (lfP 0 c 0 ⟨0, 0, ⟨#[]⟩⟩ ⟨#[]⟩ pos).c.toArray 31) none) a2)
  have B3 := Lib.hid (heap_alloc_new w2 (.cells (lfP 0 c 0 ⟨0, 0, ⟨#[]⟩⟩ ⟨#[]⟩ pos).c.toArray 31))
  clear hr hlt a2
  go_wp2_with fail
  refine (HI.out _ h1 _ R3.out.1).mono ?_
  rintro e w4 ⟨rfl, hr⟩
  have A4 := Lib.hid (hr.blk A3.out (by omega))
  have B4 := Lib.hid (hr.blk B3.out (by omega))
  have R4 := Lib.hid (R3.out.then hr)
  clear hr
  go_wp2_with fail
  refine (HT.out _ h2 _ R4.out.1).mono ?_
  rintro e w5 ⟨rfl, hr⟩
  have A5 := Lib.hid (hr.blk A4.out (by omega))
  have B5 := Lib.hid (hr.blk B4.out (by omega))
  have R5 := Lib.hid (R4.out.then hr)
  clear hr
  go_wp2_with fail
  refine (HRl.out _ R5.out.1).mono ?_
  rintro e w6 ⟨rfl, hr⟩
  have A6 := Lib.hid (hr.blk A5.out (by omega))
  have B6 := Lib.hid (hr.blk B5.out (by omega))
  have R6 := Lib.hid (R5.out.then hr)
  clear hr
  obtain ⟨x0, x2, x3, x4, x5, x6, f0, f2, f3, f4, f5, f6⟩ := lf_cells B6.out
  go_upto_region 12 with fail
  have B7 := Lib.hid (lf2 B6.out rv)
  have gS6 := Lib.hid (grown_cellR w6 w2.heap.size 2 (.int .i64 rv))
  try simp only [Int.cast_ofNat_Int, Int.natCast_ofNat] at B7 gS6
  generalize w6.setCell ⟨w2.heap.size, 2, none⟩ (.int .i64 rv) = w7 at *
  have A7 := Lib.hid (blk_row gS6.out A6.out (Nat.ne_of_lt lw))
  have R7 := Lib.hid (RdGo.stored HS.out R6.out (Nat.le_of_lt lw) gS6.out)
  clear x0 x2 x3 x4 x5 x6 f0 f2 f3 f4 f5 f6
  obtain ⟨x0, x2, x3, x4, x5, x6, f0, f2, f3, f4, f5, f6⟩ := lf_cells B7.out
  go_wp2_with fail
  refine (HNm.out _ R7.out.1).mono ?_
  rintro e w8 ⟨rfl, hg⟩
  have A8 := Lib.hid (blk_grown hg A7.out)
  have B8 := Lib.hid (blk_grown hg B7.out)
  have R8 := Lib.hid (R7.out.keep hg)
  clear hg
  clear x0 x2 x3 x4 x5 x6 f0 f2 f3 f4 f5 f6
  go_wp2_with fail
  refine (HN2.out _ R8.out.1).mono ?_
  rintro e w9 ⟨rfl, hr⟩
  have A9 := Lib.hid (hr.blk A8.out (by omega))
  have B9 := Lib.hid (hr.blk B8.out (by omega))
  have R9 := Lib.hid (R8.out.then hr)
  clear hr
  obtain ⟨x0, x2, x3, x4, x5, x6, f0, f2, f3, f4, f5, f6⟩ := lf_cells B9.out
  go_upto_region 16 with fail
  have B10 := Lib.hid (lf0v B9.out 3 ⟨vk, vn, vs⟩)
  have gS9 := Lib.hid (grown4x w9 w2.heap.size (.int .i64 (3 : Nat)) (.int .i64 vk) (.int .i64 vn) (.string vs))
  try simp only [Int.cast_ofNat_Int, Int.natCast_ofNat] at B10 gS9
  generalize (((w9.setCell ⟨w2.heap.size, 0, none⟩ (.int .i64 3)).setCell ⟨w2.heap.size, 3, none⟩ (.int .i64 vk)).setCell ⟨w2.heap.size, 4, none⟩ (.int .i64 vn)).setCell ⟨w2.heap.size, 5, none⟩ (.string vs) = w10 at *
  have A10 := Lib.hid (blk_row gS9.out A9.out (Nat.ne_of_lt lw))
  have R10 := Lib.hid (RdGo.stored HS.out R9.out (Nat.le_of_lt lw) gS9.out)
  clear x0 x2 x3 x4 x5 x6 f0 f2 f3 f4 f5 f6
  go_wp2_with (first
    | (refine wpList_load_row rfl 31 (.tmp 5) rfl w2.heap.size rfl 31 (lfP 3 c rv ⟨vk, vn, vs⟩ ⟨#[]⟩ pos).c.toArray (0, 0) _ B10.out Tryz.underlying31 rfl (by rw [Pm.c_size]; exact pred_size) ?_)
    | (refine wpList_store_row rfl 31 (.tmp 4) (.tmp 47) rfl w.heap.size (lfP 3 c rv ⟨vk, vn, vs⟩ ⟨#[]⟩ pos).c.toArray rfl rfl 31 z10 A10.out (by rw [Pm.c_size]; exact pred_size) (by rw [Pm.c_size]; rfl) (Pm.c_all _) ?_))
  obtain ⟨hp, hb⟩ := PrGo.ret (r := (s3, .mk 3 c rv ⟨vk, vn, vs⟩ ⟨#[]⟩ [] [] pos)) HS.out (lfP 3 c rv ⟨vk, vn, vs⟩ ⟨#[]⟩ pos) rfl (lf_leaf _ _ _ _ _ _) R10.out (Nat.le_refl _) A10.out
  exact bodyPost_ret (results_pm rfl _ _ w.heap.size _ rfl hb) rfl hp
theorem pofname_any (R b deep : Nat) (s : RS) (pos : Nat) (w : World) (h : RdA R b deep s w) :
    Calls Tryz.prog 179 #[.pointer (some ⟨R, 0, none⟩), .int .i64 pos] w (PrGo R b deep (nameP pos s) w) := by
  obtain ⟨⟨s1, c⟩, hn⟩ : ∃ y, s.name = y := ⟨_, rfl⟩
  unfold nameP
  rw [hn]
  dsimp only
  cases h1 : s1.comes bIs with
  | true =>
    rw [if_pos rfl]
    cases h2 : s1.pass.comes bNot with
    | true => rw [if_pos rfl]; exact pname_isnot R b deep s s1 c pos w h hn h1 h2
    | false => rw [if_neg (by simp)]; exact pname_is R b deep s s1 c pos w h hn h1 h2
  | false =>
    rw [if_neg (by simp)]
    cases h2 : s1.comes bNot with
    | true => rw [if_pos rfl]; exact pname_not R b deep s s1 c pos w h hn h1 h2
    | false =>
      rw [if_neg (by simp)]
      obtain ⟨⟨s2, rv⟩, hr⟩ : ∃ y, s1.rel = y := ⟨_, rfl⟩
      rw [hr]
      dsimp only
      by_cases h0 : rv = 0
      · subst h0
        rw [if_pos rfl]
        exact pname_in R b deep s s1 c pos w h hn h1 h2 s2 hr
      · rw [if_neg h0]
        cases hm : s2.named with
        | true =>
          rw [if_pos rfl]
          exact pname_cols R b deep s s1 c pos w h hn h1 h2 s2 rv hr h0 hm _ _ rfl
        | false =>
          rw [if_neg (by simp)]
          exact pname_lit R b deep s s1 c pos w h hn h1 h2 s2 rv hr h0 hm _ _ rfl
end Go.Proofs.YtppigamibgefaaaGreatDoor
namespace Go.Proofs.YtppigamibgefaaaGreatDoor
open Go.RowKit

set_option maxHeartbeats 3200000 in
theorem eqfPm_any (S : Nat → Prop) (a a' : Ptr) (cap cap' : Nat) (l m : List Pm) (w : World) (h : CellsS S w a (l.flatMap Pm.c)) (h' : CellsS S w a' (m.flatMap Pm.c)) (hs : PmSs S w l) (hs' : PmSs S w m) (hl : l.length ≤ 1000000) :
    Calls Tryz.prog 39 #[.slice a l.length cap, .slice a' m.length cap', .func (.func 40) #[] #[]] w fun e w' => BoolIs (l.length = m.length ∧ ∀ i, i < l.length → Pm.like false (l.getD i default) (m.getD i default)) e ∧ w.grownBy w' none := by
  by_cases hll : l.length = m.length
  · have H := Lib.hid h
    have H' := Lib.hid h'
    have HE := Lib.hid (fun (i : Nat) (hi : i < l.length) (W : World) (hW : w.grownBy W none) => alike_any S (l.getD i default) (m.getD i default) W
      (((PmSs_iff l).1 hs _ (by rw [List.getD, List.getElem?_eq_getElem hi]; exact List.getElem_mem hi)).keep (.of hW))
      (((PmSs_iff m).1 hs' _ (by rw [List.getD, List.getElem?_eq_getElem (show i < m.length by omega)]; exact List.getElem_mem (show i < m.length by omega))).keep (.of hW)))
    have HL := Lib.hid hll
    rw [← hll]
    obtain ⟨n, hn⟩ : ∃ n, n = l.length := ⟨_, rfl⟩
    have Hn := Lib.hid hn
    rw [← hn] at hl ⊢
    clear h h' hll hn hs hs'
    go_enter Tryz.func39, Tryz.ntmps39
    go_wp2_with fail
    go_loopw [17] (fun i wr => ∃ (k : Nat), i = .int .i64 k ∧ k ≤ n ∧ Hid (∀ j, j < k → Pm.like false (l.getD j default) (m.getD j default)) ∧ Hid (w.grownBy wr none)) (fun i _ => n - (intOf i).toNat)
    case atStart => exact ⟨0, rfl, by omega, Lib.hid (fun i hi => by omega), Lib.hid (grown_reflX _ _)⟩
    case round =>
      obtain ⟨k, rfl, hk, E, K⟩ := hrel
      by_cases hlt : k < n
      · obtain ⟨b, off, rfl, _, hb, hc⟩ := (H.out.keep (.of K.out)).elem Pm.c_len (by decide) (i := k) (by rw [← Hn.out]; exact hlt)
        obtain ⟨b', off', rfl, _, hb', hc'⟩ := (H'.out.keep (.of K.out)).elem Pm.c_len (by decide) (i := k) (by rw [← HL.out, ← Hn.out]; exact hlt)
        have HC1 := Lib.hid (fun (W : World) (hW : w.grownBy W none) => HE.out k (by rw [← Hn.out]; exact hlt) W hW)
        have RX : Hid (wr.rangeAt b (off + k * 10) (l.getD k default).c) := Lib.hid hc
        have RY0 : Hid (wr.rangeAt b' (off' + k * 10) (m.getD k default).c) := Lib.hid hc'
        have E3 : Hid (∀ j, j < k + 1 → Pm.like false (l.getD k default) (m.getD k default) → Pm.like false (l.getD j default) (m.getD j default)) := Lib.hid fun j hj h => by
          by_cases e : j = k
          · rw [e]; exact h
          · exact E.out j (by omega)
        have E4 : Hid ((∀ j, j < n → Pm.like false (l.getD j default) (m.getD j default)) → Pm.like false (l.getD k default) (m.getD k default)) := Lib.hid fun h => h k hlt
        clear hc hc'
        generalize l.getD k default = x at *
        generalize m.getD k default = y at *
        have gA := Lib.hid (World.grownBy_alloc wr (.cells z10 31) none)
        have A1 := Lib.hid (heap_alloc_new wr (.cells z10 31))
        have gS := Lib.hid (grown_setRow (wr.alloc (.cells z10 31)) wr.heap.size x.c.toArray)
        have A2 := Lib.hid (setRow_heap (wr.alloc (.cells z10 31)) wr.heap.size z10 x.c.toArray _ _ A1.out)
        have g2 : Hid (wr.grownBy ((wr.alloc (.cells z10 31)).setRow wr.heap.size x.c.toArray) none) := Lib.hid (grown_thenX gA.out gS.out (fun j e => by cases e; exact Nat.le_refl _))
        have RY : Hid (((wr.alloc (.cells z10 31)).setRow wr.heap.size x.c.toArray).rangeAt b' (off' + k * 10) y.c) := Lib.hid (fun j u hj => g2.out.cell (RY0.out j u hj) (by simp))
        have s2 : ((wr.alloc (.cells z10 31)).setRow wr.heap.size x.c.toArray).heap.size = wr.heap.size + 1 := by simp
        have gB := Lib.hid (World.grownBy_alloc ((wr.alloc (.cells z10 31)).setRow wr.heap.size x.c.toArray) (.cells z10 31) none)
        have B3 := heap_alloc_new ((wr.alloc (.cells z10 31)).setRow wr.heap.size x.c.toArray) (.cells z10 31)
        rw [s2] at B3
        have B3 := Lib.hid B3
        have gT := Lib.hid (grown_setRow (((wr.alloc (.cells z10 31)).setRow wr.heap.size x.c.toArray).alloc (.cells z10 31)) (wr.heap.size + 1) y.c.toArray)
        have B4 := Lib.hid (setRow_heap _ (wr.heap.size + 1) z10 y.c.toArray _ _ B3.out)
        have A4 := Lib.hid (blk_row gT.out (blk_grown gB.out A2.out) (by omega))
        have K1 := Lib.hid (K.out.trans (grown_thenX (g2.out.trans gB.out) gT.out (fun j e => by cases e; omega)))
        clear gA gS g2 gB gT RY0 s2
        go_wp2_with (first
          | (refine wpList_load_mid rfl 31 (.tmp 20) rfl b (off + k * 10) rfl x.c _ RX.out Tryz.underlying31 rfl (by rw [Pm.c_len]; exact pred_size) ?_)
          | (refine wpList_store_row rfl 31 (.tmp 8) (.tmp 21) rfl wr.heap.size x.c.toArray rfl rfl 31 z10 A1.out (by rw [Pm.c_size]; exact pred_size) (by rw [Pm.c_size]; rfl) (Pm.c_all _) ?_)
          | (refine wpList_load_mid rfl 31 (.tmp 24) rfl b' (off' + k * 10) rfl y.c _ RY.out Tryz.underlying31 rfl (by rw [Pm.c_len]; exact pred_size) ?_)
          | (refine wpList_store_row rfl 31 (.tmp 9) (.tmp 25) rfl (wr.heap.size + 1) y.c.toArray rfl rfl 31 z10 B3.out (by rw [Pm.c_size]; exact pred_size) (by rw [Pm.c_size]; rfl) (Pm.c_all _) ?_)
          | (refine wpList_load_row rfl 31 (.tmp 8) rfl wr.heap.size rfl 31 x.c.toArray (0, 0) _ A4.out Tryz.underlying31 rfl (by rw [Pm.c_size]; exact pred_size) ?_)
          | (refine wpList_load_row rfl 31 (.tmp 9) rfl (wr.heap.size + 1) rfl 31 y.c.toArray (0, 0) _ B4.out Tryz.underlying31 rfl (by rw [Pm.c_size]; exact pred_size) ?_))
        refine (HC1.out _ K1.out).mono ?_
        rintro e w2 ⟨⟨r, rfl, hr⟩, hg⟩
        have K2 := Lib.hid (K1.out.trans hg)
        have HR := Lib.hid hr
        clear hg hr
        cases r with
        | true =>
          have E2 : Hid (∀ j, j < k + 1 → Pm.like false (l.getD j default) (m.getD j default)) := Lib.hid fun j hj => E3.out j hj (HR.out.1 rfl)
          go_wp2_with fail
          go_roundw
          case rel => exact ⟨k + 1, by go_num, by omega, E2, K2⟩
          case measure => simp [intOf]; omega
        | false =>
          go_wp2_with fail
          go_ret
          exact ⟨⟨false, rfl, by
            constructor
            · intro h; cases h
            · intro h; exact HR.out.2 (E4.out h.2)⟩, K2.out⟩
      · obtain rfl : k = n := by omega
        go_wp2_with fail
        go_ret
        exact ⟨⟨true, rfl, by
          constructor
          · intro _; exact ⟨by first | trivial | rfl, E.out⟩
          · intro _; rfl⟩, K.out⟩
  · have hd : ((l.length : Int) != (m.length : Int)) = true := by rw [bne_iff_ne]; omega
    have HN := Lib.hid hll
    clear h h' hll hs hs'
    generalize l.length = n1 at *
    generalize m.length = n2 at *
    go_enter Tryz.func39, Tryz.ntmps39
    go_wp2_with fail
    go_ret
    exact ⟨⟨false, rfl, by simp [HN.out]⟩, grown_reflX _ _⟩
end Go.Proofs.YtppigamibgefaaaGreatDoor
