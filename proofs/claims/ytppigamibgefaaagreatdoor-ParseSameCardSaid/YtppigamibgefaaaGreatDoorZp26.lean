/- The reader's predicates that begin with a literal. The other two predicates that begin with a literal. The reader's parts: the list of predicates in memory, its mathematics. -/
import Derived.Test.YtppigamibgefaaaGreatDoorZp25
namespace Go.Proofs.YtppigamibgefaaaGreatDoor
open Go.RowKit

theorem set10 {w : World} {g : Nat} {o0 o1 o2 o3 o4 o5 o6 o7 o8 o9 v0 v1 v2 v3 v4 v5 v6 v7 v8 v9 : Value} {T : TypeId} (h : w.heap[g]? = some (.cells #[o0, o1, o2, o3, o4, o5, o6, o7, o8, o9] T (0, 0))) :
    ((((((((((w.setCell ⟨g, 0, none⟩ v0).setCell ⟨g, 1, none⟩ v1).setCell ⟨g, 2, none⟩ v2).setCell ⟨g, 3, none⟩ v3).setCell ⟨g, 4, none⟩ v4).setCell ⟨g, 5, none⟩ v5).setCell ⟨g, 6, none⟩ v6).setCell ⟨g, 7, none⟩ v7).setCell ⟨g, 8, none⟩ v8).setCell ⟨g, 9, none⟩ v9).heap[g]? = some (.cells #[v0, v1, v2, v3, v4, v5, v6, v7, v8, v9] T (0, 0)) := by
  have h0 := heap_setCell_same _ _ 0 _ _ v0 h
  have h1 := heap_setCell_same _ _ 1 _ _ v1 h0
  have h2 := heap_setCell_same _ _ 2 _ _ v2 h1
  have h3 := heap_setCell_same _ _ 3 _ _ v3 h2
  have h4 := heap_setCell_same _ _ 4 _ _ v4 h3
  have h5 := heap_setCell_same _ _ 5 _ _ v5 h4
  have h6 := heap_setCell_same _ _ 6 _ _ v6 h5
  have h7 := heap_setCell_same _ _ 7 _ _ v7 h6
  have h8 := heap_setCell_same _ _ 8 _ _ v8 h7
  have h9 := heap_setCell_same _ _ 9 _ _ v9 h8
  simpa using h9
theorem grown10 (w : World) (g : Nat) (v0 v1 v2 v3 v4 v5 v6 v7 v8 v9 : Value) :
    w.grownBy ((((((((((w.setCell ⟨g, 0, none⟩ v0).setCell ⟨g, 1, none⟩ v1).setCell ⟨g, 2, none⟩ v2).setCell ⟨g, 3, none⟩ v3).setCell ⟨g, 4, none⟩ v4).setCell ⟨g, 5, none⟩ v5).setCell ⟨g, 6, none⟩ v6).setCell ⟨g, 7, none⟩ v7).setCell ⟨g, 8, none⟩ v8).setCell ⟨g, 9, none⟩ v9) (some g) :=
  grown_setX (grown_setX (grown_setX (grown_setX (grown_setX (grown_setX (grown_setX (grown_setX (grown_setX (grown_cellR w g 0 v0) 1 v1) 2 v2) 3 v3) 4 v4) 5 v5) 6 v6) 7 v7) 8 v8) 9 v9
theorem ten_f {w : World} {g : Nat} {cs : Array Value} {T : TypeId} (h : w.heap[g]? = some (.cells cs T (0, 0))) : (w.frozen? ⟨g, 0, none⟩ = false ∧ w.frozen? ⟨g, 1, none⟩ = false ∧ w.frozen? ⟨g, 2, none⟩ = false ∧ w.frozen? ⟨g, 3, none⟩ = false ∧ w.frozen? ⟨g, 4, none⟩ = false) ∧ w.frozen? ⟨g, 5, none⟩ = false ∧ w.frozen? ⟨g, 6, none⟩ = false ∧ w.frozen? ⟨g, 7, none⟩ = false ∧ w.frozen? ⟨g, 8, none⟩ = false ∧ w.frozen? ⟨g, 9, none⟩ = false :=
  ⟨⟨frozen_of_row _ _ 0 _ _ h, frozen_of_row _ _ 1 _ _ h, frozen_of_row _ _ 2 _ _ h, frozen_of_row _ _ 3 _ _ h, frozen_of_row _ _ 4 _ _ h⟩, frozen_of_row _ _ 5 _ _ h, frozen_of_row _ _ 6 _ _ h, frozen_of_row _ _ 7 _ _ h, frozen_of_row _ _ 8 _ _ h, frozen_of_row _ _ 9 _ _ h⟩
theorem lf10 {w : World} {g kd r pos : Nat} {c o vs : ByteArray} {vk vn : Int} {T : TypeId} (h : w.heap[g]? = some (.cells #[.int .i64 (kd : Int), .string c, .int .i64 (r : Int), .int .i64 vk, .int .i64 vn, .string vs, .string o, .slice Option.none 0 0, .slice Option.none 0 0, .int .i64 (pos : Int)] T (0, 0))) : w.heap[g]? = some (.cells (lfP kd c r ⟨vk, vn, vs⟩ o pos).c.toArray T (0, 0)) := by
  simpa [lfP, Pm.c] using h
theorem turn_nat (r : Nat) (h1 : 1 ≤ r) (h2 : r ≤ 6) : turnT (r : Int) = ((turnR r : Nat) : Int) ∧ relE (r : Int) = 0 := by
  have hk : r = 1 ∨ r = 2 ∨ r = 3 ∨ r = 4 ∨ r = 5 ∨ r = 6 := by omega
  rcases hk with rfl | rfl | rfl | rfl | rfl | rfl <;> exact ⟨by decide, by decide⟩
theorem rel_le (s : RS) : s.rel.2 ≤ 6 := by
  unfold RS.rel relT
  repeat' split
  all_goals simp_all
theorem PrGo.retG {R b deep : Nat} {s0 : RS} {r : RS × Prd} {w W W' : World} {g : Nat} (h0 : RdA R b deep s0 w) (y : Pm) (hy : y.e = r.2) (hS : PmS (fun j => w.heap.size ≤ j) W' y) (hR : RdGo R b deep r.1 w W) (hg : w.heap.size ≤ g) (hgr : W.grownBy W' (some g)) :
    PrGo R b deep r w (.returned y.v) W' :=
  ⟨y, rfl, hy, hS, RdGo.stored h0 hR hg hgr⟩
set_option maxRecDepth 100000 in
set_option maxHeartbeats 3200000 in
theorem pofl_cmp (R b deep : Nat) (s s1 : RS) (v : Vl) (pos : Nat) (w : World) (h : RdA R b deep s w) (hl : s.literal = (s1, v)) (s2 : RS) (rv : Nat) (hr0 : s1.rel = (s2, rv)) (hrv : rv ≠ 0) (hnm : s2.named = true) (s3 : RS) (c2 : ByteArray) (h3 : s2.name = (s3, c2)) :
    Calls Tryz.prog 180 #[.pointer (some ⟨R, 0, none⟩), .int .i64 pos] w (PrGo R b deep (s3, .mk 3 c2 (turnR rv) v ⟨#[]⟩ [] [] pos) w) := by
  have HS := Lib.hid h
  have HL := Lib.hid (fun W (hW : w.grownBy W none) => plit_any R b deep s W (h.keep hW))
  rw [hl] at HL
  obtain ⟨vk, vn, vs⟩ := v
  simp only [vCT] at HL
  have HRl := Lib.hid (fun W (hW : RdA R b deep s1 W) => prel_any R b deep s1 W hW)
  have h6 := rel_le s1
  rw [hr0] at HRl h6
  simp only at HRl h6
  have HNm := Lib.hid (fun W (hW : RdA R b deep s2 W) => pnamed_any R b deep s2 W hW)
  rw [hnm] at HNm
  have HN2 := Lib.hid (fun W (hW : RdA R b deep s2 W) => pname_any R b deep s2 W hW)
  rw [h3] at HN2
  simp only at HN2
  have HTu := Lib.hid (fun W => turned_any (rv : Int) W)
  obtain ⟨e1, e2⟩ := turn_nat rv (by omega) h6
  rw [e1, e2] at HTu
  have hR := h.lt'
  have hrb : ((rv : Int) == 0) = false := by rw [beq_eq_false_iff_ne]; omega
  generalize turnR rv = tr at *
  clear h hl hr0 hrv hnm h3 h6 e1 e2
  go_enter Tryz.func180, Tryz.ntmps180
  have GA := Lib.hid (World.grownBy_alloc w (.cells z10 31) none)
  have GA1 := Lib.hid (heap_alloc_new w (.cells z10 31))
  go_wp2_with fail
  refine (HL.out _ GA.out).mono ?_
  rintro e w2 ⟨rfl, hr⟩
  have hlt := (Array.getElem?_eq_some_iff.1 GA1.out).1
  have a2 := hr.blk GA1.out (by omega)
  have R2 := Lib.hid (show RdGo R b deep s1 w w2 from ⟨hr.1, GA.out.trans' hr.2⟩)
  have lw : w.heap.size < w2.heap.size := (Array.getElem?_eq_some_iff.1 a2).1
  have lR : R < w2.heap.size := Nat.lt_of_lt_of_le hR (Nat.le_of_lt lw)
  have R3 := Lib.hid (R2.out.keep (World.grownBy_alloc w2 (.cells #[.int .i64 vk, .int .i64 vn, .string vs] 27) none))
  have A3 := Lib.hid (blk_grown (World.grownBy_alloc w2 (.cells #[.int .i64 vk, .int .i64 vn, .string vs] 27) none) a2)
  have B3 := Lib.hid (heap_alloc_new w2 (.cells #[.int .i64 vk, .int .i64 vn, .string vs] 27))
  clear hr hlt a2
  go_wp2_with fail
  refine (HRl.out _ R3.out.1).mono ?_
  rintro e w4 ⟨rfl, hr⟩
  have A4 := Lib.hid (hr.blk A3.out (by omega))
  have B4 := Lib.hid (hr.blk B3.out (by omega))
  have R4 := Lib.hid (R3.out.then hr)
  clear hr
  go_wp2_with fail
  refine (HNm.out _ R4.out.1).mono ?_
  rintro e w5 ⟨rfl, hg⟩
  have A5 := Lib.hid (blk_grown hg A4.out)
  have B5 := Lib.hid (blk_grown hg B4.out)
  have R5 := Lib.hid (R4.out.keep hg)
  clear hg
  go_wp2_with fail
  refine (HTu.out _).mono ?_
  rintro e w6 ⟨rfl, hb⟩
  have hg := grown_belowT hb none
  have A6 := Lib.hid (blk_grown hg A5.out)
  have B6 := Lib.hid (blk_grown hg B5.out)
  have R6 := Lib.hid (R5.out.keep hg)
  have RA := Lib.hid (R6.out.1.keep (grown_drewT (grown_reflT w6 none)))
  obtain ⟨⟨x0, x1, x2⟩, _, _, _⟩ := three_of (show w6.drew.heap[w2.heap.size]? = some (.cells #[.int .i64 vk, .int .i64 vn, .string vs] 27 (0, 0)) from B6.out)
  clear hg hb
  go_wp2_with fail
  go_region_law (go_simp; go_at_call 87; (((with_reducible refine (HN2.out w6.drew RA.out).mono ?_); rintro e w7 ⟨rfl, hr⟩; have A7 := Lib.hid (hr.blk A6.out (by omega)); have R7 := Lib.hid ((R6.out.keep (grown_drewT (grown_reflT w6 none))).then hr); obtain ⟨⟨y0, y1, y2⟩, _, _, _⟩ := three_of (hr.blk B6.out (by omega)); obtain ⟨⟨p0, p1, p2, p3, p4⟩, p5, p6, p7, p8, p9⟩ := ten_of (show w7.heap[w.heap.size]? = some (.cells #[.int .i64 0, .string ⟨#[]⟩, .int .i64 0, .int .i64 0, .int .i64 0, .string ⟨#[]⟩, .string ⟨#[]⟩, .slice Option.none 0 0, .slice Option.none 0 0, .int .i64 0] 31 (0, 0)) from A7.out); obtain ⟨⟨q0, q1, q2, q3, q4⟩, q5, q6, q7, q8, q9⟩ := ten_f A7.out; clear hr)))
  all_goals
    go_wp2_with fail
    have hs0 := set10 A7.out (v0 := .int .i64 3) (v1 := .string c2) (v2 := .int .i64 (tr : Int)) (v3 := .int .i64 vk) (v4 := .int .i64 vn) (v5 := .string vs) (v6 := .string ⟨#[]⟩) (v7 := .slice Option.none 0 0) (v8 := .slice Option.none 0 0) (v9 := .int .i64 (pos : Int))
    have hs := lf10 (kd := 3) hs0
    have hg := grown10 w7 w.heap.size (.int .i64 3) (.string c2) (.int .i64 (tr : Int)) (.int .i64 vk) (.int .i64 vn) (.string vs) (.string ⟨#[]⟩) (.slice Option.none 0 0) (.slice Option.none 0 0) (.int .i64 (pos : Int))
    have hp := PrGo.retG (r := (s3, .mk 3 c2 tr ⟨vk, vn, vs⟩ ⟨#[]⟩ [] [] pos)) HS.out (lfP 3 c2 tr ⟨vk, vn, vs⟩ ⟨#[]⟩ pos) rfl (lf_leaf _ _ _ _ _ _) R7.out (Nat.le_refl _) hg
    exact bodyPost_ret (results_pm rfl _ _ w.heap.size _ rfl hs) rfl hp
end Go.Proofs.YtppigamibgefaaaGreatDoor
namespace Go.Proofs.YtppigamibgefaaaGreatDoor
open Go.RowKit

theorem rw_one {S : Nat → Prop} {w : World} {g : Nat} {uk un : Int} {us : ByteArray} {T : TypeId} (h : w.heap[g]? = some (.cells #[.int .i64 uk, .int .i64 un, .string us] T (0, 0))) (hS : S g) (hs : us.size ≤ maxLen) : RwS S w (some ⟨g, 0, Option.none⟩) [⟨uk, un, us⟩] := by
  obtain ⟨⟨x0, x1, x2⟩, _, _, _⟩ := three_of h
  refine ⟨by simp, by simpa using hs, .inr ⟨g, 0, rfl, hS, (Array.getElem?_eq_some_iff.1 h).1, fun i hi => ?_⟩⟩
  obtain rfl : i = 0 := by simpa using hi
  exact ⟨x0, x1, x2⟩
def cnP (g r : Nat) (v u : Vl) (pos : Nat) : Pm := .mk 11 ⟨#[]⟩ r v ⟨#[]⟩ (some ⟨g, 0, Option.none⟩) 1 [u] Option.none 0 [] pos
theorem cn10 {w : World} {g a r pos : Nat} {vs : ByteArray} {vk vn : Int} {u : Vl} {T : TypeId} (h : w.heap[g]? = some (.cells #[.int .i64 11, .string ⟨#[]⟩, .int .i64 (r : Int), .int .i64 vk, .int .i64 vn, .string vs, .string ⟨#[]⟩, .slice (some ⟨a, 0, Option.none⟩) 1 1, .slice Option.none 0 0, .int .i64 (pos : Int)] T (0, 0))) : w.heap[g]? = some (.cells (cnP a r ⟨vk, vn, vs⟩ u pos).c.toArray T (0, 0)) := by
  simpa [cnP, Pm.c] using h
set_option maxRecDepth 100000 in
set_option maxHeartbeats 3200000 in
theorem pofl_truth (R b deep : Nat) (s s1 : RS) (v : Vl) (pos : Nat) (w : World) (h : RdA R b deep s w) (hl : s.literal = (s1, v)) (s2 : RS) (hr0 : s1.rel = (s2, 0)) :
    Calls Tryz.prog 180 #[.pointer (some ⟨R, 0, none⟩), .int .i64 pos] w (PrGo R b deep (truthP v pos s2) w) := by
  have HS := Lib.hid h
  have HL := Lib.hid (fun W (hW : w.grownBy W none) => plit_any R b deep s W (h.keep hW))
  rw [hl] at HL
  obtain ⟨vk, vn, vs⟩ := v
  simp only [vCT] at HL
  have HRl := Lib.hid (fun W (hW : RdA R b deep s1 W) => prel_any R b deep s1 W hW)
  rw [hr0] at HRl
  simp only at HRl
  rw [show ((0 : Nat) : Int) = 0 from rfl] at HRl
  have HTr := Lib.hid (fun W (hW : RdA R b deep s2 W) => ptruth_any R b deep s2 ⟨vk, vn, vs⟩ pos W hW)
  simp only at HTr
  have hR := h.lt'
  clear h hl hr0
  go_enter Tryz.func180, Tryz.ntmps180
  have GA := Lib.hid (World.grownBy_alloc w (.cells z10 31) none)
  have GA1 := Lib.hid (heap_alloc_new w (.cells z10 31))
  go_wp2_with fail
  refine (HL.out _ GA.out).mono ?_
  rintro e w2 ⟨rfl, hr⟩
  have hlt := (Array.getElem?_eq_some_iff.1 GA1.out).1
  have a2 := hr.blk GA1.out (by omega)
  have R2 := Lib.hid (show RdGo R b deep s1 w w2 from ⟨hr.1, GA.out.trans' hr.2⟩)
  have lw : w.heap.size < w2.heap.size := (Array.getElem?_eq_some_iff.1 a2).1
  have lR : R < w2.heap.size := Nat.lt_of_lt_of_le hR (Nat.le_of_lt lw)
  have R3 := Lib.hid (R2.out.keep (World.grownBy_alloc w2 (.cells #[.int .i64 vk, .int .i64 vn, .string vs] 27) none))
  have A3 := Lib.hid (blk_grown (World.grownBy_alloc w2 (.cells #[.int .i64 vk, .int .i64 vn, .string vs] 27) none) a2)
  have B3 := Lib.hid (heap_alloc_new w2 (.cells #[.int .i64 vk, .int .i64 vn, .string vs] 27))
  clear hr hlt a2
  go_wp2_with fail
  refine (HRl.out _ R3.out.1).mono ?_
  rintro e w4 ⟨rfl, hr⟩
  have A4 := Lib.hid (hr.blk A3.out (by omega))
  have B4 := Lib.hid (hr.blk B3.out (by omega))
  have R4 := Lib.hid (R3.out.then hr)
  clear hr
  obtain ⟨⟨x0, x1, x2⟩, _, _, _⟩ := three_of (show w4.heap[w2.heap.size]? = some (.cells #[.int .i64 vk, .int .i64 vn, .string vs] 27 (0, 0)) from B4.out)
  go_wp2_with fail
  refine (HTr.out _ R4.out.1).mono ?_
  rintro e w8 ⟨x, rfl, hx, hxS, hr⟩
  have A8 := Lib.hid (hr.blk A4.out (by omega))
  have R8 := Lib.hid (R4.out.then hr)
  have lx : w.heap.size < w4.heap.size := (Array.getElem?_eq_some_iff.1 A4.out).1
  have HX := Lib.hid (And.intro hx hxS)
  have lz : w4.heap.size ≤ w8.heap.size := hr.2.size
  clear hr hx hxS
  go_wp2_with (refine wpList_store_row rfl 31 (.tmp 4) (.tmp 19) rfl w.heap.size (x).c.toArray rfl rfl 31 z10 A8.out (by rw [Pm.c_size]; exact pred_size) (by rw [Pm.c_size]; rfl) (Pm.c_all _) ?_)
  obtain ⟨hp, hb⟩ := PrGo.ret (r := (truthP ⟨vk, vn, vs⟩ pos s2)) HS.out (x) HX.out.1 (HX.out.2.mono (fun j _ hj => ⟨Nat.le_of_lt (Nat.lt_of_lt_of_le lx hj), fun e => by omega⟩)) R8.out (Nat.le_refl _) A8.out
  exact bodyPost_ret (results_pm rfl _ _ w.heap.size _ rfl hb) rfl hp
set_option maxRecDepth 100000 in
set_option maxHeartbeats 6400000 in
theorem pofl_const (R b deep : Nat) (s s1 : RS) (v : Vl) (pos : Nat) (w : World) (h : RdA R b deep s w) (hl : s.literal = (s1, v)) (s2 : RS) (rv : Nat) (hr0 : s1.rel = (s2, rv)) (hrv : rv ≠ 0) (hnm : s2.named = false) (s3 : RS) (u : Vl) (h3 : s2.literal = (s3, u)) :
    Calls Tryz.prog 180 #[.pointer (some ⟨R, 0, none⟩), .int .i64 pos] w (PrGo R b deep (s3, .mk 11 ⟨#[]⟩ rv v ⟨#[]⟩ [u] [] pos) w) := by
  have HS := Lib.hid h
  have HL := Lib.hid (fun W (hW : w.grownBy W none) => plit_any R b deep s W (h.keep hW))
  rw [hl] at HL
  obtain ⟨vk, vn, vs⟩ := v
  simp only [vCT] at HL
  have HRl := Lib.hid (fun W (hW : RdA R b deep s1 W) => prel_any R b deep s1 W hW)
  rw [hr0] at HRl
  simp only at HRl
  have HNm := Lib.hid (fun W (hW : RdA R b deep s2 W) => pnamed_any R b deep s2 W hW)
  rw [hnm] at HNm
  have HN2 := Lib.hid (fun W (hW : RdA R b deep s2 W) => plit_any R b deep s2 W hW)
  rw [h3] at HN2
  have hus := lit_size s2
  rw [h3] at hus
  obtain ⟨uk, un, us⟩ := u
  simp only [vCT] at HN2
  simp only at hus
  have hR := h.lt'
  have hrb : ((rv : Int) == 0) = false := by rw [beq_eq_false_iff_ne]; omega
  clear h hl hr0 hrv hnm h3
  go_enter Tryz.func180, Tryz.ntmps180
  have GA := Lib.hid (World.grownBy_alloc w (.cells z10 31) none)
  have GA1 := Lib.hid (heap_alloc_new w (.cells z10 31))
  go_wp2_with fail
  refine (HL.out _ GA.out).mono ?_
  rintro e w2 ⟨rfl, hr⟩
  have hlt := (Array.getElem?_eq_some_iff.1 GA1.out).1
  have a2 := hr.blk GA1.out (by omega)
  have R2 := Lib.hid (show RdGo R b deep s1 w w2 from ⟨hr.1, GA.out.trans' hr.2⟩)
  have lw : w.heap.size < w2.heap.size := (Array.getElem?_eq_some_iff.1 a2).1
  have lR : R < w2.heap.size := Nat.lt_of_lt_of_le hR (Nat.le_of_lt lw)
  have R3 := Lib.hid (R2.out.keep (World.grownBy_alloc w2 (.cells #[.int .i64 vk, .int .i64 vn, .string vs] 27) none))
  have A3 := Lib.hid (blk_grown (World.grownBy_alloc w2 (.cells #[.int .i64 vk, .int .i64 vn, .string vs] 27) none) a2)
  have B3 := Lib.hid (heap_alloc_new w2 (.cells #[.int .i64 vk, .int .i64 vn, .string vs] 27))
  clear hr hlt a2
  go_wp2_with fail
  refine (HRl.out _ R3.out.1).mono ?_
  rintro e w4 ⟨rfl, hr⟩
  have A4 := Lib.hid (hr.blk A3.out (by omega))
  have B4 := Lib.hid (hr.blk B3.out (by omega))
  have R4 := Lib.hid (R3.out.then hr)
  clear hr
  go_wp2_with fail
  refine (HNm.out _ R4.out.1).mono ?_
  rintro e w6 ⟨rfl, hg⟩
  have A6 := Lib.hid (blk_grown hg A4.out)
  have B6 := Lib.hid (blk_grown hg B4.out)
  have R6 := Lib.hid (R4.out.keep hg)
  have RA := Lib.hid (R6.out.1.keep (grown_drewT (grown_reflT w6 none)))
  obtain ⟨⟨x0, x1, x2⟩, _, _, _⟩ := three_of (show w6.drew.heap[w2.heap.size]? = some (.cells #[.int .i64 vk, .int .i64 vn, .string vs] 27 (0, 0)) from B6.out)
  clear hg
  go_wp2_with fail
  go_region_law (go_simp; go_at_call 193; (with_reducible refine (HN2.out w6.drew RA.out).mono ?_); rintro e w7 ⟨rfl, hr⟩; have A7 := Lib.hid (hr.blk A6.out (by omega)); have R7 := Lib.hid ((R6.out.keep (grown_drewT (grown_reflT w6 none))).then hr); obtain ⟨⟨y0, y1, y2⟩, _, _, _⟩ := three_of (hr.blk B6.out (by omega)); have l7 : w2.heap.size < w7.heap.size := (Array.getElem?_eq_some_iff.1 (hr.blk B6.out (by omega))).1; have A8 := Lib.hid (blk_grown (World.grownBy_alloc w7 (.cells #[.int .i64 uk, .int .i64 un, .string us] 27) none) A7.out); obtain ⟨⟨z0, z1, z2⟩, _, _, _⟩ := three_of (blk_grown (World.grownBy_alloc w7 (.cells #[.int .i64 uk, .int .i64 un, .string us] 27) none) (hr.blk B6.out (by omega))); obtain ⟨⟨p0, p1, p2, p3, p4⟩, p5, p6, p7, p8, p9⟩ := ten_of (show (w7.alloc (.cells #[.int .i64 uk, .int .i64 un, .string us] 27)).heap[w.heap.size]? = some (.cells #[.int .i64 0, .string ⟨#[]⟩, .int .i64 0, .int .i64 0, .int .i64 0, .string ⟨#[]⟩, .string ⟨#[]⟩, .slice Option.none 0 0, .slice Option.none 0 0, .int .i64 0] 31 (0, 0)) from A8.out); obtain ⟨⟨q0, q1, q2, q3, q4⟩, q5, q6, q7, q8, q9⟩ := ten_f A8.out; clear hr)
  all_goals
    go_wp2_with fail
    have hs0 := set10 A8.out (v0 := .int .i64 11) (v1 := .string ⟨#[]⟩) (v2 := .int .i64 (rv : Int)) (v3 := .int .i64 vk) (v4 := .int .i64 vn) (v5 := .string vs) (v6 := .string ⟨#[]⟩) (v7 := .slice (some ⟨w7.heap.size, 0, Option.none⟩) 1 1) (v8 := .slice Option.none 0 0) (v9 := .int .i64 (pos : Int))
    have hs := cn10 (u := ⟨uk, un, us⟩) hs0
    have hg := grown10 (w7.alloc (.cells #[.int .i64 uk, .int .i64 un, .string us] 27)) w.heap.size (.int .i64 11) (.string ⟨#[]⟩) (.int .i64 (rv : Int)) (.int .i64 vk) (.int .i64 vn) (.string vs) (.string ⟨#[]⟩) (.slice (some ⟨w7.heap.size, 0, Option.none⟩) 1 1) (.slice Option.none 0 0) (.int .i64 (pos : Int))
    have hv := blk_row hg (heap_alloc_new w7 _) (by omega)
    have hp := PrGo.retG (r := (s3, .mk 11 ⟨#[]⟩ rv ⟨vk, vn, vs⟩ ⟨#[]⟩ [⟨uk, un, us⟩] [] pos)) HS.out (cnP w7.heap.size rv ⟨vk, vn, vs⟩ ⟨uk, un, us⟩ pos) rfl ⟨rw_one hv (by omega) (Nat.le_trans hus (by decide)), Nat.le_refl _, .inl rfl, Nat.le_refl _, trivial⟩ (R7.out.keep (World.grownBy_alloc w7 (.cells #[.int .i64 uk, .int .i64 un, .string us] 27) none)) (Nat.le_refl _) hg
    exact bodyPost_ret (results_pm rfl _ _ w.heap.size _ rfl hs) rfl hp
theorem pofliteral_any (R b deep : Nat) (s : RS) (pos : Nat) (w : World) (h : RdA R b deep s w) :
    Calls Tryz.prog 180 #[.pointer (some ⟨R, 0, none⟩), .int .i64 pos] w (PrGo R b deep (litP pos s) w) := by
  obtain ⟨⟨s1, v⟩, hl⟩ : ∃ y, s.literal = y := ⟨_, rfl⟩
  obtain ⟨⟨s2, rv⟩, hr⟩ : ∃ y, s1.rel = y := ⟨_, rfl⟩
  unfold litP
  rw [hl]
  dsimp only
  rw [hr]
  dsimp only
  by_cases h0 : rv = 0
  · subst h0
    rw [if_pos rfl]
    exact pofl_truth R b deep s s1 v pos w h hl s2 hr
  · rw [if_neg h0]
    cases hm : s2.named with
    | true =>
      rw [if_pos rfl]
      exact pofl_cmp R b deep s s1 v pos w h hl s2 rv hr h0 hm _ _ rfl
    | false =>
      rw [if_neg (by simp)]
      exact pofl_const R b deep s s1 v pos w h hl s2 rv hr h0 hm _ _ rfl
end Go.Proofs.YtppigamibgefaaaGreatDoor
namespace Go.Proofs.YtppigamibgefaaaGreatDoor
open Go.RowKit

/-- The parts read so far: in a window of their own. -/
structure Prt (R b deep : Nat) (w wr : World) (st : RS) (acc : List Pm) (a : Ptr) (cap : Nat) : Prop where
  go : RdGo R b deep st w wr
  res : wr.heap[w.heap.size]? = some (.cells z10 31 (0, 0))
  win : Win 10 wr a cap acc.length (acc.flatMap Pm.c)
  low : ∀ k, bk a k → w.heap.size < k
  kids : PmSs (fun j => w.heap.size < j ∧ ¬ bk a j) wr acc
  one : ∀ x, acc = [x] → ∃ g, a = some ⟨g, 0, Option.none⟩ ∧ w.heap.size < g ∧ wr.heap[g]? = some (.cells x.c.toArray 31 (0, 0))
  few : acc.length + st.rest.length ≤ 270
  ne : acc ≠ []
theorem PmSs.mono' {S S' : Nat → Prop} {w : World} {l : List Pm} (h : PmSs S w l) (hs : ∀ b, b < w.heap.size → S b → S' b) : PmSs S' w l :=
  (PmSs_iff l).2 fun x hx => ((PmSs_iff l).1 h x hx).mono hs
theorem win_block {W : World} {g : Nat} {x : Pm} {T : TypeId} (h : W.heap[g]? = some (.cells x.c.toArray T (0, 0))) : Win 10 W (some ⟨g, 0, Option.none⟩) 1 1 x.c :=
  ⟨Pm.c_len x, Nat.le_refl _, by decide, fun k hk => by
    rw [bk_some] at hk; subst hk; exact (Array.getElem?_eq_some_iff.1 h).1, .inr ⟨g, 0, rfl, fun j u hj => by
      rw [Nat.zero_add, cell_of_row _ _ j _ _ _ h]; simpa using hj, fun j hj => by
      rw [Nat.zero_add, cell_of_row _ _ j _ _ _ h]
      have : j < x.c.length := by rw [Pm.c_len]; omega
      simp [this], fun o => frozen_of_row _ _ o _ _ h⟩⟩
theorem Prt.then {R b deep : Nat} {w wr w2 : World} {st st2 : RS} {acc : List Pm} {a : Ptr} {cap : Nat} (h : Prt R b deep w wr st acc a cap) (hR : R < w.heap.size) (hg : RdGo R b deep st2 wr w2) (hl : st2.rest.length ≤ st.rest.length) : Prt R b deep w w2 st2 acc a cap where
  go := h.go.then hg
  res := (hg.2.block _ (Array.getElem?_eq_some_iff.1 h.res).1 (by simp; omega)).trans h.res
  win := h.win.keep (Only.of_grown hg.2) (fun k hk e => by cases e; have := h.low R hk; omega)
  low := h.low
  kids := h.kids.keep ⟨hg.2.size, fun k hk hlt => hg.2.block k hlt (by simp; omega)⟩
  one := fun x hx => by
    obtain ⟨g, e, hlt, hb⟩ := h.one x hx
    exact ⟨g, e, hlt, (hg.2.block _ (Array.getElem?_eq_some_iff.1 hb).1 (by simp; omega)).trans hb⟩
  few := by have := h.few; omega
  ne := h.ne
theorem Prt.begin {R b deep : Nat} {w W w2 : World} {st : RS} {x : Pm} (hR : R < w.heap.size) (hg : w.grownBy W none) (res : W.heap[w.heap.size]? = some (.cells z10 31 (0, 0))) (h2 : RdGo R b deep st W w2) (hx : PmS (fun j => W.heap.size ≤ j) w2 x) :
    Prt R b deep w (w2.alloc (.cells x.c.toArray 31)) st [x] (some ⟨w2.heap.size, 0, Option.none⟩) 1 := by
  have lt := (Array.getElem?_eq_some_iff.1 res).1
  have l2 := h2.2.size
  have hga := World.grownBy_alloc w2 (.cells x.c.toArray 31) none
  have hb := heap_alloc_new w2 (.cells x.c.toArray 31)
  exact ⟨RdGo.keep ⟨h2.1, hg.trans' h2.2⟩ hga, (hga.block _ (by omega) (by simp)).trans ((h2.2.block _ lt (by simp; omega)).trans res), by
    have := win_block hb
    simpa [flat_one] using this, fun k hk => by rw [bk_some] at hk; omega, ⟨(hx.mono (S' := fun j => w.heap.size < j ∧ ¬ bk (some ⟨w2.heap.size, 0, Option.none⟩) j) (fun k hk h => ⟨by omega, fun e => by rw [bk_some] at e; omega⟩)).keep ⟨hga.size, fun k _ hlt => hga.block k hlt (by simp)⟩, trivial⟩, fun y hy => by
    cases hy; exact ⟨_, rfl, by omega, hb⟩, by have := h2.1.few; simp; omega, by simp⟩
theorem Prt.more {R b deep : Nat} {w wr w3 w5 : World} {s0 st st3 : RS} {acc : List Pm} {a a' : Ptr} {cap cap' : Nat} {x : Pm} (hR : R < w.heap.size) (h0 : RdA R b deep s0 w) (h : Prt R b deep w wr st acc a cap) (hg : RdGo R b deep st3 wr w3) (hx : PmS (fun j => wr.heap.size ≤ j) w3 x) (hl : st3.rest.length ≤ st.rest.length) (hf : acc.length + 1 + st3.rest.length ≤ 270)
    (hw : Win 10 w5 a' cap' (acc.length + 1) (acc.flatMap Pm.c ++ x.c)) (ho : Only (bk a) (w3.alloc (.cells x.c.toArray 31)) w5) (hb : ∀ k, bk a' k → bk a k ∨ (w3.alloc (.cells x.c.toArray 31)).heap.size ≤ k) :
    Prt R b deep w w5 st3 (acc ++ [x]) a' cap' := by
  have hga := World.grownBy_alloc w3 (.cells x.c.toArray 31) none
  have h3 := h.then hR hg hl
  have l0 := h.go.2.size
  have l3 := hg.2.size
  have l4 := hga.size
  have lo := ho.size
  have far : 12 < w.heap.size := by
    obtain ⟨tp, p, hf⟩ := h0.far
    by_cases hh : 12 < w.heap.size
    · exact hh
    · rw [World.cell?] at hf
      simp [Array.getElem?_eq_none (by omega : w.heap.size ≤ 12)] at hf
  have hbb := h0.lt
  have low' : ∀ k, bk a' k → w.heap.size < k := fun k hk => by
    rcases hb k hk with e | e
    · exact h.low k e
    · have := (Array.getElem?_eq_some_iff.1 h.res).1; omega
  have lr := (Array.getElem?_eq_some_iff.1 h.res).1
  refine ⟨⟨(h3.go.1.keep hga).only ho (fun e => by have := h.low _ e; omega) (fun e => by have := h.low _ e; omega) (fun e => by have := h.low _ e; omega), ?_⟩, ?_, ?_, low', ?_, ?_, ?_, by simp⟩
  · have g3 := h3.go.2
    exact ⟨ho.os.trans (hga.os.trans g3.os), ho.tape.trans (hga.tape.trans g3.tape), ho.output.trans (hga.output.trans g3.output), by omega, fun k hk hne => (ho.block k (by omega) (fun e => by have := h.low _ e; omega)).trans ((hga.block k (by omega) (by simp)).trans (g3.block k hk hne))⟩
  · exact (ho.block _ (by omega) (fun e => by have := h.low _ e; omega)).trans ((hga.block _ (by omega) (by simp)).trans h3.res)
  · simpa using hw
  · rw [PmSs_iff]
    intro y hy
    rcases List.mem_append.1 hy with hy | hy
    · have h1 := (PmSs_iff _).1 h3.kids y hy
      have h2 : PmS (fun j => (w.heap.size < j ∧ ¬ bk a j) ∧ ¬ bk a' j) w3 y := h1.mono (fun k hk hh => ⟨hh, fun e => by
        rcases hb k e with e | e
        · exact hh.2 e
        · omega⟩)
      exact (h2.keep ⟨by omega, fun k hk hlt => (ho.block k (by omega) hk.1.2).trans (hga.block k hlt (by simp))⟩).mono (fun k _ hk => ⟨hk.1.1, hk.2⟩)
    · obtain rfl : y = x := by simpa using hy
      have h2 : PmS (fun j => (w.heap.size < j ∧ ¬ bk a j) ∧ ¬ bk a' j) w3 y := hx.mono (fun k hk hh => ⟨⟨by omega, fun e => by have := h.win.lt k e; omega⟩, fun e => by
        rcases hb k e with e | e
        · have := h.win.lt k e; omega
        · omega⟩)
      exact (h2.keep ⟨by omega, fun k hk hlt => (ho.block k (by omega) hk.1.2).trans (hga.block k hlt (by simp))⟩).mono (fun k _ hk => ⟨hk.1.1, hk.2⟩)
  · intro y hy
    exfalso
    have := congrArg List.length hy
    simp at this
    exact h.ne this
  · simp
    omega
/-- Which parts follow does not hang on the fuel, where there is enough. -/
theorem partsF_fuel (word : ByteArray) (hw : word ≠ ⟨#[]⟩) (pf : RS → RS × Prd) (hn : ∀ s : RS, s.ok → s.next (pf s).1) : ∀ (f : Nat) (s : RS) (acc : List Prd), s.ok → s.rest.length ≤ f → partsF word pf f s acc = partsF word pf s.rest.length s acc := by
  intro f
  induction f using Nat.strongRecOn with
  | ind f ih =>
    intro s acc hs hf
    have hp := hs.pos
    obtain ⟨m, hm⟩ : ∃ m, s.rest.length = m + 1 := ⟨s.rest.length - 1, by omega⟩
    obtain ⟨f', rfl⟩ : ∃ f', f = f' + 1 := ⟨f - 1, by omega⟩
    rw [hm]
    unfold partsF
    cases hc : s.comes word with
    | false => rfl
    | true =>
      simp only [if_true]
      have h1 := hs.pass (RS.more_of hw hc)
      have h2 := hn _ h1.1
      have h3 := h2.2
      rw [ih f' (by omega) _ _ h2.1 (by omega)]
      by_cases he : m = f' + 1
      · omega
      · rw [← ih m (by omega) _ _ h2.1 (by omega)]
theorem partsF_step (word : ByteArray) (hw : word ≠ ⟨#[]⟩) (pf : RS → RS × Prd) (hn : ∀ s : RS, s.ok → s.next (pf s).1) (s : RS) (acc : List Prd) (hs : s.ok) (hc : s.comes word = true) : partsF word pf s.rest.length s acc = partsF word pf (pf s.pass).1.rest.length (pf s.pass).1 (acc ++ [(pf s.pass).2]) := by
  have h1 := hs.pass (RS.more_of hw hc)
  have h2 := hn _ h1.1
  have h3 := h2.2
  have hp := hs.pos
  obtain ⟨m, hm⟩ : ∃ m, s.rest.length = m + 1 := ⟨s.rest.length - 1, by omega⟩
  rw [hm, partsF, if_pos hc]
  exact partsF_fuel word hw pf hn m _ _ h2.1 (by omega)
theorem partsF_end (word : ByteArray) (pf : RS → RS × Prd) (s : RS) (acc : List Prd) (hc : s.comes word = false) : partsF word pf s.rest.length s acc = (s, acc) := by
  cases s.rest.length with
  | zero => rfl
  | succ m => rw [partsF, if_neg (by simp [hc])]
theorem Prt.cellsS {R b deep : Nat} {w wr : World} {st : RS} {acc : List Pm} {a : Ptr} {cap : Nat} (h : Prt R b deep w wr st acc a cap) : CellsS (fun j => w.heap.size < j) wr a (acc.flatMap Pm.c) := by
  rcases h.win.mem with e | ⟨g, off, e, hc, _, _⟩
  · have := h.win.le
    have := List.length_pos_iff.2 h.ne
    omega
  · subst e
    exact .inr ⟨g, off, rfl, h.low g rfl, h.win.lt g rfl, hc⟩
end Go.Proofs.YtppigamibgefaaaGreatDoor
