import Derived.Test.YtfambadamebjjaaZs43
import Derived.Test.YtfambadamebjjaaZs19
import Derived.ChangeMaps
set_option linter.unusedSimpArgs false
set_option linter.unusedVariables false
namespace Go.Proofs.Ytfambadamebjjaa
open Go.RowKit
set_option linter.unusedVariables false
set_option linter.unusedSimpArgs false
theorem catC_ok : ∀ c ∈ catC, c.n ≠ bE ∧ c.n.size ≤ maxLen := (names_of (l := []) (cat_right none)).1
theorem catC_n : ∀ c ∈ catC, c.n.size ≤ maxLen := fun c hc => (catC_ok c hc).2
theorem rowV_fine (a : Int) (d : Vv) (h : (vlV d).fine) : ∀ v ∈ rowV a d, (vlV v).fine := by
 intro v hv
 unfold rowV at hv
 simp only [List.mem_cons, List.not_mem_nil, or_false] at hv
 rcases hv with rfl | rfl | rfl | rfl
 ·exact fine_i a
 ·exact ⟨by decide +kernel, by decide⟩
 ·exact fine_z
 ·exact h
theorem aw_trA : trP catC (rowV 2 ⟨0, 0, ⟨#[]⟩⟩) condA = 2 := by decide +kernel
theorem aw_trB : trP catC (rowV 2 ⟨0, 0, ⟨#[]⟩⟩) condB = 2 := by decide +kernel
theorem WHawA (w : World) : Calls Try.prog 16 #[.string ⟨#[97, 32, 73, 78, 32, 40, 49, 44, 32, 78, 85, 76, 76, 41]⟩] w (LWIs awA w) := lawWhere_any awA w (by decide +kernel)
theorem WHawB (w : World) : Calls Try.prog 16 #[.string ⟨#[78, 79, 84, 32, 97, 32, 73, 78, 32, 40, 49, 44, 32, 78, 85, 76, 76, 41]⟩] w (LWIs awB w) := lawWhere_any awB w (by decide +kernel)
set_option maxRecDepth 100000 in
set_option maxHeartbeats 6400000 in
theorem awake13_any (w : World) : Calls Try.prog 7 #[] w fun e w' => e = .returned (.bool true) ∧ w.grownBy w' none := by
 go_enter Try.func7, Try.ntmps7
 go_wp2_with fail
 refine (catalogC_any _).mono ?_
 rintro e w1 ⟨⟨a, b, rfl, hT⟩, hg⟩
 obtain ⟨gt, ot, rfl, _, d0, d1, d2⟩ := hT.at (i := 0) (by simp)
 have hC := hT.2.1 (catT a) (by simp)
 have HC := Lib.hid (show ColsAt w1.heap.size w1 a catC from hC)
 have G1 := Lib.hid hg
 have e0 : w1.cell? ⟨gt, ot, none⟩ = some (.string ⟨#[116]⟩) := by
  have h : w1.cell? ⟨gt, ot, none⟩ = some (.string (catT a).n) := by simpa using d0
  exact h
 have e1 : w1.cell? ⟨gt, ot + 1, none⟩ = some (.slice a 4 4) := by
  have h : w1.cell? ⟨gt, ot + 1, none⟩ = some (.slice (catT a).a (catT a).l.length (catT a).cap) := by simpa using d1
  exact h
 have e2 : w1.cell? ⟨gt, ot + 2, none⟩ = some (.int .i64 1) := by
  have h : w1.cell? ⟨gt, ot + 2, none⟩ = some (.int .i64 (catT a).k) := by simpa using d2
  exact h
 clear hT hg d0 d1 d2 hC
 go_upto_region 2 with fail
 clear e0 e1 e2
 change Code.wp _ _ _ _ (w1.alloc (.cells #[.string ⟨#[116]⟩, .slice a 4 4, .int .i64 1] 24))
 have T2 := Lib.hid (heap_alloc_new w1 (.cells #[.string ⟨#[116]⟩, .slice a 4 4, .int .i64 1] 24))
 have G2 := Lib.hid (World.grownBy_alloc w1 (.cells #[.string ⟨#[116]⟩, .slice a 4 4, .int .i64 1] 24) none)
 generalize w1.alloc (.cells #[.string ⟨#[116]⟩, .slice a 4 4, .int .i64 1] 24) = w2 at *
 obtain ⟨g1, hg1⟩ : ∃ g1, g1 = w1.heap.size := ⟨_, rfl⟩
 rw [← hg1] at T2 ⊢
 clear hg1
 go_wp2_with fail
 refine (WHawA w2).mono ?_
 rintro e w3 ⟨hg, x, bb, rfl, hb1, hb2⟩
 obtain rfl : bb = true := hb1 (fun a => able_awA a)
 obtain ⟨hp, hS, Q, hq, hr, he⟩ := hb2 rfl
 have Ox := Lib.hid (PrdOk.of catC_ok hp hq hr he)
 obtain rfl : Q = qryA := by have := hq.symm.trans parse_awA; injection this
 have Sx := Lib.hid hS
 have G3 := Lib.hid hg
 unfold Pm.v
 obtain ⟨cx, hcx⟩ : ∃ cx, cx = x.c.toArray := ⟨_, rfl⟩
 have cx_eq := Lib.hid hcx
 have cx_sz : cx.size = 10 := by rw [hcx]; exact x.c_size
 have cx_one : cx.all (·.oneCell') = true := by rw [hcx]; exact x.c_all
 rw [← hcx]
 clear hb1 hb2 hp hS hq hr he hg hcx
 have A1 := Lib.hid (heap_alloc_new w3 (.cells z10 34))
 go_upto_region 3 with (first
  | (refine wpList_store_row rfl 34 (.tmp 2) (.tmp 12) rfl w3.heap.size cx rfl rfl 34 z10 A1.out (by rw [cx_sz]; exact pred_size) (by rw [cx_sz]; rfl) cx_one ?_)
  | fail)
 change Code.wp _ _ _ _ ((w3.alloc (.cells z10 34)).setRow w3.heap.size cx)
 have G4 : Hid (w3.grownBy ((w3.alloc (.cells z10 34)).setRow w3.heap.size cx) none) := Lib.hid (grown_thenX (World.grownBy_alloc w3 _ none) (grown_setRow _ _ _) (fun j e => by cases e; exact Nat.le_refl _))
 have Bx : Hid (((w3.alloc (.cells z10 34)).setRow w3.heap.size cx).heap[w3.heap.size]? = some (.cells cx 34 (0, 0))) := Lib.hid (setRow_heap _ _ _ _ _ _ A1.out)
 generalize (w3.alloc (.cells z10 34)).setRow w3.heap.size cx = w4 at *
 obtain ⟨g2, hg2⟩ : ∃ g2, g2 = w3.heap.size := ⟨_, rfl⟩
 rw [← hg2] at Bx ⊢
 clear A1 hg2
 go_wp2_with fail
 refine (WHawB w4).mono ?_
 rintro e w5 ⟨hg, y, bb, rfl, hb1, hb2⟩
 obtain rfl : bb = true := hb1 (fun a => able_awB a)
 obtain ⟨hp, hS, Q, hq, hr, he⟩ := hb2 rfl
 have Oy := Lib.hid (PrdOk.of catC_ok hp hq hr he)
 obtain rfl : Q = qryB := by have := hq.symm.trans parse_awB; injection this
 have Sy := Lib.hid hS
 have G5 := Lib.hid hg
 unfold Pm.v
 obtain ⟨cy, hcx⟩ : ∃ cy, cy = y.c.toArray := ⟨_, rfl⟩
 have cy_eq := Lib.hid hcx
 have cy_sz : cy.size = 10 := by rw [hcx]; exact y.c_size
 have cy_one : cy.all (·.oneCell') = true := by rw [hcx]; exact y.c_all
 rw [← hcx]
 clear hb1 hb2 hp hS hq hr he hg hcx
 have A1 := Lib.hid (heap_alloc_new w5 (.cells z10 34))
 go_upto_region 4 with (first
  | (refine wpList_store_row rfl 34 (.tmp 4) (.tmp 16) rfl w5.heap.size cy rfl rfl 34 z10 A1.out (by rw [cy_sz]; exact pred_size) (by rw [cy_sz]; rfl) cy_one ?_)
  | fail)
 change Code.wp _ _ _ _ ((w5.alloc (.cells z10 34)).setRow w5.heap.size cy)
 have G6 : Hid (w5.grownBy ((w5.alloc (.cells z10 34)).setRow w5.heap.size cy) none) := Lib.hid (grown_thenX (World.grownBy_alloc w5 _ none) (grown_setRow _ _ _) (fun j e => by cases e; exact Nat.le_refl _))
 have By : Hid (((w5.alloc (.cells z10 34)).setRow w5.heap.size cy).heap[w5.heap.size]? = some (.cells cy 34 (0, 0))) := Lib.hid (setRow_heap _ _ _ _ _ _ A1.out)
 generalize (w5.alloc (.cells z10 34)).setRow w5.heap.size cy = w6 at *
 obtain ⟨g3, hg3⟩ : ∃ g3, g3 = w5.heap.size := ⟨_, rfl⟩
 rw [← hg3] at By ⊢
 clear A1 hg3
 go_wp2_with fail
 refine (lawRow_any 2 0 0 ⟨#[]⟩ w6).mono ?_
 rintro e w7 ⟨p, rfl, hV, hg⟩
 have G7 := Lib.hid hg
 have HV := Lib.hid hV
 clear hg hV
 obtain ⟨w8, hw8⟩ : ∃ w8, w8 = w7 := ⟨_, rfl⟩
 rw [← hw8] at G7 HV ⊢
 clear hw8
 have K34 := Lib.hid (G3.out.trans G4.out)
 have K56 := Lib.hid (G5.out.trans G6.out)
 have T8 := Lib.hid (blkD (K34.out.trans (K56.out.trans G7.out)) T2.out)
 have X8 := Lib.hid (blkD (K56.out.trans G7.out) Bx.out)
 have Y8 := Lib.hid (blkD G7.out By.out)
 have C8 := Lib.hid (HC.out.keep (G2.out.trans (K34.out.trans (K56.out.trans G7.out))) (by simp))
 have G8 := Lib.hid ((G1.out.trans G2.out).trans (K34.out.trans (K56.out.trans G7.out)))
 have L8 : Hid (w1.heap.size ≤ w8.heap.size) := Lib.hid (G2.out.trans (K34.out.trans (K56.out.trans G7.out))).size
 have PX := Lib.hid (Sx.out.keep (.of (G4.out.trans (K56.out.trans G7.out))))
 have PY := Lib.hid (Sy.out.keep (.of (G6.out.trans G7.out)))
 have HT : Hid (∀ W, w8.grownBy W none → Calls Try.prog 10 #[.agg #[.string ⟨#[116]⟩, .slice a 4 4, .int .i64 1], .agg cx, .slice p 4 4] W fun e w' => e = .returned (.int .i64 2) ∧ W.grownBy w' none) := Lib.hid (fun W hW => by
  have h := sTruth_any ⟨#[116]⟩ a 4 catC 1 _ x p 4 (rowV 2 ⟨0, 0, ⟨#[]⟩⟩) W ((C8.out.keep hW (by simp)).mono (Nat.le_trans L8.out hW.size)) catC_n (by decide) (PX.out.keep (.of hW)) (by have := Ox.out.n; omega) Ox.out.nod ((HV.out.keep hW (by simp)).mono1 hW.size) (rowV_fine _ _ fine_z) rfl
  rw [Ox.out.tr, show qryA.cond = condA from rfl, aw_trA] at h
  unfold Pm.v at h
  rw [← cx_eq.out] at h
  exact h)
 have HP : Hid (∀ W, w8.grownBy W none → Calls Try.prog 11 #[.agg #[.string ⟨#[116]⟩, .slice a 4 4, .int .i64 1], .agg cx, .slice p 4 4] W fun e w' => e = .returned (.bool false) ∧ W.grownBy w' none) := Lib.hid (fun W hW => by
  have h := sPasses_any ⟨#[116]⟩ a 4 catC 1 _ x p 4 (rowV 2 ⟨0, 0, ⟨#[]⟩⟩) W ((C8.out.keep hW (by simp)).mono (Nat.le_trans L8.out hW.size)) catC_n (by decide) (PX.out.keep (.of hW)) (by have := Ox.out.n; omega) Ox.out.nod ((HV.out.keep hW (by simp)).mono1 hW.size) (rowV_fine _ _ fine_z) rfl
  rw [Ox.out.tr, show qryA.cond = condA from rfl, aw_trA] at h
  unfold Pm.v at h
  rw [← cx_eq.out] at h
  exact h)
 have HQ : Hid (∀ W, w8.grownBy W none → Calls Try.prog 11 #[.agg #[.string ⟨#[116]⟩, .slice a 4 4, .int .i64 1], .agg cy, .slice p 4 4] W fun e w' => e = .returned (.bool false) ∧ W.grownBy w' none) := Lib.hid (fun W hW => by
  have h := sPasses_any ⟨#[116]⟩ a 4 catC 1 _ y p 4 (rowV 2 ⟨0, 0, ⟨#[]⟩⟩) W ((C8.out.keep hW (by simp)).mono (Nat.le_trans L8.out hW.size)) catC_n (by decide) (PY.out.keep (.of hW)) (by have := Oy.out.n; omega) Oy.out.nod ((HV.out.keep hW (by simp)).mono1 hW.size) (rowV_fine _ _ fine_z) rfl
  rw [Oy.out.tr, show qryB.cond = condB from rfl, aw_trB] at h
  unfold Pm.v at h
  rw [← cy_eq.out] at h
  exact h)
 clear K34 K56 T2 Bx By HC G1 G2 G3 G4 G5 G6 G7 L8 PX PY Ox Oy Sx Sy C8
 go_upto_region 5 with fail
 have Z8 := Lib.hid (grown_reflT w8 none)
 obtain ⟨⟨t0, t1, t2⟩, t3, t4, t5⟩ := boxD3 T8.out
 go_wp2_with (first
  | (refine wpList_load_rowGs (by rfl) 34 (.tmp 2) rfl g2 rfl 34 cx (0, 0) _ X8.out Try.underlying34 rfl (by rw [cx_sz]; exact pred_size) ?_)
  | fail)
 refine (HT.out _ Z8.out).mono ?_
 rintro e w9 ⟨rfl, hg⟩
 have Z9 := Lib.hid (Z8.out.trans hg)
 have T9 := Lib.hid (blkD hg T8.out)
 have X9 := Lib.hid (blkD hg X8.out)
 have Y9 := Lib.hid (blkD hg Y8.out)
 clear hg t0 t1 t2 t3 t4 t5
 obtain ⟨⟨t0, t1, t2⟩, t3, t4, t5⟩ := boxD3 T9.out
 go_wp2_with (first
  | (refine wpList_load_rowGs (by rfl) 34 (.tmp 2) rfl g2 rfl 34 cx (0, 0) _ X9.out Try.underlying34 rfl (by rw [cx_sz]; exact pred_size) ?_)
  | fail)
 refine (HP.out _ Z9.out).mono ?_
 rintro e w10 ⟨rfl, hg⟩
 have Z10 := Lib.hid (Z9.out.trans hg)
 have T10 := Lib.hid (blkD hg T9.out)
 have X10 := Lib.hid (blkD hg X9.out)
 have Y10 := Lib.hid (blkD hg Y9.out)
 clear hg t0 t1 t2 t3 t4 t5
 obtain ⟨⟨t0, t1, t2⟩, t3, t4, t5⟩ := boxD3 T10.out
 go_wp2_with (first
  | (refine wpList_load_rowGs (by rfl) 34 (.tmp 4) rfl g3 rfl 34 cy (0, 0) _ Y10.out Try.underlying34 rfl (by rw [cy_sz]; exact pred_size) ?_)
  | fail)
 refine (HQ.out _ Z10.out).mono ?_
 rintro e w11 ⟨rfl, hg⟩
 have Z11 := Lib.hid (Z10.out.trans hg)
 have T11 := Lib.hid (blkD hg T10.out)
 have X11 := Lib.hid (blkD hg X10.out)
 have Y11 := Lib.hid (blkD hg Y10.out)
 clear hg t0 t1 t2 t3 t4 t5
 have GE := Lib.hid (G8.out.trans Z11.out)
 go_wp2_with fail
 go_ret
 exact ⟨rfl, GE.out⟩
end Go.Proofs.Ytfambadamebjjaa
namespace Go.Proofs.Ytfambadamebjjaa
open Go.RowKit
theorem below_of {w w' : World} (h : w.grownBy w' none) : Below w.heap.size w w' := ⟨h.os, h.tape, h.output, h.size, fun i hi => h.block i hi (by simp)⟩
end Go.Proofs.Ytfambadamebjjaa
