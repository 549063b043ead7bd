/- Parse: a text's query, or the place and the number of what is wrong with it. The laws' where: the predicate of a text. Layer 11's fixed fact. -/
import Derived.Test.YtppigamibgefaaaGreatDoorZp29
import Derived.Test.YtppigamibgefaaaGreatDoorZp03
import Derived.Test.YtppigamibgefaaaGreatDoorZp05
import Derived.Test.YtppigamibgefaaaGreatDoorZp27
namespace Go.Proofs.YtppigamibgefaaaGreatDoor
open Go.RowKit

theorem pread_any (G : Nat) (n g m l : Addr) (s : ByteArray) (w : World) (hE : LxEnv G n g m l w) : Calls Tryz.prog 32 #[.string s] w (ReadIs s w) := by
  cases h : lexL s with
  | error e => exact pread_bad G n g m l s w hE e.1 e.2 h
  | ok t => exact pread_ok G n g m l s w hE t h
/-- What Parse answers. -/
def ParseIs (s : ByteArray) (w : World) (e : Ending) (w' : World) : Prop :=
  w.grownBy w' none ∧ ((∃ p c, parseL s = .error (p, c) ∧ e = .returned (.tuple #[.agg (Qm.z 0).c, .int .i64 p, .int .i64 c]))
  ∨ ∃ y : Qm, parseL s = .ok y.e ∧ e = .returned (.tuple #[.agg y.c, .int .i64 0, .int .i64 0]) ∧ QmS (fun j => w.heap.size ≤ j) w' y)
theorem errT_keep {G : Nat} {w w' : World} (h : ErrT G w) (hg : w.grownBy w' none) : ErrT G w' := ⟨h.1, hg.cell h.2 (by simp)⟩
theorem queryL_nil (s : ByteArray) : (∃ p c, parseL s = .error (p, c)) ∨ ∃ y, parseL s = .ok y := by
  cases h : parseL s with
  | error e => exact .inl ⟨e.1, e.2, rfl⟩
  | ok y => exact .inr ⟨y, rfl⟩
set_option maxRecDepth 100000 in
set_option maxHeartbeats 6400000 in
/-- Parse where the reader's answer bears no error. -/
theorem parse_ok (G : Nat) (n g m l : Addr) (s : ByteArray) (w : World) (hE : LxEnv G n g m l w) (y0 : Qry) (hy0 : parseL s = .ok y0) : Calls Tryz.prog 13 #[.string s] w (ParseIs s w) := by
  have HR := Lib.hid (fun W (hW : w.grownBy W none) => pread_any G n g m l s W (hE.keep hW))
  have HA := Lib.hid as_nil
  have HY := Lib.hid hy0
  clear hE hy0
  go_enter Tryz.func13, Tryz.ntmps13
  have GA := Lib.hid (World.grownBy_alloc w (.cells (Qm.z 0).c 34) none)
  go_wp2_with fail
  refine (HR.out _ GA.out).mono ?_
  rintro e w2 ⟨hg, h⟩
  have h : ∃ y : Qm, parseL s = .ok y.e ∧ e = .returned (.tuple #[.agg y.c, .nilIface]) ∧ QmS (fun j => (w.alloc (.cells (Qm.z 0).c 34)).heap.size ≤ j) w2 y := by
    rcases h with ⟨p, c, y, h1, _⟩ | h
    · rw [HY.out] at h1; cases h1
    · exact h
  obtain ⟨y, hp, rfl, hS⟩ := h
  have HP := Lib.hid hp
  have HS := Lib.hid hS
  have G2 := Lib.hid (GA.out.trans hg)
  have A2 := Lib.hid (blk_grown hg (heap_alloc_new w _))
  have l2 := hg.size
  have B5 := Lib.hid (heap_alloc_new w2 (.cells (Qm.z 0).c 34))
  clear hg hp hS HY
  go_wp2_with (refine wpList_store_row rfl 34 (.tmp 5) (.tmp 12) rfl w2.heap.size y.c rfl rfl 34 (Qm.z 0).c B5.out (by rw [Qm.c_size]; exact query_size) (by rw [Qm.c_size, Qm.c_size]) (Qm.c_all _) ?_)
  have gA := Lib.hid (World.grownBy_alloc w2 (.cells (Qm.z 0).c 34) none)
  have gS := Lib.hid (grown_setRow (w2.alloc (.cells (Qm.z 0).c 34)) w2.heap.size y.c)
  have B6 := Lib.hid (setRow_heap (w2.alloc (.cells (Qm.z 0).c 34)) w2.heap.size (Qm.z 0).c y.c _ _ B5.out)
  have s1 : (w.alloc (.cells (Qm.z 0).c 34)).heap.size = w.heap.size + 1 := by simp
  have A6 := Lib.hid (blk_row gS.out (blk_grown gA.out A2.out) (by omega))
  refine (HA.out _ _).mono ?_
  rintro e w7 ⟨rfl, rfl⟩
  go_upto_region 6 with fail
  obtain ⟨w7, hw7⟩ : ∃ w7, w7 = (((w2.alloc (.cells (Qm.z 0).c 34)).setRow w2.heap.size y.c).alloc (.cells #[.int .i64 0, .nilIface] 87)).alloc (.cells #[.int .i64 0] 88) := ⟨_, rfl⟩
  have gB := (World.grownBy_alloc ((w2.alloc (.cells (Qm.z 0).c 34)).setRow w2.heap.size y.c) (.cells #[.int .i64 0, .nilIface] 87) none).trans (World.grownBy_alloc _ (.cells #[.int .i64 0] 88) none)
  rw [← hw7] at gB
  have B7 := Lib.hid (blk_grown gB B6.out)
  have A7 := Lib.hid (blk_grown gB A6.out)
  have g2 : w2.grownBy ((w2.alloc (.cells (Qm.z 0).c 34)).setRow w2.heap.size y.c) none := grown_thenX gA.out gS.out (fun j e => by cases e; exact Nat.le_refl _)
  have g27 := Lib.hid (g2.trans gB)
  have g7 := Lib.hid (G2.out.trans g27.out)
  change Code.wp _ _ _ _ ((((w2.alloc (.cells (Qm.z 0).c 34)).setRow w2.heap.size y.c).alloc (.cells #[.int .i64 0, .nilIface] 87)).alloc (.cells #[.int .i64 0] 88))
  rw [← hw7]
  clear hw7 gB g2 gA gS B6 A6 B5
  go_wp2_with (first
    | (refine wpList_load_row rfl 34 (.tmp 5) rfl w2.heap.size rfl 34 y.c (0, 0) _ B7.out Tryz.underlying34 rfl (by rw [Qm.c_size]; exact query_size) ?_)
    | (refine wpList_store_row rfl 34 (.tmp 2) (.tmp 26) rfl w.heap.size y.c rfl rfl 34 (Qm.z 0).c A7.out (by rw [Qm.c_size]; exact query_size) (by rw [Qm.c_size, Qm.c_size]) (Qm.c_all _) ?_))
  have hS := grown_setRow w7 w.heap.size y.c
  refine bodyPost_ret (results_qm3 (p := 2) (u := 3) (v := 4) rfl _ _ w.heap.size y rfl (setRow_heap w7 w.heap.size (Qm.z 0).c y.c _ _ A7.out)) rfl ⟨grown_thenX g7.out hS (fun j e => by cases e; exact Nat.le_refl _), .inr ⟨y, HP.out, rfl, ?_⟩⟩
  have h1 := (HS.out.keep (.of g27.out)).keep (w' := w7.setRow w.heap.size y.c) ⟨hS.size, fun b hb hlt => hS.block b hlt (by simp; omega)⟩
  exact h1.mono (fun j _ hj => by omega)
def zl17 : List Value := [.slice Option.none 0 0, .bool false, .string ⟨#[]⟩, .int .i64 0, .string ⟨#[]⟩, .int .i64 0, .int .i64 0, .int .i64 0, .string ⟨#[]⟩, .string ⟨#[]⟩, .slice Option.none 0 0, .slice Option.none 0 0, .int .i64 0, .slice Option.none 0 0, .slice Option.none 0 0, .int .i64 0, .int .i64 0]
theorem zl17_c : zl17.toArray = (Qm.z 0).c := rfl
set_option maxRecDepth 100000 in
set_option maxHeartbeats 6400000 in
/-- Parse where a token is wrong. -/
theorem parse_bad (G : Nat) (n g m l : Addr) (s : ByteArray) (w : World) (hE : LxEnv G n g m l w) (p0 c0 : Nat) (hy0 : parseL s = .error (p0, c0)) : Calls Tryz.prog 13 #[.string s] w (ParseIs s w) := by
  have HR := Lib.hid (fun W (hW : w.grownBy W none) => pread_any G n g m l s W (hE.keep hW))
  have HF := Lib.hid ParF.as_hitF
  have HW := Lib.hid ParR.as_wrapR
  have HT := Lib.hid (And.intro hE.et hE.le)
  have HY := Lib.hid hy0
  clear hE hy0
  go_enter Tryz.func13, Tryz.ntmps13
  have GA := Lib.hid (World.grownBy_alloc w (.cells (Qm.z 0).c 34) none)
  go_wp2_with fail
  refine (HR.out _ GA.out).mono ?_
  rintro e w2 ⟨hg, h⟩
  have h : ∃ y : Qm, e = .returned (.tuple #[.agg y.c, .iface 87 (.agg #[.int .i64 p0, .iface 88 (.int .i64 c0)])]) := by
    rcases h with ⟨p, c, y, h1, h2⟩ | ⟨y, h1, _⟩
    · rw [HY.out] at h1; cases h1; exact ⟨y, h2⟩
    · rw [HY.out] at h1; cases h1
  obtain ⟨y, rfl⟩ := h
  have G2 := Lib.hid (GA.out.trans hg)
  have A2 := Lib.hid (blk_grown hg (heap_alloc_new w _))
  have l2 := hg.size
  have B5 := Lib.hid (heap_alloc_new w2 (.cells (Qm.z 0).c 34))
  clear hg
  go_wp2_with (refine wpList_store_row rfl 34 (.tmp 5) (.tmp 12) rfl w2.heap.size y.c rfl rfl 34 (Qm.z 0).c B5.out (by rw [Qm.c_size]; exact query_size) (by rw [Qm.c_size, Qm.c_size]) (Qm.c_all _) ?_)
  have gA := Lib.hid (World.grownBy_alloc w2 (.cells (Qm.z 0).c 34) none)
  have gS := Lib.hid (grown_setRow (w2.alloc (.cells (Qm.z 0).c 34)) w2.heap.size y.c)
  have s1 : (w.alloc (.cells (Qm.z 0).c 34)).heap.size = w.heap.size + 1 := by simp
  have A6 := Lib.hid (blk_row gS.out (blk_grown gA.out A2.out) (by omega))
  obtain ⟨w3, hw3⟩ : ∃ w3, w3 = (w2.alloc (.cells (Qm.z 0).c 34)).setRow w2.heap.size y.c := ⟨_, rfl⟩
  have s3 : w3.heap.size = w2.heap.size + 1 := by rw [hw3]; simp
  have g3 : w2.grownBy w3 none := by rw [hw3]; exact grown_thenX gA.out gS.out (fun j e => by cases e; exact Nat.le_refl _)
  obtain ⟨w7, hw7⟩ : ∃ w7, w7 = (w3.alloc (.cells #[.int .i64 0, .nilIface] 87)).alloc (.cells #[.int .i64 0] 88) := ⟨_, rfl⟩
  have gF := World.grownBy_alloc w3 (.cells #[.int .i64 0, .nilIface] 87) none
  have gR := World.grownBy_alloc (w3.alloc (.cells #[.int .i64 0, .nilIface] 87)) (.cells #[.int .i64 0] 88) none
  have F7 := blk_grown gR (heap_alloc_new w3 (.cells #[.int .i64 0, .nilIface] 87))
  have R7 := heap_alloc_new (w3.alloc (.cells #[.int .i64 0, .nilIface] 87)) (.cells #[.int .i64 0] 88)
  have sF : (w3.alloc (.cells #[.int .i64 0, .nilIface] 87)).heap.size = w2.heap.size + 1 + 1 := by simp [s3]
  rw [sF] at R7
  rw [s3] at F7
  have gB := gF.trans gR
  rw [← hw3] at A6
  rw [← hw7] at gB F7 R7
  have A7 := Lib.hid (blk_grown gB A6.out)
  have g7 := Lib.hid ((G2.out.trans g3).trans gB)
  have F7 := Lib.hid F7
  have R7 := Lib.hid R7
  have hw9 := hw7
  rw [hw3] at hw9
  change Calls _ _ _ ((((w2.alloc (.cells (Qm.z 0).c 34)).setRow w2.heap.size y.c).alloc (.cells #[.int .i64 0, .nilIface] 87)).alloc (.cells #[.int .i64 0] 88)) _
  rw [← hw9]
  clear hw3 hw7 hw9 gF gR gB g3 gA gS A6 A2 B5 sF
  refine (HF.out p0 88 (.int .i64 c0) (w2.heap.size + 1) G _ _ w7 (errT_keep HT.out.1 g7.out) (cell_of_row _ _ 0 _ _ _ F7.out) (cell_of_row _ _ 1 _ _ _ F7.out) (frozen_of_row _ _ 0 _ _ F7.out) (frozen_of_row _ _ 1 _ _ F7.out)).mono ?_
  rintro e w8 ⟨rfl, h8⟩
  obtain ⟨w4, hg4, hw8⟩ := h8
  have l7 := (Array.getElem?_eq_some_iff.1 R7.out).1
  have l4 := hg4.size
  have A8 : Hid (w8.heap[w.heap.size]? = some (.cells (Qm.z 0).c 34 (0, 0))) := Lib.hid (by
    rw [hw8]
    exact (heap_setCell_other _ _ _ _ (by simp; omega)).trans ((heap_setCell_other _ _ _ _ (by simp; omega)).trans (blk_grown hg4 A7.out)))
  have R8 : Hid (w8.heap[w2.heap.size + 1 + 1]? = some (.cells #[.int .i64 0] 88 (0, 0))) := Lib.hid (by
    rw [hw8]
    exact (heap_setCell_other _ _ _ _ (by simp)).trans ((heap_setCell_other _ _ _ _ (by simp)).trans (blk_grown hg4 R7.out)))
  have F8 : Hid (w8.heap[w2.heap.size + 1]? = some (.cells #[.int .i64 p0, .iface 88 (.int .i64 c0)] 87 (0, 0))) := Lib.hid (by
    rw [hw8]
    exact heap_setCell_same _ _ _ _ _ _ (heap_setCell_same _ _ _ _ _ _ (blk_grown hg4 F7.out)))
  have g8 : Hid (w.grownBy w8 none) := Lib.hid (by
    have h4 := g7.out.trans hg4
    rw [hw8]
    exact ⟨h4.os, h4.tape, h4.output, by simp; exact h4.size, fun k hk _ => (heap_setCell_other _ _ _ _ (by simp; omega)).trans ((heap_setCell_other _ _ _ _ (by simp; omega)).trans (h4.block k hk (by simp)))⟩)
  have l8 : w2.heap.size + 1 + 1 < w8.heap.size := (Array.getElem?_eq_some_iff.1 R8.out).1
  clear hg4 hw8 l4 A7 F7 R7 g7 HF HR h
  go_wp2_with fail
  refine (HW.out p0 c0 (w2.heap.size + 1 + 1) G _ w8 (errT_keep HT.out.1 g8.out) (cell_of_row _ _ 0 _ _ _ R8.out) (frozen_of_row _ _ 0 _ _ R8.out)).mono ?_
  rintro e w9 ⟨rfl, h9⟩
  obtain ⟨w4, hg4, hw9⟩ := h9
  have l4 := hg4.size
  have A9 : Hid (w9.heap[w.heap.size]? = some (.cells (Qm.z 0).c 34 (0, 0))) := Lib.hid (by
    rw [hw9]
    exact (heap_setCell_other _ _ _ _ (by simp; omega)).trans (blk_grown hg4 A8.out))
  have R9 : Hid (w9.heap[w2.heap.size + 1 + 1]? = some (.cells #[.int .i64 c0] 88 (0, 0))) := Lib.hid (by
    rw [hw9]
    exact heap_setCell_same _ _ _ _ _ _ (blk_grown hg4 R8.out))
  have F9 : Hid (w9.heap[w2.heap.size + 1]? = some (.cells #[.int .i64 p0, .iface 88 (.int .i64 c0)] 87 (0, 0))) := Lib.hid (by
    rw [hw9]
    exact (heap_setCell_other _ _ _ _ (by simp)).trans (blk_grown hg4 F8.out))
  have g9 : Hid (w.grownBy w9 none) := Lib.hid (by
    have h4 := g8.out.trans hg4
    rw [hw9]
    exact ⟨h4.os, h4.tape, h4.output, by simp; exact h4.size, fun k hk _ => (heap_setCell_other _ _ _ _ (by simp; omega)).trans (h4.block k hk (by simp))⟩)
  clear hg4 hw9 l4 A8 F8 R8 g8 HW HT
  have hbl : (w9.drew.setCells w.heap.size 0 zl17).heap[w.heap.size]? = some (.cells (Qm.z 0).c 34 (0, 0)) := by
    rw [heap_setCells zl17 0 w9.drew _ A9.out]; rfl
  have hgs := grown_setCells w.heap.size zl17 0 w9.drew
  have HF1 : Hid (w.grownBy (w9.drew.setCells w.heap.size 0 zl17) none) := Lib.hid (grown_thenX (grown_drewT g9.out) hgs (fun j e => by cases e; exact Nat.le_refl _))
  have HB := Lib.hid hbl
  clear hbl hgs g9
  have t0 : w9.cell? ⟨w2.heap.size + 1, 0, none⟩ = some (.int .i64 p0) := cell_of_row _ _ 0 _ _ _ F9.out
  have t1 : w9.cell? ⟨w2.heap.size + 1 + 1, 0, none⟩ = some (.int .i64 c0) := cell_of_row _ _ 0 _ _ _ R9.out
  have t0' : w9.drew.cell? ⟨w2.heap.size + 1, 0, none⟩ = some (.int .i64 p0) := t0
  have t1' : w9.drew.cell? ⟨w2.heap.size + 1 + 1, 0, none⟩ = some (.int .i64 c0) := t1
  have n1 : w2.heap.size + 1 ≠ w.heap.size := by omega
  have n2 : w2.heap.size + 1 + 1 ≠ w.heap.size := by omega
  obtain ⟨q0, q1, q2, q3, q4, q5, q6, q7, q8, q9, q10, q11, q12, q13, q14, q15, q16⟩ := cells17 (show w9.drew.heap[w.heap.size]? = some (.cells #[.slice Option.none 0 0, .bool false, .string ⟨#[]⟩, .int .i64 0, .string ⟨#[]⟩, .int .i64 0, .int .i64 0, .int .i64 0, .string ⟨#[]⟩, .string ⟨#[]⟩, .slice Option.none 0 0, .slice Option.none 0 0, .int .i64 0, .slice Option.none 0 0, .slice Option.none 0 0, .int .i64 0, .int .i64 0] 34 (0, 0)) from A9.out)
  obtain ⟨qq0, qq1, qq2, qq3, qq4, qq5, qq6, qq7, qq8, qq9, qq10, qq11, qq12, qq13, qq14, qq15, qq16⟩ := cells17 (show w9.heap[w.heap.size]? = some (.cells #[.slice Option.none 0 0, .bool false, .string ⟨#[]⟩, .int .i64 0, .string ⟨#[]⟩, .int .i64 0, .int .i64 0, .int .i64 0, .string ⟨#[]⟩, .string ⟨#[]⟩, .slice Option.none 0 0, .slice Option.none 0 0, .int .i64 0, .slice Option.none 0 0, .slice Option.none 0 0, .int .i64 0, .int .i64 0] 34 (0, 0)) from A9.out)
  obtain ⟨f0, f1, f2, f3, f4, f5, f6, f7, f8, f9, f10, f11, f12, f13, f14, f15, f16⟩ := frozen17 (show w9.drew.heap[w.heap.size]? = some (.cells (Qm.z 0).c 34 (0, 0)) from A9.out)
  obtain ⟨ff0, ff1, ff2, ff3, ff4, ff5, ff6, ff7, ff8, ff9, ff10, ff11, ff12, ff13, ff14, ff15, ff16⟩ := frozen17 (show w9.heap[w.heap.size]? = some (.cells (Qm.z 0).c 34 (0, 0)) from A9.out)
  go_wp2_with fail
  simp only [World.setCells, zl17, Nat.zero_add, Nat.reduceAdd] at HB HF1
  go_region
  all_goals
    go_wp2_with fail
    try simp only [drew_setCell]
    try simp (config := { decide := false }) only [Act.put, List.getElem_toArray, List.getElem_cons_succ, List.getElem_cons_zero, List.setIfInBounds_toArray, List.set_cons_succ, List.set_cons_zero]
    exact bodyPost_ret (results_qm3 (p := 2) (u := 3) (v := 4) rfl _ _ w.heap.size (Qm.z 0) rfl HB.out) rfl ⟨HF1.out, .inl ⟨p0, c0, HY.out, rfl⟩⟩
theorem parse_any (G : Nat) (n g m l : Addr) (s : ByteArray) (w : World) (hE : LxEnv G n g m l w) : Calls Tryz.prog 13 #[.string s] w (ParseIs s w) := by
  rcases queryL_nil s with ⟨p, c, h⟩ | ⟨y, h⟩
  · exact parse_bad G n g m l s w hE p c h
  · exact parse_ok G n g m l s w hE y h
end Go.Proofs.YtppigamibgefaaaGreatDoor
namespace Go.Proofs.YtppigamibgefaaaGreatDoor
open Go.RowKit

/-- SELECT * FROM t WHERE, and a blank, ahead of a text. -/
def preW (s : ByteArray) : ByteArray := ⟨#[83, 69, 76, 69, 67, 84, 32, 42, 32, 70, 82, 79, 77, 32, 116, 32, 87, 72, 69, 82, 69, 32]⟩ ++ s
theorem parse_small {T : ByteArray} {q : Qry} (h : parseL T = .ok q) : T.size ≤ 1500 := by
  unfold parseL lexL at h
  by_cases h1 : 1500 < T.size
  · rw [if_pos h1] at h; simp at h
  · omega
theorem preW_size (s : ByteArray) : (preW s).size = 22 + s.size := by
  unfold preW
  rw [ByteArray.size_append]; rfl
theorem Qm.at3 (y : Qm) : ∀ j u, y.cond.c[j]? = some u → y.c[3 + j]? = some u := by
  intro j u hj
  have hl := y.cond.c_len
  have hlt : j < 10 := by rw [← hl]; exact (List.getElem?_eq_some_iff.1 hj).1
  show y.l.toArray[3 + j]? = some u
  simp only [Qm.l, List.getElem?_toArray, Nat.add_comm 3 j, List.getElem?_cons_succ]
  rw [List.getElem?_append_left (by omega)]; exact hj
theorem results_pm2 {fn : Func} {p u : Tmp} (h : fn.results = #[.cell p 31, .tmp u]) (tmps : Array Value) (w : World) (g : Nat) (y : Pm) (hp : tmps.getD p undef = .pointer (some ⟨g, 0, Option.none⟩)) (hg : w.heap[g]? = some (.cells y.c.toArray 31 (0, 0))) :
    (results fn tmps).run Tryz.prog w = .ok (.tuple #[y.v, tmps.getD u undef]) w := by
  have hp' : tmps[p]?.getD undef = .pointer (some ⟨g, 0, Option.none⟩) := by simpa using hp
  simp [results, h, hp', asAddr, Pm.v, run_loadVar_row w g 31 31 y.c.toArray (0, 0) _ hg Tryz.underlying31 rfl (by rw [Pm.c_size]; exact pred_size)]
set_option maxRecDepth 100000 in
set_option maxHeartbeats 3200000 in
theorem where_ok (G : Nat) (n g m l : Addr) (s : ByteArray) (w : World) (hE : LxEnv G n g m l w) (q : Qry) (hq : parseL (preW s) = .ok q) : Calls Tryz.prog 19 #[.string s] w fun e w' => ∃ x : Pm, e = .returned (.tuple #[x.v, .bool true]) ∧ x.e = q.cond ∧ PmS (fun j => w.heap.size ≤ j) w' x ∧ w.grownBy w' none := by
  have HP := Lib.hid (fun W (hW : w.grownBy W none) => parse_any G n g m l (preW s) W (hE.keep hW))
  have HQ := Lib.hid hq
  have hs := parse_small hq
  rw [preW_size] at hs
  have hs2 : s.size ≤ 1500 := by omega
  unfold preW at HP
  clear hE hq hs
  go_enter Tryz.func19, Tryz.ntmps19
  have GA := Lib.hid (World.grownBy_alloc w (.cells z10 31) none)
  go_wp2_with fail
  refine (HP.out _ GA.out).mono ?_
  rintro e w2 ⟨hg, h⟩
  have h : ∃ y : Qm, y.e = q ∧ e = .returned (.tuple #[.agg y.c, .int .i64 0, .int .i64 0]) ∧ QmS (fun j => (w.alloc (.cells z10 31)).heap.size ≤ j) w2 y := by
    have hq := HQ.out
    unfold preW at hq
    rcases h with ⟨p, c, h1, _⟩ | ⟨y, h1, h2⟩
    · rw [hq] at h1; cases h1
    · rw [hq] at h1; cases h1; exact ⟨y, rfl, h2⟩
  obtain ⟨y, hy, rfl, hS⟩ := h
  have HS := Lib.hid (And.intro hy hS)
  have G2 := Lib.hid (GA.out.trans hg)
  have A2 := Lib.hid (blk_grown hg (heap_alloc_new w (.cells z10 31)))
  have l2 := hg.size
  have B5 := Lib.hid (heap_alloc_new w2 (.cells (Qm.z 0).c 34))
  have s1 : (w.alloc (.cells z10 31)).heap.size = w.heap.size + 1 := by simp
  have gA := Lib.hid (World.grownBy_alloc w2 (.cells (Qm.z 0).c 34) none)
  have gS := Lib.hid (grown_setRow (w2.alloc (.cells (Qm.z 0).c 34)) w2.heap.size y.c)
  have B6 := Lib.hid (setRow_heap (w2.alloc (.cells (Qm.z 0).c 34)) w2.heap.size (Qm.z 0).c y.c _ _ B5.out)
  have A6 := Lib.hid (blk_row gS.out (blk_grown gA.out A2.out) (by omega))
  have g2 := Lib.hid (grown_thenX gA.out gS.out (fun j e => by cases e; exact Nat.le_refl _))
  have R6 : Hid (((w2.alloc (.cells (Qm.z 0).c 34)).setRow w2.heap.size y.c).rangeAt w2.heap.size 3 y.cond.c) := Lib.hid (fun j u hj => by
    rw [cell_of_row _ _ _ _ _ _ B6.out]; exact y.at3 j u hj)
  clear hg hy hS HQ h
  go_wp2_with (first
    | (refine wpList_store_row rfl 34 (.tmp 4) (.tmp 11) rfl w2.heap.size y.c rfl rfl 34 (Qm.z 0).c B5.out (by rw [Qm.c_size]; exact query_size) (by rw [Qm.c_size, Qm.c_size]) (Qm.c_all _) ?_)
    | (refine wpList_load_mid rfl 31 (.tmp 14) rfl w2.heap.size 3 rfl y.cond.c _ R6.out Tryz.underlying31 rfl (by rw [Pm.c_len]; exact pred_size) ?_)
    | (refine wpList_store_row rfl 31 (.tmp 2) (.tmp 15) rfl w.heap.size y.cond.c.toArray rfl rfl 31 z10 A6.out (by rw [Pm.c_size]; exact pred_size) (by rw [Pm.c_size]; rfl) (Pm.c_all _) ?_))
  obtain ⟨w6, hw6⟩ : ∃ w6, w6 = (w2.alloc (.cells (Qm.z 0).c 34)).setRow w2.heap.size y.c := ⟨_, rfl⟩
  have hS := grown_setRow w6 w.heap.size y.cond.c.toArray
  have A6 := A6.out
  have g2 := g2.out
  rw [← hw6] at A6 g2
  change bodyPost _ _ _ _ _ (((w2.alloc (.cells (Qm.z 0).c 34)).setRow w2.heap.size y.c).setRow w.heap.size y.cond.c.toArray)
  rw [← hw6]
  refine bodyPost_ret (results_pm2 (p := 2) (u := 3) rfl _ _ w.heap.size y.cond rfl (setRow_heap w6 w.heap.size z10 y.cond.c.toArray _ _ A6)) rfl ⟨y.cond, rfl, by rw [← HS.out.1]; rfl, ?_, grown_thenX (G2.out.trans g2) hS (fun j e => by cases e; exact Nat.le_refl _)⟩
  have h1 := (HS.out.2.2.1.keep (.of g2)).keep (w' := w6.setRow w.heap.size y.cond.c.toArray) ⟨hS.size, fun b hb hlt => hS.block b hlt (by simp; omega)⟩
  exact h1.mono (fun j _ hj => by omega)
end Go.Proofs.YtppigamibgefaaaGreatDoor
namespace Go.Proofs.YtppigamibgefaaaGreatDoor
open Go.RowKit

theorem Pm.e_mk {x : Pm} {k : Nat} {c : ByteArray} {r : Nat} {v : Vl} {o : ByteArray} {l : List Vl} {ks : List Prd} {p : Nat} (h : x.e = .mk k c r v o l ks p) : ∃ la lc ka kc kids, x = .mk k c r v o la lc l ka kc kids p ∧ Pm.es kids = ks := by
  obtain ⟨k', c', r', v', o', la, lc, l', ka, kc, ks', p'⟩ := x
  simp only [Pm.e, Prd.mk.injEq] at h
  obtain ⟨rfl, rfl, rfl, rfl, rfl, rfl, h7, rfl⟩ := h
  exact ⟨la, lc, ka, kc, ks', rfl, h7⟩
theorem Pm.es_nil {l : List Pm} (h : Pm.es l = []) : l = [] := by
  cases l with
  | nil => rfl
  | cons x r => simp [Pm.es] at h
theorem Pm.es_cons {l : List Pm} {a : Prd} {r : List Prd} (h : Pm.es l = a :: r) : ∃ x t, l = x :: t ∧ x.e = a ∧ Pm.es t = r := by
  cases l with
  | nil => simp [Pm.es] at h
  | cons x t => simp only [Pm.es, List.cons.injEq] at h; exact ⟨x, t, rfl, h.1, h.2⟩
/-- Kids in memory: each one's cells. -/
theorem kids_cells {S : Nat → Prop} {w : World} {ka : Ptr} {ks : List Pm} (h : CellsS S w ka (ks.flatMap Pm.c)) (hn : 0 < ks.length) : ∃ b o, ka = some ⟨b, o, Option.none⟩ ∧ b < w.heap.size ∧ ∀ i, i < ks.length → ∀ j u, (ks.getD i default).c[j]? = some u → w.cell? ⟨b, o + i * 10 + j, Option.none⟩ = some u := by
  obtain ⟨b, o, e, _, hb, _⟩ := h.elem Pm.c_len (by decide) hn
  refine ⟨b, o, e, hb, fun i hi j u hj => ?_⟩
  obtain ⟨b', o', e', _, _, hc⟩ := h.elem Pm.c_len (by decide) hi
  rw [e] at e'
  cases e'
  exact hc j u hj
def txQ : ByteArray := ⟨#[83, 69, 76, 69, 67, 84, 32, 97, 44, 32, 67, 79, 85, 78, 84, 40, 42, 41, 32, 70, 82, 79, 77, 32, 116, 32, 87, 72, 69, 82, 69, 32, 53, 32, 60, 32, 97, 32, 65, 78, 68, 32, 78, 79, 84, 32, 98, 32, 73, 83, 32, 78, 85, 76, 76, 32, 71, 82, 79, 85, 80, 32, 66, 89, 32, 97]⟩
def prQ1 : Prd := .mk 3 ⟨#[97]⟩ 5 ⟨2, 5, ⟨#[]⟩⟩ ⟨#[]⟩ [] [] 32
def prQ3 : Prd := .mk 6 ⟨#[98]⟩ 0 ⟨0, 0, ⟨#[]⟩⟩ ⟨#[]⟩ [] [] 46
def prQ2 : Prd := .mk 10 ⟨#[]⟩ 0 ⟨0, 0, ⟨#[]⟩⟩ ⟨#[]⟩ [] [prQ3] 42
theorem parse_Q : parseL txQ = .ok ⟨[⟨0, ⟨#[97]⟩, 7⟩, ⟨1, ⟨#[]⟩, 10⟩], false, ⟨#[116]⟩, .mk 8 ⟨#[]⟩ 0 ⟨0, 0, ⟨#[]⟩⟩ ⟨#[]⟩ [] [prQ1, prQ2] 32, [⟨0, ⟨#[97]⟩, 65⟩], [], -1⟩ := by kernel_rfl
/-- What the example's query is in memory. -/
theorem awake_mem {S : Nat → Prop} {w : World} {y : Qm} (hy : y.e = ⟨[⟨0, ⟨#[97]⟩, 7⟩, ⟨1, ⟨#[]⟩, 10⟩], false, ⟨#[116]⟩, .mk 8 ⟨#[]⟩ 0 ⟨0, 0, ⟨#[]⟩⟩ ⟨#[]⟩ [] [prQ1, prQ2] 32, [⟨0, ⟨#[97]⟩, 65⟩], [], -1⟩) (hS : QmS S w y) :
    ∃ ib io ic kb ko kc mb mo mc, y.c[0]? = some (.slice (some ⟨ib, io, none⟩) 2 ic) ∧ 2 ≤ ic ∧ y.cond.c[0]? = some (.int .i64 8) ∧ y.cond.c[8]? = some (.slice (some ⟨kb, ko, none⟩) 2 kc) ∧ 2 ≤ kc ∧ 1 ≤ mc ∧ (ib < w.heap.size ∧ kb < w.heap.size ∧ mb < w.heap.size) ∧
      w.cell? ⟨ib, io + 3, none⟩ = some (.int .i64 1) ∧ w.cell? ⟨kb, ko + 2, none⟩ = some (.int .i64 5) ∧ w.cell? ⟨kb, ko + 1, none⟩ = some (.string ⟨#[97]⟩) ∧ w.cell? ⟨kb, ko + 10, none⟩ = some (.int .i64 10) ∧ w.cell? ⟨kb, ko + 10 + 8, none⟩ = some (.slice (some ⟨mb, mo, none⟩) 1 mc) ∧ w.cell? ⟨mb, mo, none⟩ = some (.int .i64 6) := by
  obtain ⟨ia, ic, its, al, ta, cond, ga, gc, gr, oa, oc, od, lim⟩ := y
  simp only [Qm.e, Qry.mk.injEq] at hy
  obtain ⟨rfl, _, _, hc, _⟩ := hy
  obtain ⟨la, lc, ka, kc, kids, rfl, hk⟩ := Pm.e_mk hc
  obtain ⟨x1, t1, rfl, hx1, ht1⟩ := Pm.es_cons hk
  obtain ⟨x2, t2, rfl, hx2, ht2⟩ := Pm.es_cons ht1
  obtain rfl := Pm.es_nil ht2
  obtain ⟨la1, lc1, ka1, kc1, kids1, rfl, hk1⟩ := Pm.e_mk (show x1.e = .mk 3 ⟨#[97]⟩ 5 ⟨2, 5, ⟨#[]⟩⟩ ⟨#[]⟩ [] [] 32 from hx1)
  obtain ⟨la2, lc2, ka2, kc2, kids2, rfl, hk2⟩ := Pm.e_mk (show x2.e = .mk 10 ⟨#[]⟩ 0 ⟨0, 0, ⟨#[]⟩⟩ ⟨#[]⟩ [] [prQ3] 42 from hx2)
  obtain ⟨x3, t3, rfl, hx3, ht3⟩ := Pm.es_cons hk2
  obtain rfl := Pm.es_nil ht3
  obtain ⟨la3, lc3, ka3, kc3, kids3, rfl, hk3⟩ := Pm.e_mk (show x3.e = .mk 6 ⟨#[98]⟩ 0 ⟨0, 0, ⟨#[]⟩⟩ ⟨#[]⟩ [] [] 46 from hx3)
  obtain ⟨⟨hI, hIl⟩, hC, _⟩ := hS
  obtain ⟨_, _, hK, hKl, hKs⟩ := hC
  simp only [PmSs] at hKs
  obtain ⟨_, hK2, _⟩ := hKs
  obtain ⟨_, _, hM, hMl, _⟩ := hK2
  obtain ⟨kb, ko, rfl, hkb, hkc⟩ := kids_cells hK (by simp)
  obtain ⟨mb, mo, rfl, hmb, hmc⟩ := kids_cells hM (by simp)
  obtain ⟨ib, io, rfl, _, hib, hic⟩ := hI.elem Itm.c_len (by decide) (i := 1) (by simp)
  refine ⟨ib, io, ic, kb, ko, kc, mb, mo, kc2, rfl, hIl, rfl, rfl, hKl, hMl, ⟨hib, hkb, hmb⟩, hic 0 _ rfl, ?_, ?_, ?_, ?_, ?_⟩
  · have := hkc 0 (by simp) 2 _ rfl; simpa using this
  · have := hkc 0 (by simp) 1 _ rfl; simpa using this
  · have := hkc 1 (by simp) 0 _ rfl; simpa using this
  · have := hkc 1 (by simp) 8 _ rfl; simpa using this
  · have := hmc 0 (by simp) 0 _ rfl; simpa using this
set_option maxRecDepth 100000 in
set_option maxHeartbeats 6400000 in
theorem awake11_any (G : Nat) (n g m l : Addr) (w : World) (hE : LxEnv G n g m l w) : Calls Tryz.prog 12 #[] w fun e w' => e = .returned (.bool true) ∧ w.grownBy w' none := by
  have HP := Lib.hid (fun W (hW : w.grownBy W none) => parse_any G n g m l txQ W (hE.keep hW))
  unfold txQ at HP
  clear hE
  go_enter Tryz.func12, Tryz.ntmps12
  go_wp2_with fail
  refine (HP.out _ (grown_reflX _ _)).mono ?_
  rintro e w2 ⟨hg, h⟩
  have h : ∃ y : Qm, e = .returned (.tuple #[.agg y.c, .int .i64 0, .int .i64 0]) ∧ y.e = ⟨[⟨0, ⟨#[97]⟩, 7⟩, ⟨1, ⟨#[]⟩, 10⟩], false, ⟨#[116]⟩, .mk 8 ⟨#[]⟩ 0 ⟨0, 0, ⟨#[]⟩⟩ ⟨#[]⟩ [] [prQ1, prQ2] 32, [⟨0, ⟨#[97]⟩, 65⟩], [], -1⟩ ∧ QmS (fun j => w.heap.size ≤ j) w2 y := by
    have hq := parse_Q
    unfold txQ at hq
    rcases h with ⟨p, c, h1, _⟩ | ⟨y, h1, h2, h3⟩
    · rw [hq] at h1; cases h1
    · rw [hq] at h1; simp only [Except.ok.injEq] at h1; exact ⟨y, h2, h1.symm, h3⟩
  obtain ⟨y, rfl, hy, hS⟩ := h
  obtain ⟨ib, io, ic, kb, ko, kc, mb, mo, mc, y0, hic, k0, k8, hkc, hmc, ⟨hib, hkb, hmb⟩, c1, c2, c3, c4, c5, c6⟩ := awake_mem hy hS
  have G2 := Lib.hid hg
  have B5 := Lib.hid (heap_alloc_new w2 (.cells (Qm.z 0).c 34))
  have gA := Lib.hid (World.grownBy_alloc w2 (.cells (Qm.z 0).c 34) none)
  have gS := Lib.hid (grown_setRow (w2.alloc (.cells (Qm.z 0).c 34)) w2.heap.size y.c)
  have B6 := Lib.hid (setRow_heap (w2.alloc (.cells (Qm.z 0).c 34)) w2.heap.size (Qm.z 0).c y.c _ _ B5.out)
  have g2 := Lib.hid (grown_thenX gA.out gS.out (fun j e => by cases e; exact Nat.le_refl _))
  have R6 : Hid (((w2.alloc (.cells (Qm.z 0).c 34)).setRow w2.heap.size y.c).rangeAt w2.heap.size 3 y.cond.c) := Lib.hid (fun j u hj => by
    rw [cell_of_row _ _ _ _ _ _ B6.out]; exact y.at3 j u hj)
  have F2 := Lib.hid (And.intro y0 (And.intro k0 (And.intro k8 (And.intro hib (And.intro hkb (And.intro hmb (And.intro c1 (And.intro c2 (And.intro c3 (And.intro c4 (And.intro c5 c6)))))))))))
  clear hg hy hS y0 k0 k8 c1 c2 c3 c4 c5 c6 hib hkb hmb
  go_upto_region 2 with (refine wpList_store_row rfl 34 (.tmp 1) (.tmp 7) rfl w2.heap.size y.c rfl rfl 34 (Qm.z 0).c B5.out (by rw [Qm.c_size]; exact query_size) (by rw [Qm.c_size, Qm.c_size]) (Qm.c_all _) ?_)
  obtain ⟨w6, hw6⟩ : ∃ w6, w6 = (w2.alloc (.cells (Qm.z 0).c 34)).setRow w2.heap.size y.c := ⟨_, rfl⟩
  rw [← hw6] at B6 g2 R6
  change Code.wp _ _ _ _ ((w2.alloc (.cells (Qm.z 0).c 34)).setRow w2.heap.size y.c)
  rw [← hw6]
  clear hw6 gA gS B5
  have C5 := heap_alloc_new w6 (.cells z10 31)
  have hA := World.grownBy_alloc w6 (.cells z10 31) none
  have hS := grown_setRow (w6.alloc (.cells z10 31)) w6.heap.size y.cond.c.toArray
  have C6 := setRow_heap (w6.alloc (.cells z10 31)) w6.heap.size z10 y.cond.c.toArray _ _ C5
  have h6 := grown_thenX hA hS (fun j e => by cases e; exact Nat.le_refl _)
  have hAll := g2.out.trans h6
  obtain ⟨y0, k0, k8, hib, hkb, hmb, c1, c2, c3, c4, c5, c6⟩ := F2.out
  have D0 := h6.cell (show w6.cell? ⟨w2.heap.size, 0, none⟩ = _ from (cell_of_row _ _ 0 _ _ _ B6.out).trans y0) (by simp)
  have D1 := hAll.cell c1 (by simp)
  have D2 := hAll.cell c2 (by simp)
  have D3 := hAll.cell c3 (by simp)
  have D4 := hAll.cell c4 (by simp)
  have D5 := hAll.cell c5 (by simp)
  have D6 := hAll.cell c6 (by simp)
  have E0 := (cell_of_row _ _ 0 _ _ _ C6).trans (List.getElem?_toArray.trans k0)
  have E8 := (cell_of_row _ _ 8 _ _ _ C6).trans (List.getElem?_toArray.trans k8)
  have HG := Lib.hid (G2.out.trans hAll)
  have C5 := Lib.hid C5
  unfold z10 at D0 D1 D2 D3 D4 D5 D6 E0 E8
  clear hA hS C6 h6 hAll c1 c2 c3 c4 c5 c6 y0 k0 k8 F2 hib hkb hmb
  go_wp2_with (first
    | (refine wpList_load_mid rfl 31 (.tmp 10) rfl w2.heap.size 3 rfl y.cond.c _ R6.out Tryz.underlying31 rfl (by rw [Pm.c_len]; exact pred_size) ?_)
    | (refine wpList_store_row rfl 31 (.tmp 4) (.tmp 11) rfl w6.heap.size y.cond.c.toArray rfl rfl 31 z10 C5.out (by rw [Pm.c_size]; exact pred_size) (by rw [Pm.c_size]; rfl) (Pm.c_all _) ?_))
  go_ret
  exact ⟨rfl, HG.out⟩
end Go.Proofs.YtppigamibgefaaaGreatDoor
