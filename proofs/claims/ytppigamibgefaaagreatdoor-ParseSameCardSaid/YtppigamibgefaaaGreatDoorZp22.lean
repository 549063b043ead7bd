/- The reader's items, keys and limit, on. The reader's keys and limit. The reader's limit. -/
import Derived.Test.YtppigamibgefaaaGreatDoorZp21
namespace Go.Proofs.YtppigamibgefaaaGreatDoor
open Go.RowKit

theorem cell1 {w : World} {b : Nat} {v0 v1 v2 u : Value} {T : TypeId} (h : w.heap[b]? = some (.cells #[v0, v1, v2] T (0, 0))) : (w.setCell ⟨b, 0, none⟩ u).heap[b]? = some (.cells #[u, v1, v2] T (0, 0)) := by
  simpa using heap_setCell_same _ _ 0 _ _ u h
theorem cell2 {w : World} {b : Nat} {v0 v1 v2 u : Value} {T : TypeId} (h : w.heap[b]? = some (.cells #[v0, v1, v2] T (0, 0))) : (w.setCell ⟨b, 1, none⟩ u).heap[b]? = some (.cells #[v0, u, v2] T (0, 0)) := by
  simpa using heap_setCell_same _ _ 1 _ _ u h
theorem blk_set {w : World} {g b i : Nat} {u : Value} {o : Obj} (h : w.heap[g]? = some o) (hne : g ≠ b) : (w.setCell ⟨b, i, none⟩ u).heap[g]? = some o := (heap_setCell_other w ⟨b, i, none⟩ g u hne).trans h
set_option maxRecDepth 100000 in
set_option maxHeartbeats 1600000 in
theorem pitem_plain (R b deep : Nat) (s : RS) (w : World) (h : RdA R b deep s w) (ha : aggT s.hd.text = 0) :
    Calls Tryz.prog 86 #[.pointer (some ⟨R, 0, none⟩)] w fun e w' => e = .returned (.agg #[.int .i64 0, .string (columnL s).2.col, .int .i64 (columnL s).2.pos]) ∧ RdGo R b deep ((columnL s).1) w w' := by
  have HC := Lib.hid (fun W (hW : w.grownBy W none) => comes_any R b deep s W (h.keep hW))
  have HA := Lib.hid (fun W (hW : w.grownBy W none) => pagg_any R b deep s W (h.keep hW))
  have HS := Lib.hid h
  have HO := Lib.hid (fun st W (hW : RdA R b deep st W) => need_any R b deep st bOpen W hW (by decide))
  have HZ := Lib.hid (fun st W (hW : RdA R b deep st W) => need_any R b deep st bShut W hW (by decide))
  have HN := Lib.hid (fun st W (hW : RdA R b deep st W) => pname_any R b deep st W hW)
  have HY := Lib.hid (fun st (hc : st.comes bStar = true) W (hW : RdA R b deep st W) => took_yes R b deep st bStar W hW (by decide) hc)
  have HX := Lib.hid (fun st (hc : st.comes bStar = false) W (hW : RdA R b deep st W) => took_no R b deep st bStar W hW (by decide) hc)
  have HL := Lib.hid (fun W (hW : RdA R b deep s W) => pcolumn_any R b deep s W hW)
  unfold Itm.c at HL
  rw [ha] at HA
  simp only [if_true] at HA
  have hz : (columnL s).2.agg = 0 := rfl
  rw [hz, show ((0 : Nat) : Int) = 0 from rfl] at HL
  rw [show ((0 : Nat) : Int) = 0 from rfl] at HA
  generalize (columnL s).2.col = cc at *
  generalize (columnL s).2.pos = cp at *
  generalize (columnL s).1 = cs at *
  clear h ha hz HO HZ HN HY HX
  generalize s.hd.kind = kd at *
  generalize s.hd.text = tx at *
  generalize s.hd.pos = ps at *
  go_enter Tryz.func86, Tryz.ntmps86
  have GA := Lib.hid (World.grownBy_alloc w (.cells #[.int .i64 0, .string ⟨#[]⟩, .int .i64 0] 81) none)
  go_wp2_with fail
  refine (HC.out _ GA.out).mono ?_
  rintro e w2 ⟨rfl, hg⟩
  have G2 := Lib.hid (GA.out.trans hg)
  have A2 := Lib.hid (blk_grown hg (heap_alloc_new w _))
  have t1 := field_tk2 (.int .i64 kd) (.string tx) (.int .i64 ps) w2
  clear hg
  go_wp2_with fail
  refine (HA.out _ G2.out).mono ?_
  rintro e w3 ⟨rfl, hr⟩
  have hRw := HS.out.lt'
  have A3 := Lib.hid (hr.blk A2.out (by omega))
  have R3 := Lib.hid (show RdGo R b deep s w w3 from ⟨hr.1, G2.out.trans' hr.2⟩)
  have Z3 := Lib.hid (show w.heap.size < w3.heap.size from Nat.lt_of_lt_of_le (Array.getElem?_eq_some_iff.1 A2.out).1 hr.2.size)
  clear hr t1
  go_wp2_with fail
  have R3b := R3.out.keep (World.grownBy_alloc w3 (.cells #[.int .i64 0, .string ⟨#[]⟩, .int .i64 ps] 81) none)
  have R3c := Lib.hid R3b
  have A3b := Lib.hid (blk_grown (World.grownBy_alloc w3 (.cells #[.int .i64 0, .string ⟨#[]⟩, .int .i64 ps] 81) none) A3.out)
  refine (HL.out _ R3b.1).mono ?_
  rintro e w4 ⟨rfl, hr⟩
  have A4 := hr.blk A3b.out (by omega)
  have R4 := Lib.hid (R3c.out.then hr)
  obtain ⟨⟨a0, a1, a2⟩, b0, b1, b2⟩ := three_of A4
  have HA4 := Lib.hid A4
  clear hr A4 R3b hRw
  go_wp2_with fail
  exact bodyPost_ret (results_cell_row rfl _ _ w.heap.size 81 #[.int .i64 0, .string cc, .int .i64 cp] (0, 0) _ rfl (set3 HA4.out) Tryz.underlying81 rfl (by kernel_rfl)) rfl ⟨rfl, RdGo.stored HS.out R4.out (Nat.le_refl _) (grown3 _ _ _ _ _)⟩
set_option maxRecDepth 100000 in
set_option maxHeartbeats 1600000 in
theorem pitem_star (R b deep : Nat) (s : RS) (w : World) (h : RdA R b deep s w) (ha : aggT s.hd.text = 2) (hst : (s.pass.need bOpen).comes bStar = true) :
    Calls Tryz.prog 86 #[.pointer (some ⟨R, 0, none⟩)] w fun e w' => e = .returned (.agg #[.int .i64 1, .string ⟨#[]⟩, .int .i64 s.hd.pos]) ∧ RdGo R b deep ((s.pass.need bOpen).pass.need bShut) w w' := by
  have HC := Lib.hid (fun W (hW : w.grownBy W none) => comes_any R b deep s W (h.keep hW))
  have HA := Lib.hid (fun W (hW : w.grownBy W none) => pagg_any R b deep s W (h.keep hW))
  have HS := Lib.hid h
  have HO := Lib.hid (fun st W (hW : RdA R b deep st W) => need_any R b deep st bOpen W hW (by decide))
  have HZ := Lib.hid (fun st W (hW : RdA R b deep st W) => need_any R b deep st bShut W hW (by decide))
  have HN := Lib.hid (fun st W (hW : RdA R b deep st W) => pname_any R b deep st W hW)
  have HY := Lib.hid (fun st (hc : st.comes bStar = true) W (hW : RdA R b deep st W) => took_yes R b deep st bStar W hW (by decide) hc)
  have HX := Lib.hid (fun st (hc : st.comes bStar = false) W (hW : RdA R b deep st W) => took_no R b deep st bStar W hW (by decide) hc)
  rw [ha, show ((2 : Nat) : Int) = 2 from rfl] at HA
  simp only [show ¬ (2 : Nat) = 0 by decide, if_false] at HA
  clear h ha HN HX
  generalize s.hd.kind = kd at *
  generalize s.hd.text = tx at *
  generalize s.hd.pos = ps at *
  go_enter Tryz.func86, Tryz.ntmps86
  have GA := Lib.hid (World.grownBy_alloc w (.cells #[.int .i64 0, .string ⟨#[]⟩, .int .i64 0] 81) none)
  go_wp2_with fail
  refine (HC.out _ GA.out).mono ?_
  rintro e w2 ⟨rfl, hg⟩
  have G2 := Lib.hid (GA.out.trans hg)
  have A2 := Lib.hid (blk_grown hg (heap_alloc_new w _))
  have t1 := field_tk2 (.int .i64 kd) (.string tx) (.int .i64 ps) w2
  clear hg
  go_wp2_with fail
  refine (HA.out _ G2.out).mono ?_
  rintro e w3 ⟨rfl, hr⟩
  have hRw := HS.out.lt'
  have A3 := Lib.hid (hr.blk A2.out (by omega))
  have R3 := Lib.hid (show RdGo R b deep s.pass w w3 from ⟨hr.1, G2.out.trans' hr.2⟩)
  have Z3 := Lib.hid (show w.heap.size < w3.heap.size from Nat.lt_of_lt_of_le (Array.getElem?_eq_some_iff.1 A2.out).1 hr.2.size)
  clear hr t1
  go_wp2_with fail
  have R3b := R3.out.keep (World.grownBy_alloc w3 (.cells #[.int .i64 2, .string ⟨#[]⟩, .int .i64 ps] 81) none)
  have R3c := Lib.hid R3b
  have A3b := Lib.hid (blk_grown (World.grownBy_alloc w3 (.cells #[.int .i64 2, .string ⟨#[]⟩, .int .i64 ps] 81) none) A3.out)
  refine (HO.out _ _ R3b.1).mono ?_
  rintro e w4 ⟨rfl, hr⟩
  have hz3 := Z3.out
  have A4 := Lib.hid (hr.blk A3b.out (by omega))
  have B4 := hr.blk (heap_alloc_new w3 (.cells #[.int .i64 2, .string ⟨#[]⟩, .int .i64 ps] 81)) (by omega)
  have R4 := Lib.hid (R3c.out.then hr)
  obtain ⟨⟨d0, d1, d2⟩, f0, f1, f2⟩ := three_of B4
  have HB4 := Lib.hid B4
  clear hr R3b B4 hz3
  go_wp2_with fail
  refine (HY.out _ hst _ R4.out.1).mono ?_
  rintro e w5 ⟨rfl, hr⟩
  have hz3 := Z3.out
  have A5 := Lib.hid (hr.blk A4.out (by omega))
  have B5 := hr.blk HB4.out (by omega)
  have R5 := Lib.hid (R4.out.then hr)
  clear d0 d1 d2 f0 f1 f2
  obtain ⟨⟨d0, d1, d2⟩, f0, f1, f2⟩ := three_of B5
  have HB5 := Lib.hid B5
  clear hr B5 hz3
  go_wp2_with fail
  have hz3 := Z3.out
  have hz0 := HS.out.lt'
  have RS_ := Lib.hid (RdGo.stored HS.out R5.out (Nat.le_of_lt Z3.out) (grown_cellR w5 w3.heap.size 0 (.int .i64 1)))
  have BS_ := Lib.hid (cell1 (u := .int .i64 1) HB5.out)
  have AS_ := Lib.hid (blk_set (b := w3.heap.size) (i := 0) (u := .int .i64 1) A5.out (by omega))
  refine (HZ.out _ _ RS_.out.1).mono ?_
  rintro e w9 ⟨rfl, hr⟩
  have A9 := hr.blk AS_.out (by omega)
  have B9 := hr.blk BS_.out (by omega)
  have R9 := Lib.hid (RS_.out.then hr)
  clear d0 d1 d2 f0 f1 f2
  obtain ⟨⟨a0, a1, a2⟩, b0, b1, b2⟩ := three_of A9
  obtain ⟨⟨d0, d1, d2⟩, f0, f1, f2⟩ := three_of B9
  have HA9 := Lib.hid A9
  clear hr A9 B9 hz3 hz0 hRw f0 f1 f2
  go_wp2_with fail
  exact bodyPost_ret (results_cell_row rfl _ _ w.heap.size 81 #[.int .i64 1, .string ⟨#[]⟩, .int .i64 ps] (0, 0) _ rfl (set3 HA9.out) Tryz.underlying81 rfl (by kernel_rfl)) rfl ⟨rfl, RdGo.stored HS.out R9.out (Nat.le_refl _) (grown3 _ _ _ _ _)⟩
set_option maxRecDepth 100000 in
set_option maxHeartbeats 1600000 in
theorem pitem_count (R b deep : Nat) (s : RS) (w : World) (h : RdA R b deep s w) (ha : aggT s.hd.text = 2) (hst : (s.pass.need bOpen).comes bStar = false) :
    Calls Tryz.prog 86 #[.pointer (some ⟨R, 0, none⟩)] w fun e w' => e = .returned (.agg #[.int .i64 2, .string (s.pass.need bOpen).name.2, .int .i64 s.hd.pos]) ∧ RdGo R b deep ((s.pass.need bOpen).name.1.need bShut) w w' := by
  have HC := Lib.hid (fun W (hW : w.grownBy W none) => comes_any R b deep s W (h.keep hW))
  have HA := Lib.hid (fun W (hW : w.grownBy W none) => pagg_any R b deep s W (h.keep hW))
  have HS := Lib.hid h
  have HO := Lib.hid (fun st W (hW : RdA R b deep st W) => need_any R b deep st bOpen W hW (by decide))
  have HZ := Lib.hid (fun st W (hW : RdA R b deep st W) => need_any R b deep st bShut W hW (by decide))
  have HN := Lib.hid (fun st W (hW : RdA R b deep st W) => pname_any R b deep st W hW)
  have HY := Lib.hid (fun st (hc : st.comes bStar = true) W (hW : RdA R b deep st W) => took_yes R b deep st bStar W hW (by decide) hc)
  have HX := Lib.hid (fun st (hc : st.comes bStar = false) W (hW : RdA R b deep st W) => took_no R b deep st bStar W hW (by decide) hc)
  rw [ha, show ((2 : Nat) : Int) = 2 from rfl] at HA
  simp only [show ¬ (2 : Nat) = 0 by decide, if_false] at HA
  obtain ⟨⟨n1, n2⟩, hnm⟩ : ∃ nm, (s.pass.need bOpen).name = nm := ⟨_, rfl⟩
  have Hnm := Lib.hid hnm
  rw [hnm]
  simp only
  clear h ha HY hnm
  generalize s.hd.kind = kd at *
  generalize s.hd.text = tx at *
  generalize s.hd.pos = ps at *
  go_enter Tryz.func86, Tryz.ntmps86
  have GA := Lib.hid (World.grownBy_alloc w (.cells #[.int .i64 0, .string ⟨#[]⟩, .int .i64 0] 81) none)
  go_wp2_with fail
  refine (HC.out _ GA.out).mono ?_
  rintro e w2 ⟨rfl, hg⟩
  have G2 := Lib.hid (GA.out.trans hg)
  have A2 := Lib.hid (blk_grown hg (heap_alloc_new w _))
  have t1 := field_tk2 (.int .i64 kd) (.string tx) (.int .i64 ps) w2
  clear hg
  go_wp2_with fail
  refine (HA.out _ G2.out).mono ?_
  rintro e w3 ⟨rfl, hr⟩
  have hRw := HS.out.lt'
  have A3 := Lib.hid (hr.blk A2.out (by omega))
  have R3 := Lib.hid (show RdGo R b deep s.pass w w3 from ⟨hr.1, G2.out.trans' hr.2⟩)
  have Z3 := Lib.hid (show w.heap.size < w3.heap.size from Nat.lt_of_lt_of_le (Array.getElem?_eq_some_iff.1 A2.out).1 hr.2.size)
  clear hr t1
  go_wp2_with fail
  have R3b := R3.out.keep (World.grownBy_alloc w3 (.cells #[.int .i64 2, .string ⟨#[]⟩, .int .i64 ps] 81) none)
  have R3c := Lib.hid R3b
  have A3b := Lib.hid (blk_grown (World.grownBy_alloc w3 (.cells #[.int .i64 2, .string ⟨#[]⟩, .int .i64 ps] 81) none) A3.out)
  refine (HO.out _ _ R3b.1).mono ?_
  rintro e w4 ⟨rfl, hr⟩
  have hz3 := Z3.out
  have A4 := Lib.hid (hr.blk A3b.out (by omega))
  have B4 := hr.blk (heap_alloc_new w3 (.cells #[.int .i64 2, .string ⟨#[]⟩, .int .i64 ps] 81)) (by omega)
  have R4 := Lib.hid (R3c.out.then hr)
  obtain ⟨⟨d0, d1, d2⟩, f0, f1, f2⟩ := three_of B4
  have HB4 := Lib.hid B4
  clear hr R3b B4 hz3
  go_wp2_with fail
  refine (HX.out _ hst _ R4.out.1).mono ?_
  rintro e w5 ⟨rfl, hr⟩
  have hz3 := Z3.out
  have A5 := Lib.hid (hr.blk A4.out (by omega))
  have B5 := hr.blk HB4.out (by omega)
  have R5 := Lib.hid (R4.out.then hr)
  clear d0 d1 d2 f0 f1 f2
  obtain ⟨⟨d0, d1, d2⟩, f0, f1, f2⟩ := three_of B5
  have HB5 := Lib.hid B5
  clear hr B5 hz3
  go_wp2_with fail
  have HN1 := Lib.hid (HN.out _ _ R5.out.1)
  rw [Hnm.out] at HN1
  simp only at HN1
  refine HN1.out.mono ?_
  rintro e w6 ⟨rfl, hr⟩
  have hz3 := Z3.out
  have A6 := Lib.hid (hr.blk A5.out (by omega))
  have B6 := hr.blk HB5.out (by omega)
  have R6 := Lib.hid (R5.out.then hr)
  clear d0 d1 d2 f0 f1 f2
  obtain ⟨⟨d0, d1, d2⟩, f0, f1, f2⟩ := three_of B6
  have HB6 := Lib.hid B6
  clear hr B6 hz3
  go_wp2_with fail
  have hz3 := Z3.out
  have hz0 := HS.out.lt'
  have RS_ := Lib.hid (RdGo.stored HS.out R6.out (Nat.le_of_lt Z3.out) (grown_cellR w6 w3.heap.size 1 (.string n2)))
  have BS_ := Lib.hid (cell2 (u := .string n2) HB6.out)
  have AS_ := Lib.hid (blk_set (b := w3.heap.size) (i := 1) (u := .string n2) A6.out (by omega))
  refine (HZ.out _ _ RS_.out.1).mono ?_
  rintro e w9 ⟨rfl, hr⟩
  have A9 := hr.blk AS_.out (by omega)
  have B9 := hr.blk BS_.out (by omega)
  have R9 := Lib.hid (RS_.out.then hr)
  clear d0 d1 d2 f0 f1 f2
  obtain ⟨⟨a0, a1, a2⟩, b0, b1, b2⟩ := three_of A9
  obtain ⟨⟨d0, d1, d2⟩, f0, f1, f2⟩ := three_of B9
  have HA9 := Lib.hid A9
  clear hr A9 B9 hz3 hz0 hRw f0 f1 f2
  go_wp2_with fail
  exact bodyPost_ret (results_cell_row rfl _ _ w.heap.size 81 #[.int .i64 2, .string n2, .int .i64 ps] (0, 0) _ rfl (set3 HA9.out) Tryz.underlying81 rfl (by kernel_rfl)) rfl ⟨rfl, RdGo.stored HS.out R9.out (Nat.le_refl _) (grown3 _ _ _ _ _)⟩
set_option maxRecDepth 100000 in
set_option maxHeartbeats 1600000 in
theorem pitem_other (R b deep : Nat) (s : RS) (w : World) (h : RdA R b deep s w) (ha : aggT s.hd.text ≠ 0) (hb : aggT s.hd.text ≠ 2) :
    Calls Tryz.prog 86 #[.pointer (some ⟨R, 0, none⟩)] w fun e w' => e = .returned (.agg #[.int .i64 (aggT s.hd.text : Nat), .string (s.pass.need bOpen).name.2, .int .i64 s.hd.pos]) ∧ RdGo R b deep ((s.pass.need bOpen).name.1.need bShut) w w' := by
  have HC := Lib.hid (fun W (hW : w.grownBy W none) => comes_any R b deep s W (h.keep hW))
  have HA := Lib.hid (fun W (hW : w.grownBy W none) => pagg_any R b deep s W (h.keep hW))
  have HS := Lib.hid h
  have HO := Lib.hid (fun st W (hW : RdA R b deep st W) => need_any R b deep st bOpen W hW (by decide))
  have HZ := Lib.hid (fun st W (hW : RdA R b deep st W) => need_any R b deep st bShut W hW (by decide))
  have HN := Lib.hid (fun st W (hW : RdA R b deep st W) => pname_any R b deep st W hW)
  have HY := Lib.hid (fun st (hc : st.comes bStar = true) W (hW : RdA R b deep st W) => took_yes R b deep st bStar W hW (by decide) hc)
  have HX := Lib.hid (fun st (hc : st.comes bStar = false) W (hW : RdA R b deep st W) => took_no R b deep st bStar W hW (by decide) hc)
  simp only [ha, if_false] at HA
  generalize aggT s.hd.text = ag at *
  have ha0 : ((ag : Int) == 0) = false := by rw [beq_eq_false_iff_ne]; omega
  have ha2 : ((ag : Int) == 2) = false := by rw [beq_eq_false_iff_ne]; omega
  obtain ⟨⟨n1, n2⟩, hnm⟩ : ∃ nm, (s.pass.need bOpen).name = nm := ⟨_, rfl⟩
  have Hnm := Lib.hid hnm
  rw [hnm]
  simp only
  clear h ha hb HY HX hnm
  generalize s.hd.kind = kd at *
  generalize s.hd.text = tx at *
  generalize s.hd.pos = ps at *
  go_enter Tryz.func86, Tryz.ntmps86
  have GA := Lib.hid (World.grownBy_alloc w (.cells #[.int .i64 0, .string ⟨#[]⟩, .int .i64 0] 81) none)
  go_wp2_with fail
  refine (HC.out _ GA.out).mono ?_
  rintro e w2 ⟨rfl, hg⟩
  have G2 := Lib.hid (GA.out.trans hg)
  have A2 := Lib.hid (blk_grown hg (heap_alloc_new w _))
  have t1 := field_tk2 (.int .i64 kd) (.string tx) (.int .i64 ps) w2
  clear hg
  go_wp2_with fail
  refine (HA.out _ G2.out).mono ?_
  rintro e w3 ⟨rfl, hr⟩
  have hRw := HS.out.lt'
  have A3 := Lib.hid (hr.blk A2.out (by omega))
  have R3 := Lib.hid (show RdGo R b deep s.pass w w3 from ⟨hr.1, G2.out.trans' hr.2⟩)
  have Z3 := Lib.hid (show w.heap.size < w3.heap.size from Nat.lt_of_lt_of_le (Array.getElem?_eq_some_iff.1 A2.out).1 hr.2.size)
  clear hr t1
  go_wp2_with fail
  have R3b := R3.out.keep (World.grownBy_alloc w3 (.cells #[.int .i64 ag, .string ⟨#[]⟩, .int .i64 ps] 81) none)
  have R3c := Lib.hid R3b
  have A3b := Lib.hid (blk_grown (World.grownBy_alloc w3 (.cells #[.int .i64 ag, .string ⟨#[]⟩, .int .i64 ps] 81) none) A3.out)
  refine (HO.out _ _ R3b.1).mono ?_
  rintro e w4 ⟨rfl, hr⟩
  have hz3 := Z3.out
  have A4 := Lib.hid (hr.blk A3b.out (by omega))
  have B4 := hr.blk (heap_alloc_new w3 (.cells #[.int .i64 ag, .string ⟨#[]⟩, .int .i64 ps] 81)) (by omega)
  have R4 := Lib.hid (R3c.out.then hr)
  obtain ⟨⟨d0, d1, d2⟩, f0, f1, f2⟩ := three_of B4
  have HB4 := Lib.hid B4
  clear hr R3b B4 hz3
  go_wp2_with fail
  have HN1 := Lib.hid (HN.out _ _ R4.out.1)
  rw [Hnm.out] at HN1
  simp only at HN1
  refine HN1.out.mono ?_
  rintro e w6 ⟨rfl, hr⟩
  have hz3 := Z3.out
  have A6 := Lib.hid (hr.blk A4.out (by omega))
  have B6 := hr.blk HB4.out (by omega)
  have R6 := Lib.hid (R4.out.then hr)
  clear d0 d1 d2 f0 f1 f2
  obtain ⟨⟨d0, d1, d2⟩, f0, f1, f2⟩ := three_of B6
  have HB6 := Lib.hid B6
  clear hr B6 hz3
  go_wp2_with fail
  have hz3 := Z3.out
  have hz0 := HS.out.lt'
  have RS_ := Lib.hid (RdGo.stored HS.out R6.out (Nat.le_of_lt Z3.out) (grown_cellR w6 w3.heap.size 1 (.string n2)))
  have BS_ := Lib.hid (cell2 (u := .string n2) HB6.out)
  have AS_ := Lib.hid (blk_set (b := w3.heap.size) (i := 1) (u := .string n2) A6.out (by omega))
  refine (HZ.out _ _ RS_.out.1).mono ?_
  rintro e w9 ⟨rfl, hr⟩
  have A9 := hr.blk AS_.out (by omega)
  have B9 := hr.blk BS_.out (by omega)
  have R9 := Lib.hid (RS_.out.then hr)
  clear d0 d1 d2 f0 f1 f2
  obtain ⟨⟨a0, a1, a2⟩, b0, b1, b2⟩ := three_of A9
  obtain ⟨⟨d0, d1, d2⟩, f0, f1, f2⟩ := three_of B9
  have HA9 := Lib.hid A9
  clear hr A9 B9 hz3 hz0 hRw f0 f1 f2
  go_wp2_with fail
  exact bodyPost_ret (results_cell_row rfl _ _ w.heap.size 81 #[.int .i64 ag, .string n2, .int .i64 ps] (0, 0) _ rfl (set3 HA9.out) Tryz.underlying81 rfl (by kernel_rfl)) rfl ⟨rfl, RdGo.stored HS.out R9.out (Nat.le_refl _) (grown3 _ _ _ _ _)⟩
theorem pitem_any (R b deep : Nat) (s : RS) (w : World) (h : RdA R b deep s w) :
    Calls Tryz.prog 86 #[.pointer (some ⟨R, 0, none⟩)] w fun e w' => e = .returned (.agg (itemL s).2.c.toArray) ∧ RdGo R b deep (itemL s).1 w w' := by
  unfold itemL Itm.c
  dsimp only
  by_cases h0 : aggT s.hd.text = 0
  · rw [if_pos h0]
    exact pitem_plain R b deep s w h h0
  · rw [if_neg h0]
    by_cases h2 : aggT s.hd.text = 2
    · cases hst : (s.pass.need bOpen).comes bStar with
      | true =>
        rw [if_pos ⟨h2, rfl⟩]
        exact pitem_star R b deep s w h h2 hst
      | false =>
        rw [if_neg (by simp)]
        rw [h2]
        exact pitem_count R b deep s w h h2 hst
    · rw [if_neg (by simp [h2])]
      exact pitem_other R b deep s w h h0 h2
end Go.Proofs.YtppigamibgefaaaGreatDoor
namespace Go.Proofs.YtppigamibgefaaaGreatDoor
open Go.RowKit

theorem four_of {w : World} {b : Nat} {v0 v1 v2 v3 : Value} {T : TypeId} (h : w.heap[b]? = some (.cells #[v0, v1, v2, v3] T (0, 0))) : (w.cell? ⟨b, 0, none⟩ = some v0 ∧ w.cell? ⟨b, 1, none⟩ = some v1 ∧ w.cell? ⟨b, 2, none⟩ = some v2 ∧ w.cell? ⟨b, 3, none⟩ = some v3) ∧ w.frozen? ⟨b, 0, none⟩ = false ∧ w.frozen? ⟨b, 1, none⟩ = false ∧ w.frozen? ⟨b, 2, none⟩ = false ∧ w.frozen? ⟨b, 3, none⟩ = false := by
  have c0 := cell_of_row _ _ 0 _ _ _ h
  have c1 := cell_of_row _ _ 1 _ _ _ h
  have c2 := cell_of_row _ _ 2 _ _ _ h
  have c3 := cell_of_row _ _ 3 _ _ _ h
  simp at c0 c1 c2 c3
  exact ⟨⟨c0, c1, c2, c3⟩, frozen_of_row _ _ 0 _ _ h, frozen_of_row _ _ 1 _ _ h, frozen_of_row _ _ 2 _ _ h, frozen_of_row _ _ 3 _ _ h⟩
theorem set4 {w : World} {b : Nat} {v0 v1 v2 v3 u0 u1 u2 u3 : Value} {T : TypeId} (h : w.heap[b]? = some (.cells #[v0, v1, v2, v3] T (0, 0))) : ((((w.setCell ⟨b, 0, none⟩ u0).setCell ⟨b, 1, none⟩ u1).setCell ⟨b, 2, none⟩ u2).setCell ⟨b, 3, none⟩ u3).heap[b]? = some (.cells #[u0, u1, u2, u3] T (0, 0)) := by
  have h0 := heap_setCell_same _ _ 0 _ _ u0 h
  have h1 := heap_setCell_same _ _ 1 _ _ u1 h0
  have h2 := heap_setCell_same _ _ 2 _ _ u2 h1
  have h3 := heap_setCell_same _ _ 3 _ _ u3 h2
  simpa using h3
theorem grown4 (w : World) (b : Nat) (u0 u1 u2 u3 : Value) : w.grownBy ((((w.setCell ⟨b, 0, none⟩ u0).setCell ⟨b, 1, none⟩ u1).setCell ⟨b, 2, none⟩ u2).setCell ⟨b, 3, none⟩ u3) (some b) := grown_setX (grown3 w b u0 u1 u2) 3 u3
theorem cell4 {w : World} {b : Nat} {v0 v1 v2 v3 u : Value} {T : TypeId} (h : w.heap[b]? = some (.cells #[v0, v1, v2, v3] T (0, 0))) : (w.setCell ⟨b, 3, none⟩ u).heap[b]? = some (.cells #[v0, v1, v2, u] T (0, 0)) := by
  simpa using heap_setCell_same _ _ 3 _ _ u h
theorem keyL_cases (s : RS) : ((itemL s).1.comes bAsc = true ∧ keyL s = ((itemL s).1.pass, ⟨(itemL s).2, false⟩)) ∨ ((itemL s).1.comes bAsc = false ∧ (itemL s).1.comes bDesc = true ∧ keyL s = ((itemL s).1.pass, ⟨(itemL s).2, true⟩)) ∨ ((itemL s).1.comes bAsc = false ∧ (itemL s).1.comes bDesc = false ∧ keyL s = ((itemL s).1, ⟨(itemL s).2, false⟩)) := by
  unfold keyL
  dsimp only
  cases h1 : (itemL s).1.comes bAsc
  · cases h2 : (itemL s).1.comes bDesc
    · exact .inr (.inr ⟨rfl, rfl, by simp⟩)
    · exact .inr (.inl ⟨rfl, rfl, by simp⟩)
  · exact .inl ⟨rfl, by simp⟩
set_option maxRecDepth 100000 in
set_option maxHeartbeats 1600000 in
theorem pkey_any (R b deep : Nat) (s : RS) (w : World) (h : RdA R b deep s w) :
    Calls Tryz.prog 92 #[.pointer (some ⟨R, 0, none⟩)] w fun e w' => e = .returned (.agg (keyL s).2.c.toArray) ∧ RdGo R b deep (keyL s).1 w w' := by
  have HI := Lib.hid (fun W (hW : w.grownBy W none) => pitem_any R b deep s W (h.keep hW))
  have HS := Lib.hid h
  have HY := Lib.hid (fun t (ht : t ≠ ⟨#[]⟩) st (hc : st.comes t = true) W (hW : RdA R b deep st W) => took_yes R b deep st t W hW ht hc)
  have HX := Lib.hid (fun t (ht : t ≠ ⟨#[]⟩) st (hc : st.comes t = false) W (hW : RdA R b deep st W) => took_no R b deep st t W hW ht hc)
  unfold Kyo.c
  unfold Itm.c at HI
  rcases keyL_cases s with ⟨c1, e⟩ | ⟨c1, c2, e⟩ | ⟨c1, c2, e⟩
  all_goals
    rw [e]
    simp only
    generalize itemL s = it at *
    obtain ⟨s1, ag, co, po⟩ := it
    simp only at HI c1 ⊢
    clear h e
  · have H1 := Lib.hid (HY.out bAsc (by decide) s1 c1)
    clear HY HX c1
    go_enter Tryz.func92, Tryz.ntmps92
    have GA := Lib.hid (World.grownBy_alloc w (.cells #[.int .i64 0, .string ⟨#[]⟩, .int .i64 0, .bool false] 94) none)
    go_wp2_with fail
    refine (HI.out _ GA.out).mono ?_
    rintro e w2 ⟨rfl, hr⟩
    have hRw := HS.out.lt'
    have A2 := Lib.hid (hr.blk (heap_alloc_new w (.cells #[.int .i64 0, .string ⟨#[]⟩, .int .i64 0, .bool false] 94)) (by omega))
    have R2 := Lib.hid (show RdGo R b deep s1 w w2 from ⟨hr.1, GA.out.trans' hr.2⟩)
    have R3 := Lib.hid (R2.out.keep (World.grownBy_alloc w2 (.cells #[.int .i64 ag, .string co, .int .i64 po, .bool false] 94) none))
    have hz := (Array.getElem?_eq_some_iff.1 A2.out).1
    have A3 := Lib.hid (blk_grown (World.grownBy_alloc w2 (.cells #[.int .i64 ag, .string co, .int .i64 po, .bool false] 94) none) A2.out)
    clear hr
    go_wp2_with fail
    refine (H1.out _ R3.out.1).mono ?_
    rintro e w3 ⟨rfl, hr⟩
    have A4 := hr.blk A3.out (by omega)
    have B4 := hr.blk (heap_alloc_new w2 (.cells #[.int .i64 ag, .string co, .int .i64 po, .bool false] 94)) (by omega)
    have R4 := Lib.hid (R3.out.then hr)
    obtain ⟨⟨a0, a1, a2, a3⟩, b0, b1, b2, b3⟩ := four_of A4
    obtain ⟨⟨d0, d1, d2, d3⟩, _, _, _, _⟩ := four_of B4
    have HA4 := Lib.hid A4
    clear hr A4 B4 hRw hz
    go_wp2_with fail
    exact bodyPost_ret (results_cell_row rfl _ _ w.heap.size 94 #[.int .i64 ag, .string co, .int .i64 po, .bool false] (0, 0) _ rfl (set4 HA4.out) Tryz.underlying94 rfl (by kernel_rfl)) rfl ⟨rfl, RdGo.stored HS.out R4.out (Nat.le_refl _) (grown4 _ _ _ _ _ _)⟩
  · have H1 := Lib.hid (HX.out bAsc (by decide) s1 c1)
    have H2 := Lib.hid (HY.out bDesc (by decide) s1 c2)
    clear HY HX c1 c2
    go_enter Tryz.func92, Tryz.ntmps92
    have GA := Lib.hid (World.grownBy_alloc w (.cells #[.int .i64 0, .string ⟨#[]⟩, .int .i64 0, .bool false] 94) none)
    go_wp2_with fail
    refine (HI.out _ GA.out).mono ?_
    rintro e w2 ⟨rfl, hr⟩
    have hRw := HS.out.lt'
    have A2 := Lib.hid (hr.blk (heap_alloc_new w (.cells #[.int .i64 0, .string ⟨#[]⟩, .int .i64 0, .bool false] 94)) (by omega))
    have R2 := Lib.hid (show RdGo R b deep s1 w w2 from ⟨hr.1, GA.out.trans' hr.2⟩)
    have R3 := Lib.hid (R2.out.keep (World.grownBy_alloc w2 (.cells #[.int .i64 ag, .string co, .int .i64 po, .bool false] 94) none))
    have hz := (Array.getElem?_eq_some_iff.1 A2.out).1
    have A3 := Lib.hid (blk_grown (World.grownBy_alloc w2 (.cells #[.int .i64 ag, .string co, .int .i64 po, .bool false] 94) none) A2.out)
    clear hr
    go_wp2_with fail
    refine (H1.out _ R3.out.1).mono ?_
    rintro e w3 ⟨rfl, hr⟩
    have A4 := Lib.hid (hr.blk A3.out (by omega))
    have B4 := Lib.hid (hr.blk (heap_alloc_new w2 (.cells #[.int .i64 ag, .string co, .int .i64 po, .bool false] 94)) (by omega))
    have R4 := Lib.hid (R3.out.then hr)
    have Z := Lib.hid (And.intro hRw hz)
    clear hr hRw hz
    go_wp2_with fail
    refine (H2.out _ R4.out.1).mono ?_
    rintro e w4 ⟨rfl, hr⟩
    obtain ⟨hRw, hz⟩ := Z.out
    have A5 := Lib.hid (hr.blk A4.out (by omega))
    have B5 := hr.blk B4.out (by omega)
    have R5 := Lib.hid (R4.out.then hr)
    obtain ⟨⟨d0, d1, d2, d3⟩, f0, f1, f2, f3⟩ := four_of B5
    have HB5 := Lib.hid B5
    clear hr B5 hRw hz
    go_upto_region 4 with fail
    clear d0 d1 d2 d3 f0 f1 f2 f3
    have R6 := Lib.hid (RdGo.stored HS.out R5.out (g := w2.heap.size) (Nat.le_of_lt Z.out.2) (grown_cellR w4 w2.heap.size 3 (.bool true)))
    have hz := Z.out.2
    have A6 := blk_set (b := w2.heap.size) (i := 3) (u := .bool true) A5.out (by omega)
    have B6 := cell4 (u := .bool true) HB5.out
    generalize w4.setCell ⟨w2.heap.size, 3, none⟩ (.bool true) = w5 at *
    obtain ⟨⟨a0, a1, a2, a3⟩, b0, b1, b2, b3⟩ := four_of A6
    obtain ⟨⟨d0, d1, d2, d3⟩, _, _, _, _⟩ := four_of B6
    have HA6 := Lib.hid A6
    clear A6 B6 hz
    go_wp2_with fail
    exact bodyPost_ret (results_cell_row rfl _ _ w.heap.size 94 #[.int .i64 ag, .string co, .int .i64 po, .bool true] (0, 0) _ rfl (set4 HA6.out) Tryz.underlying94 rfl (by kernel_rfl)) rfl ⟨rfl, RdGo.stored HS.out R6.out (Nat.le_refl _) (grown4 _ _ _ _ _ _)⟩
  · have H1 := Lib.hid (HX.out bAsc (by decide) s1 c1)
    have H2 := Lib.hid (HX.out bDesc (by decide) s1 c2)
    clear HY HX c1 c2
    go_enter Tryz.func92, Tryz.ntmps92
    have GA := Lib.hid (World.grownBy_alloc w (.cells #[.int .i64 0, .string ⟨#[]⟩, .int .i64 0, .bool false] 94) none)
    go_wp2_with fail
    refine (HI.out _ GA.out).mono ?_
    rintro e w2 ⟨rfl, hr⟩
    have hRw := HS.out.lt'
    have A2 := Lib.hid (hr.blk (heap_alloc_new w (.cells #[.int .i64 0, .string ⟨#[]⟩, .int .i64 0, .bool false] 94)) (by omega))
    have R2 := Lib.hid (show RdGo R b deep s1 w w2 from ⟨hr.1, GA.out.trans' hr.2⟩)
    have R3 := Lib.hid (R2.out.keep (World.grownBy_alloc w2 (.cells #[.int .i64 ag, .string co, .int .i64 po, .bool false] 94) none))
    have hz := (Array.getElem?_eq_some_iff.1 A2.out).1
    have A3 := Lib.hid (blk_grown (World.grownBy_alloc w2 (.cells #[.int .i64 ag, .string co, .int .i64 po, .bool false] 94) none) A2.out)
    clear hr
    go_wp2_with fail
    refine (H1.out _ R3.out.1).mono ?_
    rintro e w3 ⟨rfl, hr⟩
    have A4 := Lib.hid (hr.blk A3.out (by omega))
    have B4 := Lib.hid (hr.blk (heap_alloc_new w2 (.cells #[.int .i64 ag, .string co, .int .i64 po, .bool false] 94)) (by omega))
    have R4 := Lib.hid (R3.out.then hr)
    have Z := Lib.hid (And.intro hRw hz)
    clear hr hRw hz
    go_wp2_with fail
    refine (H2.out _ R4.out.1).mono ?_
    rintro e w4 ⟨rfl, hr⟩
    obtain ⟨hRw, hz⟩ := Z.out
    have A5 := Lib.hid (hr.blk A4.out (by omega))
    have B5 := hr.blk B4.out (by omega)
    have R5 := Lib.hid (R4.out.then hr)
    obtain ⟨⟨d0, d1, d2, d3⟩, f0, f1, f2, f3⟩ := four_of B5
    have HB5 := Lib.hid B5
    clear hr B5 hRw hz
    go_upto_region 4 with fail
    clear d0 d1 d2 d3 f0 f1 f2 f3
    have R6 := Lib.hid (RdGo.stored HS.out R5.out (g := w2.heap.size) (Nat.le_of_lt Z.out.2) (grown_cellR w4 w2.heap.size 3 (.bool false)))
    have hz := Z.out.2
    have A6 := blk_set (b := w2.heap.size) (i := 3) (u := .bool false) A5.out (by omega)
    have B6 := cell4 (u := .bool false) HB5.out
    generalize w4.setCell ⟨w2.heap.size, 3, none⟩ (.bool false) = w5 at *
    obtain ⟨⟨a0, a1, a2, a3⟩, b0, b1, b2, b3⟩ := four_of A6
    obtain ⟨⟨d0, d1, d2, d3⟩, _, _, _, _⟩ := four_of B6
    have HA6 := Lib.hid A6
    clear A6 B6 hz
    go_wp2_with fail
    exact bodyPost_ret (results_cell_row rfl _ _ w.heap.size 94 #[.int .i64 ag, .string co, .int .i64 po, .bool false] (0, 0) _ rfl (set4 HA6.out) Tryz.underlying94 rfl (by kernel_rfl)) rfl ⟨rfl, RdGo.stored HS.out R6.out (Nat.le_refl _) (grown4 _ _ _ _ _ _)⟩
end Go.Proofs.YtppigamibgefaaaGreatDoor
namespace Go.Proofs.YtppigamibgefaaaGreatDoor
open Go.RowKit

set_option maxRecDepth 100000 in
set_option maxHeartbeats 1600000 in
theorem plimit_any (R b deep : Nat) (s : RS) (w : World) (h : RdA R b deep s w) :
    Calls Tryz.prog 93 #[.pointer (some ⟨R, 0, none⟩)] w fun e w' => e = .returned (.int .i64 (limitL s).2) ∧ RdGo R b deep (limitL s).1 w w' := by
  have HC := Lib.hid (comes_any R b deep s w h)
  have HR := Lib.hid (fun W (hW : w.grownBy W none) => Read_any s.hd.text W (h.sz _ h.hdm) (h.keep hW).far)
  obtain ⟨k, n, t, hv⟩ := readV_code s.hd.text.data.toList
  have hl := litV_of hv
  rw [hv] at HR
  have HS := Lib.hid h
  have HW := Lib.hid (fun c W (hW : w.grownBy W none) => wrong_any R b deep s c W (h.keep hW))
  unfold limitL
  dsimp only
  rw [hl]
  generalize readC s.hd.text.data.toList = rc at *
  by_cases hk : s.hd.kind = 2
  · rw [if_pos hk]
    have HP := Lib.hid (fun W (hW : w.grownBy W none) => pass_any R b deep s W (h.keep hW) (.inl (by rw [hk]; decide)))
    rw [hk, show ((2 : Nat) : Int) = 2 from rfl] at HC
    simp only
    generalize s.hd.text = tx at *
    generalize s.hd.pos = ps at *
    clear h hk hl hv
    by_cases hb : n < 0 ∨ 1000 < n
    · rw [if_pos hb]
      have hb1 : (decide (n < 0) || decide (1000 < n)) = true := by simpa using hb
      have HW1 := Lib.hid (HW.out 1)
      clear HW HP hb
      rcases Int.lt_or_le n 0 with hn | hn
      · go_enter Tryz.func93, Tryz.ntmps93
        go_wp2_with fail
        refine HC.out.mono ?_
        rintro e w2 ⟨rfl, hg⟩
        have G2 := Lib.hid (hg.trans (World.grownBy_alloc w2 (.cells #[.int .i64 2, .string tx, .int .i64 ps] 207) none))
        clear hg
        go_wp2_with fail
        refine (HR.out _ G2.out).mono ?_
        rintro e w3 ⟨rfl, hb3⟩
        have G3 := Lib.hid ((G2.out.trans (grown_belowT hb3 none)).trans (World.grownBy_alloc w3 (.cells #[.int .i64 k, .int .i64 n, .string t] 27) none))
        clear hb3
        go_wp2_with fail
        refine (HW1.out _ G3.out).mono ?_
        rintro e w4 ⟨rfl, hr⟩
        go_wp2_with fail
        go_ret
        exact ⟨rfl, hr.1, G3.out.trans' hr.2⟩
      · have hn2 : 1000 < n := by
          simp only [Bool.or_eq_true, decide_eq_true_eq] at hb1
          omega
        go_enter Tryz.func93, Tryz.ntmps93
        go_wp2_with fail
        refine HC.out.mono ?_
        rintro e w2 ⟨rfl, hg⟩
        have G2 := Lib.hid (hg.trans (World.grownBy_alloc w2 (.cells #[.int .i64 2, .string tx, .int .i64 ps] 207) none))
        clear hg
        go_wp2_with fail
        refine (HR.out _ G2.out).mono ?_
        rintro e w3 ⟨rfl, hb3⟩
        have G3 := Lib.hid ((G2.out.trans (grown_belowT hb3 none)).trans (World.grownBy_alloc w3 (.cells #[.int .i64 k, .int .i64 n, .string t] 27) none))
        clear hb3
        go_wp2_with fail
        refine (HW1.out _ G3.out).mono ?_
        rintro e w4 ⟨rfl, hr⟩
        go_wp2_with fail
        go_ret
        exact ⟨rfl, hr.1, G3.out.trans' hr.2⟩
    · rw [if_neg hb]
      have hn : 0 ≤ n := by omega
      have hn2 : n ≤ 1000 := by omega
      clear HW hb
      go_enter Tryz.func93, Tryz.ntmps93
      go_wp2_with fail
      refine HC.out.mono ?_
      rintro e w2 ⟨rfl, hg⟩
      have G2 := Lib.hid (hg.trans (World.grownBy_alloc w2 (.cells #[.int .i64 2, .string tx, .int .i64 ps] 207) none))
      clear hg
      go_wp2_with fail
      refine (HR.out _ G2.out).mono ?_
      rintro e w3 ⟨rfl, hb3⟩
      have G3 := Lib.hid ((G2.out.trans (grown_belowT hb3 none)).trans (World.grownBy_alloc w3 (.cells #[.int .i64 k, .int .i64 n, .string t] 27) none))
      have hlt : R < w3.heap.size := Nat.lt_of_lt_of_le HS.out.lt' (Nat.le_trans G2.out.size hb3.size)
      clear hb3
      go_wp2_with fail
      refine (HP.out _ G3.out).mono ?_
      rintro e w4 ⟨rfl, hr⟩
      have B4 := hr.blk (heap_alloc_new w3 (.cells #[.int .i64 k, .int .i64 n, .string t] 27)) (by omega)
      obtain ⟨⟨d0, d1, d2⟩, _, _, _⟩ := three_of B4
      have R4 := Lib.hid hr
      clear hr B4
      go_wp2_with fail
      go_ret
      exact ⟨rfl, R4.out.1, G3.out.trans' R4.out.2⟩
  · rw [if_neg hk]
    have HW1 := Lib.hid (HW.out 11)
    generalize s.hd.text = tx at *
    generalize s.hd.pos = ps at *
    generalize s.hd.kind = kd at *
    have hkd : ((kd : Int) != 2) = true := by simp; omega
    clear h hl hv HW
    go_enter Tryz.func93, Tryz.ntmps93
    go_wp2_with fail
    refine HC.out.mono ?_
    rintro e w2 ⟨rfl, hg⟩
    have G2 := Lib.hid (hg.trans (World.grownBy_alloc w2 (.cells #[.int .i64 kd, .string tx, .int .i64 ps] 207) none))
    clear hg
    go_wp2_with fail
    refine (HW1.out _ G2.out).mono ?_
    rintro e w4 ⟨rfl, hr⟩
    go_wp2_with fail
    go_ret
    exact ⟨rfl, hr.1, G2.out.trans' hr.2⟩
end Go.Proofs.YtppigamibgefaaaGreatDoor
