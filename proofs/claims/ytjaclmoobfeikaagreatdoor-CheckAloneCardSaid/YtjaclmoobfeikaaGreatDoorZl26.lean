/- The reader's keys and limit. The reader's limit. The reader's predicates: not, truth. -/
import Derived.Test.YtjaclmoobfeikaaGreatDoorZl25
import Derived.Laws.Tables
import Derived.Laws.Rows
namespace Go.Proofs.YtjaclmoobfeikaaGreatDoor
open Go.RowKit

theorem four_of {w : World} {b : Nat} {v0 v1 v2 v3 : Value} {T : TypeId} (h : w.heap[b]? = some (.cells #[v0, v1, v2, v3] T (0, 0))) : (w.cell? ⟨b, 0, none⟩ = some v0 ∧ w.cell? ⟨b, 1, none⟩ = some v1 ∧ w.cell? ⟨b, 2, none⟩ = some v2 ∧ w.cell? ⟨b, 3, none⟩ = some v3) ∧ w.frozen? ⟨b, 0, none⟩ = false ∧ w.frozen? ⟨b, 1, none⟩ = false ∧ w.frozen? ⟨b, 2, none⟩ = false ∧ w.frozen? ⟨b, 3, none⟩ = false := by
  have c0 := cell_of_row _ _ 0 _ _ _ h
  have c1 := cell_of_row _ _ 1 _ _ _ h
  have c2 := cell_of_row _ _ 2 _ _ _ h
  have c3 := cell_of_row _ _ 3 _ _ _ h
  simp at c0 c1 c2 c3
  exact ⟨⟨c0, c1, c2, c3⟩, frozen_of_row _ _ 0 _ _ h, frozen_of_row _ _ 1 _ _ h, frozen_of_row _ _ 2 _ _ h, frozen_of_row _ _ 3 _ _ h⟩
theorem set4 {w : World} {b : Nat} {v0 v1 v2 v3 u0 u1 u2 u3 : Value} {T : TypeId} (h : w.heap[b]? = some (.cells #[v0, v1, v2, v3] T (0, 0))) : ((((w.setCell ⟨b, 0, none⟩ u0).setCell ⟨b, 1, none⟩ u1).setCell ⟨b, 2, none⟩ u2).setCell ⟨b, 3, none⟩ u3).heap[b]? = some (.cells #[u0, u1, u2, u3] T (0, 0)) := by
  have h0 := heap_setCell_same _ _ 0 _ _ u0 h
  have h1 := heap_setCell_same _ _ 1 _ _ u1 h0
  have h2 := heap_setCell_same _ _ 2 _ _ u2 h1
  have h3 := heap_setCell_same _ _ 3 _ _ u3 h2
  simpa using h3
theorem grown4 (w : World) (b : Nat) (u0 u1 u2 u3 : Value) : w.grownBy ((((w.setCell ⟨b, 0, none⟩ u0).setCell ⟨b, 1, none⟩ u1).setCell ⟨b, 2, none⟩ u2).setCell ⟨b, 3, none⟩ u3) (some b) := grown_setX (grown3 w b u0 u1 u2) 3 u3
theorem cell4 {w : World} {b : Nat} {v0 v1 v2 v3 u : Value} {T : TypeId} (h : w.heap[b]? = some (.cells #[v0, v1, v2, v3] T (0, 0))) : (w.setCell ⟨b, 3, none⟩ u).heap[b]? = some (.cells #[v0, v1, v2, u] T (0, 0)) := by
  simpa using heap_setCell_same _ _ 3 _ _ u h
theorem keyL_cases (s : RS) : ((itemL s).1.comes bAsc = true ∧ keyL s = ((itemL s).1.pass, ⟨(itemL s).2, false⟩)) ∨ ((itemL s).1.comes bAsc = false ∧ (itemL s).1.comes bDesc = true ∧ keyL s = ((itemL s).1.pass, ⟨(itemL s).2, true⟩)) ∨ ((itemL s).1.comes bAsc = false ∧ (itemL s).1.comes bDesc = false ∧ keyL s = ((itemL s).1, ⟨(itemL s).2, false⟩)) := by
  unfold keyL
  dsimp only
  cases h1 : (itemL s).1.comes bAsc
  · cases h2 : (itemL s).1.comes bDesc
    · exact .inr (.inr ⟨rfl, rfl, by simp⟩)
    · exact .inr (.inl ⟨rfl, rfl, by simp⟩)
  · exact .inl ⟨rfl, by simp⟩
set_option maxRecDepth 100000 in
set_option maxHeartbeats 1600000 in
theorem pkey_any (R b deep : Nat) (s : RS) (w : World) (h : RdA R b deep s w) :
    Calls Tryz.prog 61 #[.pointer (some ⟨R, 0, none⟩)] w fun e w' => e = .returned (.agg (keyL s).2.c.toArray) ∧ RdGo R b deep (keyL s).1 w w' := by
  have HI := Lib.hid (fun W (hW : w.grownBy W none) => pitem_any R b deep s W (h.keep hW))
  have HS := Lib.hid h
  have HY := Lib.hid (fun t (ht : t ≠ ⟨#[]⟩) st (hc : st.comes t = true) W (hW : RdA R b deep st W) => took_yes R b deep st t W hW ht hc)
  have HX := Lib.hid (fun t (ht : t ≠ ⟨#[]⟩) st (hc : st.comes t = false) W (hW : RdA R b deep st W) => took_no R b deep st t W hW ht hc)
  unfold Kyo.c
  unfold Itm.c at HI
  rcases keyL_cases s with ⟨c1, e⟩ | ⟨c1, c2, e⟩ | ⟨c1, c2, e⟩
  all_goals
    rw [e]
    simp only
    generalize itemL s = it at *
    obtain ⟨s1, ag, co, po⟩ := it
    simp only at HI c1 ⊢
    clear h e
  · have H1 := Lib.hid (HY.out bAsc (by decide) s1 c1)
    clear HY HX c1
    go_enter Tryz.func61, Tryz.ntmps61
    have GA := Lib.hid (World.grownBy_alloc w (.cells #[.int .i64 0, .string ⟨#[]⟩, .int .i64 0, .bool false] 67) none)
    go_wp2_with fail
    refine (HI.out _ GA.out).mono ?_
    rintro e w2 ⟨rfl, hr⟩
    have hRw := HS.out.lt'
    have A2 := Lib.hid (hr.blk (heap_alloc_new w (.cells #[.int .i64 0, .string ⟨#[]⟩, .int .i64 0, .bool false] 67)) (by omega))
    have R2 := Lib.hid (show RdGo R b deep s1 w w2 from ⟨hr.1, GA.out.trans' hr.2⟩)
    have R3 := Lib.hid (R2.out.keep (World.grownBy_alloc w2 (.cells #[.int .i64 ag, .string co, .int .i64 po, .bool false] 67) none))
    have hz := (Array.getElem?_eq_some_iff.1 A2.out).1
    have A3 := Lib.hid (blk_grown (World.grownBy_alloc w2 (.cells #[.int .i64 ag, .string co, .int .i64 po, .bool false] 67) none) A2.out)
    clear hr
    go_wp2_with fail
    refine (H1.out _ R3.out.1).mono ?_
    rintro e w3 ⟨rfl, hr⟩
    have A4 := hr.blk A3.out (by omega)
    have B4 := hr.blk (heap_alloc_new w2 (.cells #[.int .i64 ag, .string co, .int .i64 po, .bool false] 67)) (by omega)
    have R4 := Lib.hid (R3.out.then hr)
    obtain ⟨⟨a0, a1, a2, a3⟩, b0, b1, b2, b3⟩ := four_of A4
    obtain ⟨⟨d0, d1, d2, d3⟩, _, _, _, _⟩ := four_of B4
    have HA4 := Lib.hid A4
    clear hr A4 B4 hRw hz
    go_wp2_with fail
    exact bodyPost_ret (results_cell_row rfl _ _ w.heap.size 67 #[.int .i64 ag, .string co, .int .i64 po, .bool false] (0, 0) _ rfl (set4 HA4.out) Tryz.underlying67 rfl (by kernel_rfl)) rfl ⟨rfl, RdGo.stored HS.out R4.out (Nat.le_refl _) (grown4 _ _ _ _ _ _)⟩
  · have H1 := Lib.hid (HX.out bAsc (by decide) s1 c1)
    have H2 := Lib.hid (HY.out bDesc (by decide) s1 c2)
    clear HY HX c1 c2
    go_enter Tryz.func61, Tryz.ntmps61
    have GA := Lib.hid (World.grownBy_alloc w (.cells #[.int .i64 0, .string ⟨#[]⟩, .int .i64 0, .bool false] 67) none)
    go_wp2_with fail
    refine (HI.out _ GA.out).mono ?_
    rintro e w2 ⟨rfl, hr⟩
    have hRw := HS.out.lt'
    have A2 := Lib.hid (hr.blk (heap_alloc_new w (.cells #[.int .i64 0, .string ⟨#[]⟩, .int .i64 0, .bool false] 67)) (by omega))
    have R2 := Lib.hid (show RdGo R b deep s1 w w2 from ⟨hr.1, GA.out.trans' hr.2⟩)
    have R3 := Lib.hid (R2.out.keep (World.grownBy_alloc w2 (.cells #[.int .i64 ag, .string co, .int .i64 po, .bool false] 67) none))
    have hz := (Array.getElem?_eq_some_iff.1 A2.out).1
    have A3 := Lib.hid (blk_grown (World.grownBy_alloc w2 (.cells #[.int .i64 ag, .string co, .int .i64 po, .bool false] 67) none) A2.out)
    clear hr
    go_wp2_with fail
    refine (H1.out _ R3.out.1).mono ?_
    rintro e w3 ⟨rfl, hr⟩
    have A4 := Lib.hid (hr.blk A3.out (by omega))
    have B4 := Lib.hid (hr.blk (heap_alloc_new w2 (.cells #[.int .i64 ag, .string co, .int .i64 po, .bool false] 67)) (by omega))
    have R4 := Lib.hid (R3.out.then hr)
    have Z := Lib.hid (And.intro hRw hz)
    clear hr hRw hz
    go_wp2_with fail
    refine (H2.out _ R4.out.1).mono ?_
    rintro e w4 ⟨rfl, hr⟩
    obtain ⟨hRw, hz⟩ := Z.out
    have A5 := Lib.hid (hr.blk A4.out (by omega))
    have B5 := hr.blk B4.out (by omega)
    have R5 := Lib.hid (R4.out.then hr)
    obtain ⟨⟨d0, d1, d2, d3⟩, f0, f1, f2, f3⟩ := four_of B5
    have HB5 := Lib.hid B5
    clear hr B5 hRw hz
    go_upto_region 4 with fail
    clear d0 d1 d2 d3 f0 f1 f2 f3
    have R6 := Lib.hid (RdGo.stored HS.out R5.out (g := w2.heap.size) (Nat.le_of_lt Z.out.2) (grown_cellR w4 w2.heap.size 3 (.bool true)))
    have hz := Z.out.2
    have A6 := blk_set (b := w2.heap.size) (i := 3) (u := .bool true) A5.out (by omega)
    have B6 := cell4 (u := .bool true) HB5.out
    generalize w4.setCell ⟨w2.heap.size, 3, none⟩ (.bool true) = w5 at *
    obtain ⟨⟨a0, a1, a2, a3⟩, b0, b1, b2, b3⟩ := four_of A6
    obtain ⟨⟨d0, d1, d2, d3⟩, _, _, _, _⟩ := four_of B6
    have HA6 := Lib.hid A6
    clear A6 B6 hz
    go_wp2_with fail
    exact bodyPost_ret (results_cell_row rfl _ _ w.heap.size 67 #[.int .i64 ag, .string co, .int .i64 po, .bool true] (0, 0) _ rfl (set4 HA6.out) Tryz.underlying67 rfl (by kernel_rfl)) rfl ⟨rfl, RdGo.stored HS.out R6.out (Nat.le_refl _) (grown4 _ _ _ _ _ _)⟩
  · have H1 := Lib.hid (HX.out bAsc (by decide) s1 c1)
    have H2 := Lib.hid (HX.out bDesc (by decide) s1 c2)
    clear HY HX c1 c2
    go_enter Tryz.func61, Tryz.ntmps61
    have GA := Lib.hid (World.grownBy_alloc w (.cells #[.int .i64 0, .string ⟨#[]⟩, .int .i64 0, .bool false] 67) none)
    go_wp2_with fail
    refine (HI.out _ GA.out).mono ?_
    rintro e w2 ⟨rfl, hr⟩
    have hRw := HS.out.lt'
    have A2 := Lib.hid (hr.blk (heap_alloc_new w (.cells #[.int .i64 0, .string ⟨#[]⟩, .int .i64 0, .bool false] 67)) (by omega))
    have R2 := Lib.hid (show RdGo R b deep s1 w w2 from ⟨hr.1, GA.out.trans' hr.2⟩)
    have R3 := Lib.hid (R2.out.keep (World.grownBy_alloc w2 (.cells #[.int .i64 ag, .string co, .int .i64 po, .bool false] 67) none))
    have hz := (Array.getElem?_eq_some_iff.1 A2.out).1
    have A3 := Lib.hid (blk_grown (World.grownBy_alloc w2 (.cells #[.int .i64 ag, .string co, .int .i64 po, .bool false] 67) none) A2.out)
    clear hr
    go_wp2_with fail
    refine (H1.out _ R3.out.1).mono ?_
    rintro e w3 ⟨rfl, hr⟩
    have A4 := Lib.hid (hr.blk A3.out (by omega))
    have B4 := Lib.hid (hr.blk (heap_alloc_new w2 (.cells #[.int .i64 ag, .string co, .int .i64 po, .bool false] 67)) (by omega))
    have R4 := Lib.hid (R3.out.then hr)
    have Z := Lib.hid (And.intro hRw hz)
    clear hr hRw hz
    go_wp2_with fail
    refine (H2.out _ R4.out.1).mono ?_
    rintro e w4 ⟨rfl, hr⟩
    obtain ⟨hRw, hz⟩ := Z.out
    have A5 := Lib.hid (hr.blk A4.out (by omega))
    have B5 := hr.blk B4.out (by omega)
    have R5 := Lib.hid (R4.out.then hr)
    obtain ⟨⟨d0, d1, d2, d3⟩, f0, f1, f2, f3⟩ := four_of B5
    have HB5 := Lib.hid B5
    clear hr B5 hRw hz
    go_upto_region 4 with fail
    clear d0 d1 d2 d3 f0 f1 f2 f3
    have R6 := Lib.hid (RdGo.stored HS.out R5.out (g := w2.heap.size) (Nat.le_of_lt Z.out.2) (grown_cellR w4 w2.heap.size 3 (.bool false)))
    have hz := Z.out.2
    have A6 := blk_set (b := w2.heap.size) (i := 3) (u := .bool false) A5.out (by omega)
    have B6 := cell4 (u := .bool false) HB5.out
    generalize w4.setCell ⟨w2.heap.size, 3, none⟩ (.bool false) = w5 at *
    obtain ⟨⟨a0, a1, a2, a3⟩, b0, b1, b2, b3⟩ := four_of A6
    obtain ⟨⟨d0, d1, d2, d3⟩, _, _, _, _⟩ := four_of B6
    have HA6 := Lib.hid A6
    clear A6 B6 hz
    go_wp2_with fail
    exact bodyPost_ret (results_cell_row rfl _ _ w.heap.size 67 #[.int .i64 ag, .string co, .int .i64 po, .bool false] (0, 0) _ rfl (set4 HA6.out) Tryz.underlying67 rfl (by kernel_rfl)) rfl ⟨rfl, RdGo.stored HS.out R6.out (Nat.le_refl _) (grown4 _ _ _ _ _ _)⟩
end Go.Proofs.YtjaclmoobfeikaaGreatDoor
namespace Go.Proofs.YtjaclmoobfeikaaGreatDoor
open Go.RowKit

set_option maxRecDepth 100000 in
set_option maxHeartbeats 1600000 in
theorem plimit_any (R b deep : Nat) (s : RS) (w : World) (h : RdA R b deep s w) :
    Calls Tryz.prog 62 #[.pointer (some ⟨R, 0, none⟩)] w fun e w' => e = .returned (.int .i64 (limitL s).2) ∧ RdGo R b deep (limitL s).1 w w' := by
  have HC := Lib.hid (comes_any R b deep s w h)
  have HR := Lib.hid (fun W (hW : w.grownBy W none) => Read_any s.hd.text W (h.sz _ h.hdm) (h.keep hW).far)
  obtain ⟨k, n, t, hv⟩ := readV_code s.hd.text.data.toList
  have hl := litV_of hv
  rw [hv] at HR
  have HS := Lib.hid h
  have HW := Lib.hid (fun c W (hW : w.grownBy W none) => wrong_any R b deep s c W (h.keep hW))
  unfold limitL
  dsimp only
  rw [hl]
  generalize readC s.hd.text.data.toList = rc at *
  by_cases hk : s.hd.kind = 2
  · rw [if_pos hk]
    have HP := Lib.hid (fun W (hW : w.grownBy W none) => pass_any R b deep s W (h.keep hW) (.inl (by rw [hk]; decide)))
    rw [hk, show ((2 : Nat) : Int) = 2 from rfl] at HC
    simp only
    generalize s.hd.text = tx at *
    generalize s.hd.pos = ps at *
    clear h hk hl hv
    by_cases hb : n < 0 ∨ 1000 < n
    · rw [if_pos hb]
      have hb1 : (decide (n < 0) || decide (1000 < n)) = true := by simpa using hb
      have HW1 := Lib.hid (HW.out 1)
      clear HW HP hb
      rcases Int.lt_or_le n 0 with hn | hn
      · go_enter Tryz.func62, Tryz.ntmps62
        go_wp2_with fail
        refine HC.out.mono ?_
        rintro e w2 ⟨rfl, hg⟩
        have G2 := Lib.hid (hg.trans (World.grownBy_alloc w2 (.cells #[.int .i64 2, .string tx, .int .i64 ps] 174) none))
        clear hg
        go_wp2_with fail
        refine (HR.out _ G2.out).mono ?_
        rintro e w3 ⟨rfl, hb3⟩
        have G3 := Lib.hid ((G2.out.trans (grown_belowT hb3 none)).trans (World.grownBy_alloc w3 (.cells #[.int .i64 k, .int .i64 n, .string t] 29) none))
        clear hb3
        go_wp2_with fail
        refine (HW1.out _ G3.out).mono ?_
        rintro e w4 ⟨rfl, hr⟩
        go_wp2_with fail
        go_ret
        exact ⟨rfl, hr.1, G3.out.trans' hr.2⟩
      · have hn2 : 1000 < n := by
          simp only [Bool.or_eq_true, decide_eq_true_eq] at hb1
          omega
        go_enter Tryz.func62, Tryz.ntmps62
        go_wp2_with fail
        refine HC.out.mono ?_
        rintro e w2 ⟨rfl, hg⟩
        have G2 := Lib.hid (hg.trans (World.grownBy_alloc w2 (.cells #[.int .i64 2, .string tx, .int .i64 ps] 174) none))
        clear hg
        go_wp2_with fail
        refine (HR.out _ G2.out).mono ?_
        rintro e w3 ⟨rfl, hb3⟩
        have G3 := Lib.hid ((G2.out.trans (grown_belowT hb3 none)).trans (World.grownBy_alloc w3 (.cells #[.int .i64 k, .int .i64 n, .string t] 29) none))
        clear hb3
        go_wp2_with fail
        refine (HW1.out _ G3.out).mono ?_
        rintro e w4 ⟨rfl, hr⟩
        go_wp2_with fail
        go_ret
        exact ⟨rfl, hr.1, G3.out.trans' hr.2⟩
    · rw [if_neg hb]
      have hn : 0 ≤ n := by omega
      have hn2 : n ≤ 1000 := by omega
      clear HW hb
      go_enter Tryz.func62, Tryz.ntmps62
      go_wp2_with fail
      refine HC.out.mono ?_
      rintro e w2 ⟨rfl, hg⟩
      have G2 := Lib.hid (hg.trans (World.grownBy_alloc w2 (.cells #[.int .i64 2, .string tx, .int .i64 ps] 174) none))
      clear hg
      go_wp2_with fail
      refine (HR.out _ G2.out).mono ?_
      rintro e w3 ⟨rfl, hb3⟩
      have G3 := Lib.hid ((G2.out.trans (grown_belowT hb3 none)).trans (World.grownBy_alloc w3 (.cells #[.int .i64 k, .int .i64 n, .string t] 29) none))
      have hlt : R < w3.heap.size := Nat.lt_of_lt_of_le HS.out.lt' (Nat.le_trans G2.out.size hb3.size)
      clear hb3
      go_wp2_with fail
      refine (HP.out _ G3.out).mono ?_
      rintro e w4 ⟨rfl, hr⟩
      have B4 := hr.blk (heap_alloc_new w3 (.cells #[.int .i64 k, .int .i64 n, .string t] 29)) (by omega)
      obtain ⟨⟨d0, d1, d2⟩, _, _, _⟩ := three_of B4
      have R4 := Lib.hid hr
      clear hr B4
      go_wp2_with fail
      go_ret
      exact ⟨rfl, R4.out.1, G3.out.trans' R4.out.2⟩
  · rw [if_neg hk]
    have HW1 := Lib.hid (HW.out 11)
    generalize s.hd.text = tx at *
    generalize s.hd.pos = ps at *
    generalize s.hd.kind = kd at *
    have hkd : ((kd : Int) != 2) = true := by simp; omega
    clear h hl hv HW
    go_enter Tryz.func62, Tryz.ntmps62
    go_wp2_with fail
    refine HC.out.mono ?_
    rintro e w2 ⟨rfl, hg⟩
    have G2 := Lib.hid (hg.trans (World.grownBy_alloc w2 (.cells #[.int .i64 kd, .string tx, .int .i64 ps] 174) none))
    clear hg
    go_wp2_with fail
    refine (HW1.out _ G2.out).mono ?_
    rintro e w4 ⟨rfl, hr⟩
    go_wp2_with fail
    go_ret
    exact ⟨rfl, hr.1, G2.out.trans' hr.2⟩
end Go.Proofs.YtjaclmoobfeikaaGreatDoor
namespace Go.Proofs.YtjaclmoobfeikaaGreatDoor
open Go.RowKit

theorem pred_size : (Tryz.prog.info? 33).map (·.size) = some 10 := by kernel_rfl
theorem Pm.c_size (x : Pm) : x.c.toArray.size = 10 := by simp [Pm.c_len]
theorem Pm.c_all (x : Pm) : x.c.toArray.all (·.oneCell') = true := all_oneCell_toArray x.c_one
/-- What a function that reads a predicate answers. -/
def PrGo (R b deep : Nat) (r : RS × Prd) (w : World) (e : Ending) (w' : World) : Prop := ∃ x : Pm, e = .returned x.v ∧ x.e = r.2 ∧ PmS (fun j => w.heap.size ≤ j) w' x ∧ RdGo R b deep r.1 w w'
theorem PmS.row {B g : Nat} {w w' : World} {x : Pm} (h : PmS (fun j => B ≤ j) w x) (hg : w.grownBy w' (some g)) (hlt : g < B) : PmS (fun j => B ≤ j) w' x :=
  h.keep ⟨hg.size, fun b hb hlt' => hg.block b hlt' (by simp; omega)⟩
theorem PmS.low {B B' : Nat} {w : World} {x : Pm} (h : PmS (fun j => B ≤ j) w x) (hb : B' ≤ B) : PmS (fun j => B' ≤ j) w x := h.mono (fun _ _ h => Nat.le_trans hb h)
theorem ten {cs : Array Value} (h : cs.size = 10) : #[cs[0], cs[1], cs[2], cs[3], cs[4], cs[5], cs[6], cs[7], cs[8], cs[9]] = cs := by
  apply Array.ext
  · simp [h]
  · intro i h1 h2
    have : i = 0 ∨ i = 1 ∨ i = 2 ∨ i = 3 ∨ i = 4 ∨ i = 5 ∨ i = 6 ∨ i = 7 ∨ i = 8 ∨ i = 9 := by omega
    rcases this with rfl | rfl | rfl | rfl | rfl | rfl | rfl | rfl | rfl | rfl <;> rfl
theorem flat_one (x : Pm) : [x].flatMap Pm.c = x.c := by simp
/-- One in a block of its own. -/
theorem one_cells {S : Nat → Prop} {w : World} {g : Nat} {x : Pm} {T : TypeId} (h : w.heap[g]? = some (.cells x.c.toArray T (0, 0))) (hS : S g) : CellsS S w (some ⟨g, 0, Option.none⟩) ([x].flatMap Pm.c) := by
  refine .inr ⟨g, 0, rfl, hS, (Array.getElem?_eq_some_iff.1 h).1, fun j u hj => ?_⟩
  rw [flat_one] at hj
  rw [Nat.zero_add, cell_of_row _ _ j _ _ _ h]
  simpa using hj
theorem results_pm {fn : Func} {p : Tmp} (h : fn.results = #[.cell p 33]) (tmps : Array Value) (w : World) (g : Nat) (y : Pm) (hp : tmps.getD p undef = .pointer (some ⟨g, 0, Option.none⟩)) (hg : w.heap[g]? = some (.cells y.c.toArray 33 (0, 0))) :
    (results fn tmps).run Tryz.prog w = .ok y.v w := results_cell_row h tmps w g _ _ _ _ hp hg Tryz.underlying33 rfl (by rw [Pm.c_size]; exact pred_size)
set_option maxRecDepth 100000 in
theorem pnot_any (B : Nat) (x : Pm) (pos : Nat) (w : World) (hx : PmS (fun j => B ≤ j) w x) (hB : B ≤ w.heap.size) :
    Calls Tryz.prog 144 #[x.v, .int .i64 pos] w fun e w' => (∃ y : Pm, e = .returned y.v ∧ y.e = notP x.e pos ∧ PmS (fun j => B ≤ j) w' y) ∧ w.grownBy w' none := by
  have HX := Lib.hid (And.intro hx hB)
  have h1 := x.c_size
  have h2 := x.c_all
  unfold Pm.v
  generalize hcs : x.c.toArray = cs at *
  have Hcs := Lib.hid hcs
  clear hcs hx hB
  go_enter Tryz.func144, Tryz.ntmps144
  go_wp2_with fail
  rw [ten h1]
  obtain ⟨y, hy⟩ : ∃ y : Pm, y = .mk 10 ⟨#[]⟩ 0 ⟨0, 0, ⟨#[]⟩⟩ ⟨#[]⟩ Option.none 0 [] (some ⟨w.heap.size + 1 + 1, 0, Option.none⟩) 1 [x] pos := ⟨_, rfl⟩
  have hyc : #[Value.int .i64 10, .string ⟨#[]⟩, .int .i64 0, .int .i64 0, .int .i64 0, .string ⟨#[]⟩, .string ⟨#[]⟩, .slice Option.none 0 0, .slice (some ⟨w.heap.size + 1 + 1, 0, Option.none⟩) 1 1, .int .i64 pos] = y.c.toArray := by rw [hy]; rfl
  rw [hyc]
  have g1 := World.grownBy_alloc w (.cells cs 33) none
  have g2 := g1.trans (World.grownBy_alloc _ (.cells y.c.toArray 33) none)
  have g3 := g2.trans (World.grownBy_alloc _ (.cells cs 33) none)
  have s1 : (w.alloc (.cells cs 33)).heap.size = w.heap.size + 1 := by simp
  have s2 : ((w.alloc (.cells cs 33)).alloc (.cells y.c.toArray 33)).heap.size = w.heap.size + 1 + 1 := by simp
  have b2 := heap_alloc_new (w.alloc (.cells cs 33)) (.cells y.c.toArray 33)
  have b3 := heap_alloc_new ((w.alloc (.cells cs 33)).alloc (.cells y.c.toArray 33)) (.cells cs 33)
  rw [s1] at b2
  rw [s2] at b3
  have b2' := blk_grown (World.grownBy_alloc _ (.cells cs 33) none) b2
  generalize ((w.alloc (.cells cs 33)).alloc (.cells y.c.toArray 33)).alloc (.cells cs 33) = wf at *
  refine bodyPost_ret (results_pm rfl _ _ (w.heap.size + 1) y rfl b2') rfl ⟨⟨y, rfl, by rw [hy]; rfl, ?_⟩, g3⟩
  rw [hy]
  refine ⟨RwS.nil _ _ _, Nat.le_refl _, one_cells (T := 33) (x := x) (by rw [Hcs.out]; exact b3) (by have := HX.out.2; omega), Nat.le_refl _, ?_, trivial⟩
  exact HX.out.1.keep (.of g3)
theorem grown_setRow (w : World) (g : Nat) (cs : Array Value) : w.grownBy (w.setRow g cs) (some g) := ⟨rfl, rfl, rfl, by simp, fun k _ hk => setRow_other w g k cs (fun e => hk (by rw [e]))⟩
/-- A predicate that isn't there yet. -/
def z10 : Array Value := #[.int .i64 0, .string ⟨#[]⟩, .int .i64 0, .int .i64 0, .int .i64 0, .string ⟨#[]⟩, .string ⟨#[]⟩, .slice Option.none 0 0, .slice Option.none 0 0, .int .i64 0]
/-- What is answered: the result's block holds it. -/
theorem PrGo.ret {R b deep : Nat} {s0 : RS} {r : RS × Prd} {w W : World} {g : Nat} {old : Array Value} (h0 : RdA R b deep s0 w) (y : Pm) (hy : y.e = r.2) (hS : PmS (fun j => w.heap.size ≤ j ∧ j ≠ g) W y) (hR : RdGo R b deep r.1 w W) (hg : w.heap.size ≤ g) (hb : W.heap[g]? = some (.cells old 33 (0, 0))) :
    PrGo R b deep r w (.returned y.v) (W.setRow g y.c.toArray) ∧ (W.setRow g y.c.toArray).heap[g]? = some (.cells y.c.toArray 33 (0, 0)) :=
  ⟨⟨y, rfl, hy, (hS.keep ⟨by simp, fun b' hb' _ => setRow_other W g b' _ hb'.2⟩).mono (fun _ _ h => h.1), RdGo.stored h0 hR hg (grown_setRow W g _)⟩, setRow_heap W g old _ _ _ hb⟩
set_option maxRecDepth 100000 in
set_option maxHeartbeats 1600000 in
theorem ptruth_any (R b deep : Nat) (s : RS) (v : Vl) (pos : Nat) (w : World) (h : RdA R b deep s w) :
    Calls Tryz.prog 160 #[.pointer (some ⟨R, 0, none⟩), .agg #[.int .i64 v.k, .int .i64 v.n, .string v.s], .int .i64 pos] w (PrGo R b deep (truthP v pos s) w) := by
  have HW := Lib.hid (fun W (hW : w.grownBy W none) => wrong_any R b deep s 11 W (h.keep hW))
  have HS := Lib.hid h
  obtain ⟨k, n, t⟩ := v
  have hR := h.lt'
  have HT : Hid (∀ kd : Nat, kd = (if n = 1 then 1 else 2) → (Pm.mk kd ⟨#[]⟩ 0 ⟨0, 0, ⟨#[]⟩⟩ ⟨#[]⟩ Option.none 0 [] Option.none 0 [] pos).e = (truthP ⟨k, n, t⟩ pos s).2) := Lib.hid fun kd hk => by
    unfold truthP
    simp only [Pm.e, Pm.es, hk]
  have HT1 : Hid ((k = 1 → (truthP ⟨k, n, t⟩ pos s).1 = s) ∧ (¬ k = 1 → (truthP ⟨k, n, t⟩ pos s).1 = s.wrong 11)) := Lib.hid ⟨fun e => by simp [truthP, e], fun e => by simp [truthP, e]⟩
  generalize truthP ⟨k, n, t⟩ pos s = r at *
  have g1 := World.grownBy_alloc w (.cells #[.int .i64 k, .int .i64 n, .string t] 29) none
  have g2 := g1.trans (World.grownBy_alloc _ (.cells z10 33) none)
  have s1 : (w.alloc (.cells #[.int .i64 k, .int .i64 n, .string t] 29)).heap.size = w.heap.size + 1 := by simp
  have b1 := heap_alloc_new w (.cells #[.int .i64 k, .int .i64 n, .string t] 29)
  have b2 := heap_alloc_new (w.alloc (.cells #[.int .i64 k, .int .i64 n, .string t] 29)) (.cells z10 33)
  rw [s1] at b2
  have b1' := blk_grown (World.grownBy_alloc (w.alloc (.cells #[.int .i64 k, .int .i64 n, .string t] 29)) (.cells z10 33) none) b1
  have GG := Lib.hid (And.intro g2 (And.intro b2 b1'))
  clear h g1 g2 s1 b1 b2 b1'
  by_cases hk : k = 1
  · subst hk
    obtain ⟨hT1, _⟩ := HT1.out
    have HR := Lib.hid (hT1 rfl)
    clear hT1 HT1 HW
    by_cases hn : n = 1
    · have HE := Lib.hid (HT.out 1 (by rw [if_pos hn]))
      subst hn
      clear HT GG
      go_enter Tryz.func160, Tryz.ntmps160
      go_wp2_with fail
      have g3 := (World.grownBy_alloc w (.cells #[.int .i64 1, .int .i64 1, .string t] 29) none).trans (World.grownBy_alloc _ (.cells (Pm.mk 1 ⟨#[]⟩ 0 ⟨0, 0, ⟨#[]⟩⟩ ⟨#[]⟩ Option.none 0 [] Option.none 0 [] pos).c.toArray 33) none)
      exact bodyPost_ret (results_pm rfl _ _ (w.heap.size + 1) (.mk 1 ⟨#[]⟩ 0 ⟨0, 0, ⟨#[]⟩⟩ ⟨#[]⟩ Option.none 0 [] Option.none 0 [] pos) rfl (heap_alloc2_new w _ _)) rfl ⟨_, rfl, HE.out, PmS.leaf _ _ _ _ _ _ _ _ _ _ _ _, by rw [HR.out]; exact (RdGo.self HS.out).keep g3⟩
    · have HE := Lib.hid (HT.out 2 (by rw [if_neg hn]))
      have hn2 : (n == 1) = false := by rw [beq_eq_false_iff_ne]; exact hn
      clear HT GG
      go_enter Tryz.func160, Tryz.ntmps160
      go_wp2_with fail
      have g3 := (World.grownBy_alloc w (.cells #[.int .i64 1, .int .i64 n, .string t] 29) none).trans (World.grownBy_alloc _ (.cells (Pm.mk 2 ⟨#[]⟩ 0 ⟨0, 0, ⟨#[]⟩⟩ ⟨#[]⟩ Option.none 0 [] Option.none 0 [] pos).c.toArray 33) none)
      exact bodyPost_ret (results_pm rfl _ _ (w.heap.size + 1) (.mk 2 ⟨#[]⟩ 0 ⟨0, 0, ⟨#[]⟩⟩ ⟨#[]⟩ Option.none 0 [] Option.none 0 [] pos) rfl (heap_alloc2_new w _ _)) rfl ⟨_, rfl, HE.out, PmS.leaf _ _ _ _ _ _ _ _ _ _ _ _, by rw [HR.out]; exact (RdGo.self HS.out).keep g3⟩
  · obtain ⟨_, hT2⟩ := HT1.out
    have HR := Lib.hid (hT2 hk)
    have hk2 : (k != 1) = true := by simp [hk]
    clear hT2 HT1
    by_cases hn : n = 1
    · have HE := Lib.hid (HT.out 1 (by rw [if_pos hn]))
      subst hn
      clear HT
      go_enter Tryz.func160, Tryz.ntmps160
      go_wp2_with fail
      refine (HW.out _ (by exact GG.out.1)).mono ?_
      rintro e w2 ⟨rfl, hr⟩
      have A2 := hr.blk GG.out.2.1 (by omega)
      have B2 := hr.blk GG.out.2.2 (by omega)
      have R2 := Lib.hid (show RdGo R b deep r.1 w w2 from by rw [HR.out]; exact ⟨hr.1, GG.out.1.trans' hr.2⟩)
      obtain ⟨⟨d0, d1, d2⟩, _, _, _⟩ := three_of B2
      have HA2 := Lib.hid A2
      clear hr A2 B2
      go_wp2_with (refine wpList_store_row rfl 33 (.tmp 6) (.tmp 18) rfl (w.heap.size + 1) (Pm.mk 1 ⟨#[]⟩ 0 ⟨0, 0, ⟨#[]⟩⟩ ⟨#[]⟩ Option.none 0 [] Option.none 0 [] pos).c.toArray rfl rfl 33 z10 HA2.out (by rw [Pm.c_size]; exact pred_size) (by rw [Pm.c_size]; rfl) (Pm.c_all _) ?_)
      obtain ⟨hp, hb⟩ := PrGo.ret HS.out (.mk 1 ⟨#[]⟩ 0 ⟨0, 0, ⟨#[]⟩⟩ ⟨#[]⟩ Option.none 0 [] Option.none 0 [] pos) HE.out (PmS.leaf _ _ _ _ _ _ _ _ _ _ _ _) R2.out (Nat.le_succ w.heap.size) HA2.out
      exact bodyPost_ret (results_pm rfl _ _ (w.heap.size + 1) _ rfl hb) rfl hp
    · have HE := Lib.hid (HT.out 2 (by rw [if_neg hn]))
      have hn2 : (n == 1) = false := by rw [beq_eq_false_iff_ne]; exact hn
      clear HT
      go_enter Tryz.func160, Tryz.ntmps160
      go_wp2_with fail
      refine (HW.out _ (by exact GG.out.1)).mono ?_
      rintro e w2 ⟨rfl, hr⟩
      have A2 := hr.blk GG.out.2.1 (by omega)
      have B2 := hr.blk GG.out.2.2 (by omega)
      have R2 := Lib.hid (show RdGo R b deep r.1 w w2 from by rw [HR.out]; exact ⟨hr.1, GG.out.1.trans' hr.2⟩)
      obtain ⟨⟨d0, d1, d2⟩, _, _, _⟩ := three_of B2
      have HA2 := Lib.hid A2
      clear hr A2 B2
      go_wp2_with (refine wpList_store_row rfl 33 (.tmp 6) (.tmp 18) rfl (w.heap.size + 1) (Pm.mk 2 ⟨#[]⟩ 0 ⟨0, 0, ⟨#[]⟩⟩ ⟨#[]⟩ Option.none 0 [] Option.none 0 [] pos).c.toArray rfl rfl 33 z10 HA2.out (by rw [Pm.c_size]; exact pred_size) (by rw [Pm.c_size]; rfl) (Pm.c_all _) ?_)
      obtain ⟨hp, hb⟩ := PrGo.ret HS.out (.mk 2 ⟨#[]⟩ 0 ⟨0, 0, ⟨#[]⟩⟩ ⟨#[]⟩ Option.none 0 [] Option.none 0 [] pos) HE.out (PmS.leaf _ _ _ _ _ _ _ _ _ _ _ _) R2.out (Nat.le_succ w.heap.size) HA2.out
      exact bodyPost_ret (results_pm rfl _ _ (w.heap.size + 1) _ rfl hb) rfl hp
end Go.Proofs.YtjaclmoobfeikaaGreatDoor
