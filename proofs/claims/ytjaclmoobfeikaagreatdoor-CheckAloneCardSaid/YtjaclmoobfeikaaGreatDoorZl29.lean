/- Lists of predicates: are two alike, one by one? The reader's predicates that begin with a name. The reader's predicates that begin with a literal. -/
import Derived.Test.YtjaclmoobfeikaaGreatDoorZl27
import Derived.Test.YtjaclmoobfeikaaGreatDoorZl28
import Derived.Test.YtjaclmoobfeikaaGreatDoorZl21
namespace Go.Proofs.YtjaclmoobfeikaaGreatDoor
open Go.RowKit

end Go.Proofs.YtjaclmoobfeikaaGreatDoor
namespace Go.Proofs.YtjaclmoobfeikaaGreatDoor
open Go.RowKit

/-- A predicate without lists. -/
def lfP (kd : Nat) (c : ByteArray) (r : Nat) (v : Vl) (o : ByteArray) (pos : Nat) : Pm := .mk kd c r v o Option.none 0 [] Option.none 0 [] pos
theorem lf0 {w : World} {g kd r pos : Nat} {c o : ByteArray} {v : Vl} {T : TypeId} (h : w.heap[g]? = some (.cells (lfP kd c r v o pos).c.toArray T (0, 0))) (k' : Nat) : (w.setCell ⟨g, 0, none⟩ (.int .i64 k')).heap[g]? = some (.cells (lfP k' c r v o pos).c.toArray T (0, 0)) := by
  simpa [lfP, Pm.c] using heap_setCell_same _ _ 0 _ _ (.int .i64 k') h
theorem lf2 {w : World} {g kd r pos : Nat} {c o : ByteArray} {v : Vl} {T : TypeId} (h : w.heap[g]? = some (.cells (lfP kd c r v o pos).c.toArray T (0, 0))) (r' : Nat) : (w.setCell ⟨g, 2, none⟩ (.int .i64 r')).heap[g]? = some (.cells (lfP kd c r' v o pos).c.toArray T (0, 0)) := by
  simpa [lfP, Pm.c] using heap_setCell_same _ _ 2 _ _ (.int .i64 r') h
theorem lf06 {w : World} {g kd r pos : Nat} {c o : ByteArray} {v : Vl} {T : TypeId} (h : w.heap[g]? = some (.cells (lfP kd c r v o pos).c.toArray T (0, 0))) (k' : Nat) (o' : ByteArray) : ((w.setCell ⟨g, 0, none⟩ (.int .i64 k')).setCell ⟨g, 6, none⟩ (.string o')).heap[g]? = some (.cells (lfP k' c r v o' pos).c.toArray T (0, 0)) := by
  simpa [lfP, Pm.c] using heap_setCell_same _ _ 6 _ _ (.string o') (lf0 h k')
theorem lf0v {w : World} {g kd r pos : Nat} {c o : ByteArray} {v : Vl} {T : TypeId} (h : w.heap[g]? = some (.cells (lfP kd c r v o pos).c.toArray T (0, 0))) (k' : Nat) (v' : Vl) : ((((w.setCell ⟨g, 0, none⟩ (.int .i64 k')).setCell ⟨g, 3, none⟩ (.int .i64 v'.k)).setCell ⟨g, 4, none⟩ (.int .i64 v'.n)).setCell ⟨g, 5, none⟩ (.string v'.s)).heap[g]? = some (.cells (lfP k' c r v' o pos).c.toArray T (0, 0)) := by
  have h1 := heap_setCell_same _ _ 3 _ _ (.int .i64 v'.k) (lf0 h k')
  have h2 := heap_setCell_same _ _ 4 _ _ (.int .i64 v'.n) h1
  have h3 := heap_setCell_same _ _ 5 _ _ (.string v'.s) h2
  simpa [lfP, Pm.c] using h3
theorem lf_cells {w : World} {g kd r pos : Nat} {c o : ByteArray} {v : Vl} {T : TypeId} (h : w.heap[g]? = some (.cells (lfP kd c r v o pos).c.toArray T (0, 0))) : w.cell? ⟨g, 0, none⟩ = some (.int .i64 kd) ∧ w.cell? ⟨g, 2, none⟩ = some (.int .i64 r) ∧ w.cell? ⟨g, 3, none⟩ = some (.int .i64 v.k) ∧ w.cell? ⟨g, 4, none⟩ = some (.int .i64 v.n) ∧ w.cell? ⟨g, 5, none⟩ = some (.string v.s) ∧ w.cell? ⟨g, 6, none⟩ = some (.string o) ∧ w.frozen? ⟨g, 0, none⟩ = false ∧ w.frozen? ⟨g, 2, none⟩ = false ∧ w.frozen? ⟨g, 3, none⟩ = false ∧ w.frozen? ⟨g, 4, none⟩ = false ∧ w.frozen? ⟨g, 5, none⟩ = false ∧ w.frozen? ⟨g, 6, none⟩ = false := by
  have c0 := cell_of_row _ _ 0 _ _ _ h
  have c2 := cell_of_row _ _ 2 _ _ _ h
  have c3 := cell_of_row _ _ 3 _ _ _ h
  have c4 := cell_of_row _ _ 4 _ _ _ h
  have c5 := cell_of_row _ _ 5 _ _ _ h
  have c6 := cell_of_row _ _ 6 _ _ _ h
  simp [lfP, Pm.c] at c0 c2 c3 c4 c5 c6
  exact ⟨c0, c2, c3, c4, c5, c6, frozen_of_row _ _ 0 _ _ h, frozen_of_row _ _ 2 _ _ h, frozen_of_row _ _ 3 _ _ h, frozen_of_row _ _ 4 _ _ h, frozen_of_row _ _ 5 _ _ h, frozen_of_row _ _ 6 _ _ h⟩
theorem lf_leaf {S : Nat → Prop} {w : World} (kd : Nat) (c : ByteArray) (r : Nat) (v : Vl) (o : ByteArray) (pos : Nat) : PmS S w (lfP kd c r v o pos) := PmS.leaf _ _ _ _ _ _ _ _ _ _ _ _
theorem grown2x (w : World) (g i j : Nat) (u v : Value) : w.grownBy ((w.setCell ⟨g, i, none⟩ u).setCell ⟨g, j, none⟩ v) (some g) := grown_setX (grown_cellR w g i u) j v
theorem grown4x (w : World) (g : Nat) (u0 u1 u2 u3 : Value) : w.grownBy ((((w.setCell ⟨g, 0, none⟩ u0).setCell ⟨g, 3, none⟩ u1).setCell ⟨g, 4, none⟩ u2).setCell ⟨g, 5, none⟩ u3) (some g) := grown_setX (grown_setX (grown_setX (grown_cellR w g 0 u0) 3 u1) 4 u2) 5 u3
set_option maxRecDepth 100000 in
set_option maxHeartbeats 3200000 in
theorem pname_isnot (R b deep : Nat) (s s1 : RS) (c : ByteArray) (pos : Nat) (w : World) (h : RdA R b deep s w) (hn : s.name = (s1, c)) (h1 : s1.comes bIs = true) (h2 : s1.pass.comes bNot = true) :
    Calls Tryz.prog 145 #[.pointer (some ⟨R, 0, none⟩), .int .i64 pos] w (PrGo R b deep (s1.pass.pass.need bNull, .mk 7 c 0 ⟨0, 0, ⟨#[]⟩⟩ ⟨#[]⟩ [] [] pos) w) := by
  have HS := Lib.hid h
  have HN := Lib.hid (fun W (hW : w.grownBy W none) => pname_any R b deep s W (h.keep hW))
  rw [hn] at HN
  simp only at HN
  have hR := h.lt'
  have HI := Lib.hid (fun st (hc : st.comes bIs = true) W (hW : RdA R b deep st W) => took_yes R b deep st bIs W hW (by decide) hc)
  have HT := Lib.hid (fun st (hc : st.comes bNot = true) W (hW : RdA R b deep st W) => took_yes R b deep st bNot W hW (by decide) hc)
  have HU := Lib.hid (fun st W (hW : RdA R b deep st W) => need_any R b deep st bNull W hW (by decide))
  clear h hn
  go_enter Tryz.func145, Tryz.ntmps145
  have GA := Lib.hid (World.grownBy_alloc w (.cells z10 33) none)
  have GA1 := Lib.hid (heap_alloc_new w (.cells z10 33))
  go_wp2_with fail
  refine (HN.out _ GA.out).mono ?_
  rintro e w2 ⟨rfl, hr⟩
  have hlt := (Array.getElem?_eq_some_iff.1 GA1.out).1
  have a2 := hr.blk GA1.out (by omega)
  have R2 := Lib.hid (show RdGo R b deep s1 w w2 from ⟨hr.1, GA.out.trans' hr.2⟩)
  have lw : w.heap.size < w2.heap.size := (Array.getElem?_eq_some_iff.1 a2).1
  have lR : R < w2.heap.size := Nat.lt_of_lt_of_le hR (Nat.le_of_lt lw)
  have R3 := Lib.hid (R2.out.keep (World.grownBy_alloc w2 (.cells (lfP 0 c 0 ⟨0, 0, ⟨#[]⟩⟩ ⟨#[]⟩ pos).c.toArray 33) none))
  have A3 := Lib.hid (blk_grown (World.grownBy_alloc w2 (.cells (lfP 0 c 0 ⟨0, 0, ⟨#[]⟩⟩ ⟨#[]⟩ pos).c.toArray 33) none) a2)
  have B3 := Lib.hid (heap_alloc_new w2 (.cells (lfP 0 c 0 ⟨0, 0, ⟨#[]⟩⟩ ⟨#[]⟩ pos).c.toArray 33))
  clear hr hlt a2
  go_wp2_with fail
  refine (HI.out _ h1 _ R3.out.1).mono ?_
  rintro e w4 ⟨rfl, hr⟩
  have A4 := Lib.hid (hr.blk A3.out (by omega))
  have B4 := Lib.hid (hr.blk B3.out (by omega))
  have R4 := Lib.hid (R3.out.then hr)
  clear hr
  obtain ⟨x0, x2, x3, x4, x5, x6, f0, f2, f3, f4, f5, f6⟩ := lf_cells B4.out
  go_wp2_with fail
  have B5 := Lib.hid (lf0 B4.out 6)
  have gS4 := Lib.hid (grown_cellR w4 w2.heap.size 0 (.int .i64 (6 : Nat)))
  try simp only [Int.cast_ofNat_Int, Int.natCast_ofNat] at B5 gS4
  generalize w4.setCell ⟨w2.heap.size, 0, none⟩ (.int .i64 6) = w5 at *
  have A5 := Lib.hid (blk_row gS4.out A4.out (Nat.ne_of_lt lw))
  have R5 := Lib.hid (RdGo.stored HS.out R4.out (Nat.le_of_lt lw) gS4.out)
  clear x0 x2 x3 x4 x5 x6 f0 f2 f3 f4 f5 f6
  refine (HT.out _ h2 _ R5.out.1).mono ?_
  rintro e w6 ⟨rfl, hr⟩
  have A6 := Lib.hid (hr.blk A5.out (by omega))
  have B6 := Lib.hid (hr.blk B5.out (by omega))
  have R6 := Lib.hid (R5.out.then hr)
  clear hr
  obtain ⟨x0, x2, x3, x4, x5, x6, f0, f2, f3, f4, f5, f6⟩ := lf_cells B6.out
  go_wp2_with fail
  have B7 := Lib.hid (lf0 B6.out 7)
  have gS6 := Lib.hid (grown_cellR w6 w2.heap.size 0 (.int .i64 (7 : Nat)))
  try simp only [Int.cast_ofNat_Int, Int.natCast_ofNat] at B7 gS6
  generalize w6.setCell ⟨w2.heap.size, 0, none⟩ (.int .i64 7) = w7 at *
  have A7 := Lib.hid (blk_row gS6.out A6.out (Nat.ne_of_lt lw))
  have R7 := Lib.hid (RdGo.stored HS.out R6.out (Nat.le_of_lt lw) gS6.out)
  clear x0 x2 x3 x4 x5 x6 f0 f2 f3 f4 f5 f6
  refine (HU.out _ _ R7.out.1).mono ?_
  rintro e w8 ⟨rfl, hr⟩
  have A8 := Lib.hid (hr.blk A7.out (by omega))
  have B8 := Lib.hid (hr.blk B7.out (by omega))
  have R8 := Lib.hid (R7.out.then hr)
  clear hr
  go_wp2_with (first
    | (refine wpList_load_row rfl 33 (.tmp 5) rfl w2.heap.size rfl 33 (lfP 7 c 0 ⟨0, 0, ⟨#[]⟩⟩ ⟨#[]⟩ pos).c.toArray (0, 0) _ B8.out Tryz.underlying33 rfl (by rw [Pm.c_size]; exact pred_size) ?_)
    | (refine wpList_store_row rfl 33 (.tmp 4) (.tmp 18) rfl w.heap.size (lfP 7 c 0 ⟨0, 0, ⟨#[]⟩⟩ ⟨#[]⟩ pos).c.toArray rfl rfl 33 z10 A8.out (by rw [Pm.c_size]; exact pred_size) (by rw [Pm.c_size]; rfl) (Pm.c_all _) ?_))
  obtain ⟨hp, hb⟩ := PrGo.ret (r := (s1.pass.pass.need bNull, .mk 7 c 0 ⟨0, 0, ⟨#[]⟩⟩ ⟨#[]⟩ [] [] pos)) HS.out (lfP 7 c 0 ⟨0, 0, ⟨#[]⟩⟩ ⟨#[]⟩ pos) rfl (lf_leaf _ _ _ _ _ _) R8.out (Nat.le_refl _) A8.out
  exact bodyPost_ret (results_pm rfl _ _ w.heap.size _ rfl hb) rfl hp
set_option maxRecDepth 100000 in
set_option maxHeartbeats 3200000 in
theorem pname_is (R b deep : Nat) (s s1 : RS) (c : ByteArray) (pos : Nat) (w : World) (h : RdA R b deep s w) (hn : s.name = (s1, c)) (h1 : s1.comes bIs = true) (h2 : s1.pass.comes bNot = false) :
    Calls Tryz.prog 145 #[.pointer (some ⟨R, 0, none⟩), .int .i64 pos] w (PrGo R b deep (s1.pass.need bNull, .mk 6 c 0 ⟨0, 0, ⟨#[]⟩⟩ ⟨#[]⟩ [] [] pos) w) := by
  have HS := Lib.hid h
  have HN := Lib.hid (fun W (hW : w.grownBy W none) => pname_any R b deep s W (h.keep hW))
  rw [hn] at HN
  simp only at HN
  have hR := h.lt'
  have HI := Lib.hid (fun st (hc : st.comes bIs = true) W (hW : RdA R b deep st W) => took_yes R b deep st bIs W hW (by decide) hc)
  have HT := Lib.hid (fun st (hc : st.comes bNot = false) W (hW : RdA R b deep st W) => took_no R b deep st bNot W hW (by decide) hc)
  have HU := Lib.hid (fun st W (hW : RdA R b deep st W) => need_any R b deep st bNull W hW (by decide))
  clear h hn
  go_enter Tryz.func145, Tryz.ntmps145
  have GA := Lib.hid (World.grownBy_alloc w (.cells z10 33) none)
  have GA1 := Lib.hid (heap_alloc_new w (.cells z10 33))
  go_wp2_with fail
  refine (HN.out _ GA.out).mono ?_
  rintro e w2 ⟨rfl, hr⟩
  have hlt := (Array.getElem?_eq_some_iff.1 GA1.out).1
  have a2 := hr.blk GA1.out (by omega)
  have R2 := Lib.hid (show RdGo R b deep s1 w w2 from ⟨hr.1, GA.out.trans' hr.2⟩)
  have lw : w.heap.size < w2.heap.size := (Array.getElem?_eq_some_iff.1 a2).1
  have lR : R < w2.heap.size := Nat.lt_of_lt_of_le hR (Nat.le_of_lt lw)
  have R3 := Lib.hid (R2.out.keep (World.grownBy_alloc w2 (.cells (lfP 0 c 0 ⟨0, 0, ⟨#[]⟩⟩ ⟨#[]⟩ pos).c.toArray 33) none))
  have A3 := Lib.hid (blk_grown (World.grownBy_alloc w2 (.cells (lfP 0 c 0 ⟨0, 0, ⟨#[]⟩⟩ ⟨#[]⟩ pos).c.toArray 33) none) a2)
  have B3 := Lib.hid (heap_alloc_new w2 (.cells (lfP 0 c 0 ⟨0, 0, ⟨#[]⟩⟩ ⟨#[]⟩ pos).c.toArray 33))
  clear hr hlt a2
  go_wp2_with fail
  refine (HI.out _ h1 _ R3.out.1).mono ?_
  rintro e w4 ⟨rfl, hr⟩
  have A4 := Lib.hid (hr.blk A3.out (by omega))
  have B4 := Lib.hid (hr.blk B3.out (by omega))
  have R4 := Lib.hid (R3.out.then hr)
  clear hr
  obtain ⟨x0, x2, x3, x4, x5, x6, f0, f2, f3, f4, f5, f6⟩ := lf_cells B4.out
  go_wp2_with fail
  have B5 := Lib.hid (lf0 B4.out 6)
  have gS4 := Lib.hid (grown_cellR w4 w2.heap.size 0 (.int .i64 (6 : Nat)))
  try simp only [Int.cast_ofNat_Int, Int.natCast_ofNat] at B5 gS4
  generalize w4.setCell ⟨w2.heap.size, 0, none⟩ (.int .i64 6) = w5 at *
  have A5 := Lib.hid (blk_row gS4.out A4.out (Nat.ne_of_lt lw))
  have R5 := Lib.hid (RdGo.stored HS.out R4.out (Nat.le_of_lt lw) gS4.out)
  clear x0 x2 x3 x4 x5 x6 f0 f2 f3 f4 f5 f6
  refine (HT.out _ h2 _ R5.out.1).mono ?_
  rintro e w6 ⟨rfl, hr⟩
  have A6 := Lib.hid (hr.blk A5.out (by omega))
  have B6 := Lib.hid (hr.blk B5.out (by omega))
  have R6 := Lib.hid (R5.out.then hr)
  clear hr
  go_wp2_with fail
  refine (HU.out _ _ R6.out.1).mono ?_
  rintro e w7 ⟨rfl, hr⟩
  have A7 := Lib.hid (hr.blk A6.out (by omega))
  have B7 := Lib.hid (hr.blk B6.out (by omega))
  have R7 := Lib.hid (R6.out.then hr)
  clear hr
  go_wp2_with (first
    | (refine wpList_load_row rfl 33 (.tmp 5) rfl w2.heap.size rfl 33 (lfP 6 c 0 ⟨0, 0, ⟨#[]⟩⟩ ⟨#[]⟩ pos).c.toArray (0, 0) _ B7.out Tryz.underlying33 rfl (by rw [Pm.c_size]; exact pred_size) ?_)
    | (refine wpList_store_row rfl 33 (.tmp 4) (.tmp 18) rfl w.heap.size (lfP 6 c 0 ⟨0, 0, ⟨#[]⟩⟩ ⟨#[]⟩ pos).c.toArray rfl rfl 33 z10 A7.out (by rw [Pm.c_size]; exact pred_size) (by rw [Pm.c_size]; rfl) (Pm.c_all _) ?_))
  obtain ⟨hp, hb⟩ := PrGo.ret (r := (s1.pass.need bNull, .mk 6 c 0 ⟨0, 0, ⟨#[]⟩⟩ ⟨#[]⟩ [] [] pos)) HS.out (lfP 6 c 0 ⟨0, 0, ⟨#[]⟩⟩ ⟨#[]⟩ pos) rfl (lf_leaf _ _ _ _ _ _) R7.out (Nat.le_refl _) A7.out
  exact bodyPost_ret (results_pm rfl _ _ w.heap.size _ rfl hb) rfl hp
set_option maxRecDepth 100000 in
set_option maxHeartbeats 3200000 in
theorem pname_not (R b deep : Nat) (s s1 : RS) (c : ByteArray) (pos : Nat) (w : World) (h : RdA R b deep s w) (hn : s.name = (s1, c)) (h1 : s1.comes bIs = false) (h2 : s1.comes bNot = true) :
    Calls Tryz.prog 145 #[.pointer (some ⟨R, 0, none⟩), .int .i64 pos] w (PrGo R b deep ((amongL c pos s1.pass).1, notP (amongL c pos s1.pass).2 pos) w) := by
  have HS := Lib.hid h
  have HN := Lib.hid (fun W (hW : w.grownBy W none) => pname_any R b deep s W (h.keep hW))
  rw [hn] at HN
  simp only at HN
  have hR := h.lt'
  have HI := Lib.hid (fun st (hc : st.comes bIs = false) W (hW : RdA R b deep st W) => took_no R b deep st bIs W hW (by decide) hc)
  have HT := Lib.hid (fun st (hc : st.comes bNot = true) W (hW : RdA R b deep st W) => took_yes R b deep st bNot W hW (by decide) hc)
  have HAm := Lib.hid (fun W (hW : RdA R b deep s1.pass W) => pamong_any R b deep s1.pass c pos W hW)
  clear h hn
  go_enter Tryz.func145, Tryz.ntmps145
  have GA := Lib.hid (World.grownBy_alloc w (.cells z10 33) none)
  have GA1 := Lib.hid (heap_alloc_new w (.cells z10 33))
  go_wp2_with fail
  refine (HN.out _ GA.out).mono ?_
  rintro e w2 ⟨rfl, hr⟩
  have hlt := (Array.getElem?_eq_some_iff.1 GA1.out).1
  have a2 := hr.blk GA1.out (by omega)
  have R2 := Lib.hid (show RdGo R b deep s1 w w2 from ⟨hr.1, GA.out.trans' hr.2⟩)
  have lw : w.heap.size < w2.heap.size := (Array.getElem?_eq_some_iff.1 a2).1
  have lR : R < w2.heap.size := Nat.lt_of_lt_of_le hR (Nat.le_of_lt lw)
  have R3 := Lib.hid (R2.out.keep (World.grownBy_alloc w2 (.cells (lfP 0 c 0 ⟨0, 0, ⟨#[]⟩⟩ ⟨#[]⟩ pos).c.toArray 33) none))
  have A3 := Lib.hid (blk_grown (World.grownBy_alloc w2 (.cells (lfP 0 c 0 ⟨0, 0, ⟨#[]⟩⟩ ⟨#[]⟩ pos).c.toArray 33) none) a2)
  have B3 := Lib.hid (heap_alloc_new w2 (.cells (lfP 0 c 0 ⟨0, 0, ⟨#[]⟩⟩ ⟨#[]⟩ pos).c.toArray 33))
  clear hr hlt a2
  go_wp2_with fail
  refine (HI.out _ h1 _ R3.out.1).mono ?_
  rintro e w4 ⟨rfl, hr⟩
  have A4 := Lib.hid (hr.blk A3.out (by omega))
  have B4 := Lib.hid (hr.blk B3.out (by omega))
  have R4 := Lib.hid (R3.out.then hr)
  clear hr
  go_wp2_with fail
  refine (HT.out _ h2 _ R4.out.1).mono ?_
  rintro e w5 ⟨rfl, hr⟩
  have A5 := Lib.hid (hr.blk A4.out (by omega))
  have B5 := Lib.hid (hr.blk B4.out (by omega))
  have R5 := Lib.hid (R4.out.then hr)
  clear hr
  go_wp2_with (refine wpList_load_row rfl 33 (.tmp 5) rfl w2.heap.size rfl 33 (lfP 0 c 0 ⟨0, 0, ⟨#[]⟩⟩ ⟨#[]⟩ pos).c.toArray (0, 0) _ B5.out Tryz.underlying33 rfl (by rw [Pm.c_size]; exact pred_size) ?_)
  refine (HAm.out _ R5.out.1).mono ?_
  rintro e w6 ⟨x, rfl, hx, hxS, hr⟩
  have A6 := Lib.hid (hr.blk A5.out (by omega))
  have R6 := Lib.hid (R5.out.then hr)
  have lx : w.heap.size < w5.heap.size := (Array.getElem?_eq_some_iff.1 A5.out).1
  have HX := Lib.hid (And.intro hx hxS)
  have lz : w5.heap.size ≤ w6.heap.size := hr.2.size
  clear hr hx hxS
  have HNt := Lib.hid (pnot_any w5.heap.size x pos w6 HX.out.2 lz)
  go_wp2_with fail
  refine HNt.out.mono ?_
  rintro e w7 ⟨⟨y, rfl, hy, hyS⟩, hg⟩
  have A7 := Lib.hid (blk_grown hg A6.out)
  have R7 := Lib.hid (R6.out.keep hg)
  have HY := Lib.hid (And.intro hy hyS)
  clear hg hy hyS
  go_wp2_with (refine wpList_store_row rfl 33 (.tmp 4) (.tmp 25) rfl w.heap.size (y).c.toArray rfl rfl 33 z10 A7.out (by rw [Pm.c_size]; exact pred_size) (by rw [Pm.c_size]; rfl) (Pm.c_all _) ?_)
  obtain ⟨hp, hb⟩ := PrGo.ret (r := ((amongL c pos s1.pass).1, notP (amongL c pos s1.pass).2 pos)) HS.out (y) (by rw [HY.out.1, HX.out.1]) (HY.out.2.mono (fun j _ hj => ⟨Nat.le_of_lt (Nat.lt_of_lt_of_le lx hj), fun e => by omega⟩)) R7.out (Nat.le_refl _) A7.out
  exact bodyPost_ret (results_pm rfl _ _ w.heap.size _ rfl hb) rfl hp
set_option maxRecDepth 100000 in
set_option maxHeartbeats 3200000 in
theorem pname_in (R b deep : Nat) (s s1 : RS) (c : ByteArray) (pos : Nat) (w : World) (h : RdA R b deep s w) (hn : s.name = (s1, c)) (h1 : s1.comes bIs = false) (h2 : s1.comes bNot = false) (s2 : RS) (hr0 : s1.rel = (s2, 0)) :
    Calls Tryz.prog 145 #[.pointer (some ⟨R, 0, none⟩), .int .i64 pos] w (PrGo R b deep (amongL c pos s2) w) := by
  have HS := Lib.hid h
  have HN := Lib.hid (fun W (hW : w.grownBy W none) => pname_any R b deep s W (h.keep hW))
  rw [hn] at HN
  simp only at HN
  have hR := h.lt'
  have HI := Lib.hid (fun st (hc : st.comes bIs = false) W (hW : RdA R b deep st W) => took_no R b deep st bIs W hW (by decide) hc)
  have HT := Lib.hid (fun st (hc : st.comes bNot = false) W (hW : RdA R b deep st W) => took_no R b deep st bNot W hW (by decide) hc)
  have HRl := Lib.hid (fun W (hW : RdA R b deep s1 W) => prel_any R b deep s1 W hW)
  rw [hr0] at HRl
  simp only at HRl
  rw [show ((0 : Nat) : Int) = 0 from rfl] at HRl
  have HAm := Lib.hid (fun W (hW : RdA R b deep s2 W) => pamong_any R b deep s2 c pos W hW)
  clear h hn hr0
  go_enter Tryz.func145, Tryz.ntmps145
  have GA := Lib.hid (World.grownBy_alloc w (.cells z10 33) none)
  have GA1 := Lib.hid (heap_alloc_new w (.cells z10 33))
  go_wp2_with fail
  refine (HN.out _ GA.out).mono ?_
  rintro e w2 ⟨rfl, hr⟩
  have hlt := (Array.getElem?_eq_some_iff.1 GA1.out).1
  have a2 := hr.blk GA1.out (by omega)
  have R2 := Lib.hid (show RdGo R b deep s1 w w2 from ⟨hr.1, GA.out.trans' hr.2⟩)
  have lw : w.heap.size < w2.heap.size := (Array.getElem?_eq_some_iff.1 a2).1
  have lR : R < w2.heap.size := Nat.lt_of_lt_of_le hR (Nat.le_of_lt lw)
  have R3 := Lib.hid (R2.out.keep (World.grownBy_alloc w2 (.cells (lfP 0 c 0 ⟨0, 0, ⟨#[]⟩⟩ ⟨#[]⟩ pos).c.toArray 33) none))
  have A3 := Lib.hid (blk_grown (World.grownBy_alloc w2 (.cells (lfP 0 c 0 ⟨0, 0, ⟨#[]⟩⟩ ⟨#[]⟩ pos).c.toArray 33) none) a2)
  have B3 := Lib.hid (heap_alloc_new w2 (.cells (lfP 0 c 0 ⟨0, 0, ⟨#[]⟩⟩ ⟨#[]⟩ pos).c.toArray 33))
  clear hr hlt a2
  go_wp2_with fail
  refine (HI.out _ h1 _ R3.out.1).mono ?_
  rintro e w4 ⟨rfl, hr⟩
  have A4 := Lib.hid (hr.blk A3.out (by omega))
  have B4 := Lib.hid (hr.blk B3.out (by omega))
  have R4 := Lib.hid (R3.out.then hr)
  clear hr
  go_wp2_with fail
  refine (HT.out _ h2 _ R4.out.1).mono ?_
  rintro e w5 ⟨rfl, hr⟩
  have A5 := Lib.hid (hr.blk A4.out (by omega))
  have B5 := Lib.hid (hr.blk B4.out (by omega))
  have R5 := Lib.hid (R4.out.then hr)
  clear hr
  go_wp2_with fail
  refine (HRl.out _ R5.out.1).mono ?_
  rintro e w6 ⟨rfl, hr⟩
  have A6 := Lib.hid (hr.blk A5.out (by omega))
  have B6 := Lib.hid (hr.blk B5.out (by omega))
  have R6 := Lib.hid (R5.out.then hr)
  clear hr
  obtain ⟨x0, x2, x3, x4, x5, x6, f0, f2, f3, f4, f5, f6⟩ := lf_cells B6.out
  go_upto_region 12 with fail
  have B7 := Lib.hid (lf2 B6.out 0)
  have gS6 := Lib.hid (grown_cellR w6 w2.heap.size 2 (.int .i64 (0 : Nat)))
  try simp only [Int.cast_ofNat_Int, Int.natCast_ofNat] at B7 gS6
  generalize w6.setCell ⟨w2.heap.size, 2, none⟩ (.int .i64 0) = w7 at *
  have A7 := Lib.hid (blk_row gS6.out A6.out (Nat.ne_of_lt lw))
  have R7 := Lib.hid (RdGo.stored HS.out R6.out (Nat.le_of_lt lw) gS6.out)
  clear x0 x2 x3 x4 x5 x6 f0 f2 f3 f4 f5 f6
  obtain ⟨x0, x2, x3, x4, x5, x6, f0, f2, f3, f4, f5, f6⟩ := lf_cells B7.out
  go_wp2_with (refine wpList_load_row rfl 33 (.tmp 5) rfl w2.heap.size rfl 33 (lfP 0 c 0 ⟨0, 0, ⟨#[]⟩⟩ ⟨#[]⟩ pos).c.toArray (0, 0) _ B7.out Tryz.underlying33 rfl (by rw [Pm.c_size]; exact pred_size) ?_)
  refine (HAm.out _ R7.out.1).mono ?_
  rintro e w8 ⟨x, rfl, hx, hxS, hr⟩
  have A8 := Lib.hid (hr.blk A7.out (by omega))
  have R8 := Lib.hid (R7.out.then hr)
  have lx : w.heap.size < w7.heap.size := (Array.getElem?_eq_some_iff.1 A7.out).1
  have HX := Lib.hid (And.intro hx hxS)
  have lz : w7.heap.size ≤ w8.heap.size := hr.2.size
  clear hr hx hxS
  go_wp2_with (refine wpList_store_row rfl 33 (.tmp 4) (.tmp 39) rfl w.heap.size (x).c.toArray rfl rfl 33 z10 A8.out (by rw [Pm.c_size]; exact pred_size) (by rw [Pm.c_size]; rfl) (Pm.c_all _) ?_)
  obtain ⟨hp, hb⟩ := PrGo.ret (r := (amongL c pos s2)) HS.out (x) HX.out.1 (HX.out.2.mono (fun j _ hj => ⟨Nat.le_of_lt (Nat.lt_of_lt_of_le lx hj), fun e => by omega⟩)) R8.out (Nat.le_refl _) A8.out
  exact bodyPost_ret (results_pm rfl _ _ w.heap.size _ rfl hb) rfl hp
set_option maxRecDepth 100000 in
set_option maxHeartbeats 3200000 in
theorem pname_cols (R b deep : Nat) (s s1 : RS) (c : ByteArray) (pos : Nat) (w : World) (h : RdA R b deep s w) (hn : s.name = (s1, c)) (h1 : s1.comes bIs = false) (h2 : s1.comes bNot = false) (s2 : RS) (rv : Nat) (hr0 : s1.rel = (s2, rv)) (hrv : rv ≠ 0) (hnm : s2.named = true) (s3 : RS) (c2 : ByteArray) (h3 : s2.name = (s3, c2)) :
    Calls Tryz.prog 145 #[.pointer (some ⟨R, 0, none⟩), .int .i64 pos] w (PrGo R b deep (s3, .mk 4 c rv ⟨0, 0, ⟨#[]⟩⟩ c2 [] [] pos) w) := by
  have HS := Lib.hid h
  have HN := Lib.hid (fun W (hW : w.grownBy W none) => pname_any R b deep s W (h.keep hW))
  rw [hn] at HN
  simp only at HN
  have hR := h.lt'
  have HI := Lib.hid (fun st (hc : st.comes bIs = false) W (hW : RdA R b deep st W) => took_no R b deep st bIs W hW (by decide) hc)
  have HT := Lib.hid (fun st (hc : st.comes bNot = false) W (hW : RdA R b deep st W) => took_no R b deep st bNot W hW (by decide) hc)
  have HRl := Lib.hid (fun W (hW : RdA R b deep s1 W) => prel_any R b deep s1 W hW)
  rw [hr0] at HRl
  simp only at HRl
  have HNm := Lib.hid (fun W (hW : RdA R b deep s2 W) => pnamed_any R b deep s2 W hW)
  rw [hnm] at HNm
  have HN2 := Lib.hid (fun W (hW : RdA R b deep s2 W) => pname_any R b deep s2 W hW)
  rw [h3] at HN2
  simp only at HN2
  have hrb : ((rv : Int) == 0) = false := by rw [beq_eq_false_iff_ne]; omega
  clear h hn hr0 hrv hnm h3
  go_enter Tryz.func145, Tryz.ntmps145
  have GA := Lib.hid (World.grownBy_alloc w (.cells z10 33) none)
  have GA1 := Lib.hid (heap_alloc_new w (.cells z10 33))
  go_wp2_with fail
  refine (HN.out _ GA.out).mono ?_
  rintro e w2 ⟨rfl, hr⟩
  have hlt := (Array.getElem?_eq_some_iff.1 GA1.out).1
  have a2 := hr.blk GA1.out (by omega)
  have R2 := Lib.hid (show RdGo R b deep s1 w w2 from ⟨hr.1, GA.out.trans' hr.2⟩)
  have lw : w.heap.size < w2.heap.size := (Array.getElem?_eq_some_iff.1 a2).1
  have lR : R < w2.heap.size := Nat.lt_of_lt_of_le hR (Nat.le_of_lt lw)
  have R3 := Lib.hid (R2.out.keep (World.grownBy_alloc w2 (.cells (lfP 0 c 0 ⟨0, 0, ⟨#[]⟩⟩ ⟨#[]⟩ pos).c.toArray 33) none))
  have A3 := Lib.hid (blk_grown (World.grownBy_alloc w2 (.cells (lfP 0 c 0 ⟨0, 0, ⟨#[]⟩⟩ ⟨#[]⟩ pos).c.toArray 33) none) a2)
  have B3 := Lib.hid (heap_alloc_new w2 (.cells (lfP 0 c 0 ⟨0, 0, ⟨#[]⟩⟩ ⟨#[]⟩ pos).c.toArray 33))
  clear hr hlt a2
  go_wp2_with fail
  refine (HI.out _ h1 _ R3.out.1).mono ?_
  rintro e w4 ⟨rfl, hr⟩
  have A4 := Lib.hid (hr.blk A3.out (by omega))
  have B4 := Lib.hid (hr.blk B3.out (by omega))
  have R4 := Lib.hid (R3.out.then hr)
  clear hr
  go_wp2_with fail
  refine (HT.out _ h2 _ R4.out.1).mono ?_
  rintro e w5 ⟨rfl, hr⟩
  have A5 := Lib.hid (hr.blk A4.out (by omega))
  have B5 := Lib.hid (hr.blk B4.out (by omega))
  have R5 := Lib.hid (R4.out.then hr)
  clear hr
  go_wp2_with fail
  refine (HRl.out _ R5.out.1).mono ?_
  rintro e w6 ⟨rfl, hr⟩
  have A6 := Lib.hid (hr.blk A5.out (by omega))
  have B6 := Lib.hid (hr.blk B5.out (by omega))
  have R6 := Lib.hid (R5.out.then hr)
  clear hr
  obtain ⟨x0, x2, x3, x4, x5, x6, f0, f2, f3, f4, f5, f6⟩ := lf_cells B6.out
  go_upto_region 12 with fail
  have B7 := Lib.hid (lf2 B6.out rv)
  have gS6 := Lib.hid (grown_cellR w6 w2.heap.size 2 (.int .i64 rv))
  try simp only [Int.cast_ofNat_Int, Int.natCast_ofNat] at B7 gS6
  generalize w6.setCell ⟨w2.heap.size, 2, none⟩ (.int .i64 rv) = w7 at *
  have A7 := Lib.hid (blk_row gS6.out A6.out (Nat.ne_of_lt lw))
  have R7 := Lib.hid (RdGo.stored HS.out R6.out (Nat.le_of_lt lw) gS6.out)
  clear x0 x2 x3 x4 x5 x6 f0 f2 f3 f4 f5 f6
  obtain ⟨x0, x2, x3, x4, x5, x6, f0, f2, f3, f4, f5, f6⟩ := lf_cells B7.out
  go_wp2_with fail
  refine (HNm.out _ R7.out.1).mono ?_
  rintro e w8 ⟨rfl, hg⟩
  have A8 := Lib.hid (blk_grown hg A7.out)
  have B8 := Lib.hid (blk_grown hg B7.out)
  have R8 := Lib.hid (R7.out.keep hg)
  clear hg
  clear x0 x2 x3 x4 x5 x6 f0 f2 f3 f4 f5 f6
  go_wp2_with fail
  refine (HN2.out _ R8.out.1).mono ?_
  rintro e w9 ⟨rfl, hr⟩
  have A9 := Lib.hid (hr.blk A8.out (by omega))
  have B9 := Lib.hid (hr.blk B8.out (by omega))
  have R9 := Lib.hid (R8.out.then hr)
  clear hr
  obtain ⟨x0, x2, x3, x4, x5, x6, f0, f2, f3, f4, f5, f6⟩ := lf_cells B9.out
  go_upto_region 16 with fail
  have B10 := Lib.hid (lf06 B9.out 4 c2)
  have gS9 := Lib.hid (grown2x w9 w2.heap.size 0 6 (.int .i64 (4 : Nat)) (.string c2))
  try simp only [Int.cast_ofNat_Int, Int.natCast_ofNat] at B10 gS9
  generalize (w9.setCell ⟨w2.heap.size, 0, none⟩ (.int .i64 4)).setCell ⟨w2.heap.size, 6, none⟩ (.string c2) = w10 at *
  have A10 := Lib.hid (blk_row gS9.out A9.out (Nat.ne_of_lt lw))
  have R10 := Lib.hid (RdGo.stored HS.out R9.out (Nat.le_of_lt lw) gS9.out)
  clear x0 x2 x3 x4 x5 x6 f0 f2 f3 f4 f5 f6
  go_wp2_with (first
    | (refine wpList_load_row rfl 33 (.tmp 5) rfl w2.heap.size rfl 33 (lfP 4 c rv ⟨0, 0, ⟨#[]⟩⟩ c2 pos).c.toArray (0, 0) _ B10.out Tryz.underlying33 rfl (by rw [Pm.c_size]; exact pred_size) ?_)
    | (refine wpList_store_row rfl 33 (.tmp 4) (.tmp 47) rfl w.heap.size (lfP 4 c rv ⟨0, 0, ⟨#[]⟩⟩ c2 pos).c.toArray rfl rfl 33 z10 A10.out (by rw [Pm.c_size]; exact pred_size) (by rw [Pm.c_size]; rfl) (Pm.c_all _) ?_))
  obtain ⟨hp, hb⟩ := PrGo.ret (r := (s3, .mk 4 c rv ⟨0, 0, ⟨#[]⟩⟩ c2 [] [] pos)) HS.out (lfP 4 c rv ⟨0, 0, ⟨#[]⟩⟩ c2 pos) rfl (lf_leaf _ _ _ _ _ _) R10.out (Nat.le_refl _) A10.out
  exact bodyPost_ret (results_pm rfl _ _ w.heap.size _ rfl hb) rfl hp
set_option maxRecDepth 100000 in
set_option maxHeartbeats 3200000 in
theorem pname_lit (R b deep : Nat) (s s1 : RS) (c : ByteArray) (pos : Nat) (w : World) (h : RdA R b deep s w) (hn : s.name = (s1, c)) (h1 : s1.comes bIs = false) (h2 : s1.comes bNot = false) (s2 : RS) (rv : Nat) (hr0 : s1.rel = (s2, rv)) (hrv : rv ≠ 0) (hnm : s2.named = false) (s3 : RS) (v : Vl) (h3 : s2.literal = (s3, v)) :
    Calls Tryz.prog 145 #[.pointer (some ⟨R, 0, none⟩), .int .i64 pos] w (PrGo R b deep (s3, .mk 3 c rv v ⟨#[]⟩ [] [] pos) w) := by
  have HS := Lib.hid h
  have HN := Lib.hid (fun W (hW : w.grownBy W none) => pname_any R b deep s W (h.keep hW))
  rw [hn] at HN
  simp only at HN
  have hR := h.lt'
  have HI := Lib.hid (fun st (hc : st.comes bIs = false) W (hW : RdA R b deep st W) => took_no R b deep st bIs W hW (by decide) hc)
  have HT := Lib.hid (fun st (hc : st.comes bNot = false) W (hW : RdA R b deep st W) => took_no R b deep st bNot W hW (by decide) hc)
  have HRl := Lib.hid (fun W (hW : RdA R b deep s1 W) => prel_any R b deep s1 W hW)
  rw [hr0] at HRl
  simp only at HRl
  have HNm := Lib.hid (fun W (hW : RdA R b deep s2 W) => pnamed_any R b deep s2 W hW)
  rw [hnm] at HNm
  have HN2 := Lib.hid (fun W (hW : RdA R b deep s2 W) => plit_any R b deep s2 W hW)
  rw [h3] at HN2
  obtain ⟨vk, vn, vs⟩ := v
  simp only [vCT] at HN2
  have hrb : ((rv : Int) == 0) = false := by rw [beq_eq_false_iff_ne]; omega
  clear h hn hr0 hrv hnm h3
  go_enter Tryz.func145, Tryz.ntmps145
  have GA := Lib.hid (World.grownBy_alloc w (.cells z10 33) none)
  have GA1 := Lib.hid (heap_alloc_new w (.cells z10 33))
  go_wp2_with fail
  refine (HN.out _ GA.out).mono ?_
  rintro e w2 ⟨rfl, hr⟩
  have hlt := (Array.getElem?_eq_some_iff.1 GA1.out).1
  have a2 := hr.blk GA1.out (by omega)
  have R2 := Lib.hid (show RdGo R b deep s1 w w2 from ⟨hr.1, GA.out.trans' hr.2⟩)
  have lw : w.heap.size < w2.heap.size := (Array.getElem?_eq_some_iff.1 a2).1
  have lR : R < w2.heap.size := Nat.lt_of_lt_of_le hR (Nat.le_of_lt lw)
  have R3 := Lib.hid (R2.out.keep (World.grownBy_alloc w2 (.cells (lfP 0 c 0 ⟨0, 0, ⟨#[]⟩⟩ ⟨#[]⟩ pos).c.toArray 33) none))
  have A3 := Lib.hid (blk_grown (World.grownBy_alloc w2 (.cells (lfP 0 c 0 ⟨0, 0, ⟨#[]⟩⟩ ⟨#[]⟩ pos).c.toArray 33) none) a2)
  have B3 := Lib.hid (heap_alloc_new w2 (.cells (lfP 0 c 0 ⟨0, 0, ⟨#[]⟩⟩ ⟨#[]⟩ pos).c.toArray 33))
  clear hr hlt a2
  go_wp2_with fail
  refine (HI.out _ h1 _ R3.out.1).mono ?_
  rintro e w4 ⟨rfl, hr⟩
  have A4 := Lib.hid (hr.blk A3.out (by omega))
  have B4 := Lib.hid (hr.blk B3.out (by omega))
  have R4 := Lib.hid (R3.out.then hr)
  clear hr
  go_wp2_with fail
  refine (HT.out _ h2 _ R4.out.1).mono ?_
  rintro e w5 ⟨rfl, hr⟩
  have A5 := Lib.hid (hr.blk A4.out (by omega))
  have B5 := Lib.hid (hr.blk B4.out (by omega))
  have R5 := Lib.hid (R4.out.then hr)
  clear hr
  go_wp2_with fail
  refine (HRl.out _ R5.out.1).mono ?_
  rintro e w6 ⟨rfl, hr⟩
  have A6 := Lib.hid (hr.blk A5.out (by omega))
  have B6 := Lib.hid (hr.blk B5.out (by omega))
  have R6 := Lib.hid (R5.out.then hr)
  clear hr
  obtain ⟨x0, x2, x3, x4, x5, x6, f0, f2, f3, f4, f5, f6⟩ := lf_cells B6.out
  go_upto_region 12 with fail
  have B7 := Lib.hid (lf2 B6.out rv)
  have gS6 := Lib.hid (grown_cellR w6 w2.heap.size 2 (.int .i64 rv))
  try simp only [Int.cast_ofNat_Int, Int.natCast_ofNat] at B7 gS6
  generalize w6.setCell ⟨w2.heap.size, 2, none⟩ (.int .i64 rv) = w7 at *
  have A7 := Lib.hid (blk_row gS6.out A6.out (Nat.ne_of_lt lw))
  have R7 := Lib.hid (RdGo.stored HS.out R6.out (Nat.le_of_lt lw) gS6.out)
  clear x0 x2 x3 x4 x5 x6 f0 f2 f3 f4 f5 f6
  obtain ⟨x0, x2, x3, x4, x5, x6, f0, f2, f3, f4, f5, f6⟩ := lf_cells B7.out
  go_wp2_with fail
  refine (HNm.out _ R7.out.1).mono ?_
  rintro e w8 ⟨rfl, hg⟩
  have A8 := Lib.hid (blk_grown hg A7.out)
  have B8 := Lib.hid (blk_grown hg B7.out)
  have R8 := Lib.hid (R7.out.keep hg)
  clear hg
  clear x0 x2 x3 x4 x5 x6 f0 f2 f3 f4 f5 f6
  go_wp2_with fail
  refine (HN2.out _ R8.out.1).mono ?_
  rintro e w9 ⟨rfl, hr⟩
  have A9 := Lib.hid (hr.blk A8.out (by omega))
  have B9 := Lib.hid (hr.blk B8.out (by omega))
  have R9 := Lib.hid (R8.out.then hr)
  clear hr
  obtain ⟨x0, x2, x3, x4, x5, x6, f0, f2, f3, f4, f5, f6⟩ := lf_cells B9.out
  go_upto_region 16 with fail
  have B10 := Lib.hid (lf0v B9.out 3 ⟨vk, vn, vs⟩)
  have gS9 := Lib.hid (grown4x w9 w2.heap.size (.int .i64 (3 : Nat)) (.int .i64 vk) (.int .i64 vn) (.string vs))
  try simp only [Int.cast_ofNat_Int, Int.natCast_ofNat] at B10 gS9
  generalize (((w9.setCell ⟨w2.heap.size, 0, none⟩ (.int .i64 3)).setCell ⟨w2.heap.size, 3, none⟩ (.int .i64 vk)).setCell ⟨w2.heap.size, 4, none⟩ (.int .i64 vn)).setCell ⟨w2.heap.size, 5, none⟩ (.string vs) = w10 at *
  have A10 := Lib.hid (blk_row gS9.out A9.out (Nat.ne_of_lt lw))
  have R10 := Lib.hid (RdGo.stored HS.out R9.out (Nat.le_of_lt lw) gS9.out)
  clear x0 x2 x3 x4 x5 x6 f0 f2 f3 f4 f5 f6
  go_wp2_with (first
    | (refine wpList_load_row rfl 33 (.tmp 5) rfl w2.heap.size rfl 33 (lfP 3 c rv ⟨vk, vn, vs⟩ ⟨#[]⟩ pos).c.toArray (0, 0) _ B10.out Tryz.underlying33 rfl (by rw [Pm.c_size]; exact pred_size) ?_)
    | (refine wpList_store_row rfl 33 (.tmp 4) (.tmp 47) rfl w.heap.size (lfP 3 c rv ⟨vk, vn, vs⟩ ⟨#[]⟩ pos).c.toArray rfl rfl 33 z10 A10.out (by rw [Pm.c_size]; exact pred_size) (by rw [Pm.c_size]; rfl) (Pm.c_all _) ?_))
  obtain ⟨hp, hb⟩ := PrGo.ret (r := (s3, .mk 3 c rv ⟨vk, vn, vs⟩ ⟨#[]⟩ [] [] pos)) HS.out (lfP 3 c rv ⟨vk, vn, vs⟩ ⟨#[]⟩ pos) rfl (lf_leaf _ _ _ _ _ _) R10.out (Nat.le_refl _) A10.out
  exact bodyPost_ret (results_pm rfl _ _ w.heap.size _ rfl hb) rfl hp
theorem pofname_any (R b deep : Nat) (s : RS) (pos : Nat) (w : World) (h : RdA R b deep s w) :
    Calls Tryz.prog 145 #[.pointer (some ⟨R, 0, none⟩), .int .i64 pos] w (PrGo R b deep (nameP pos s) w) := by
  obtain ⟨⟨s1, c⟩, hn⟩ : ∃ y, s.name = y := ⟨_, rfl⟩
  unfold nameP
  rw [hn]
  dsimp only
  cases h1 : s1.comes bIs with
  | true =>
    rw [if_pos rfl]
    cases h2 : s1.pass.comes bNot with
    | true => rw [if_pos rfl]; exact pname_isnot R b deep s s1 c pos w h hn h1 h2
    | false => rw [if_neg (by simp)]; exact pname_is R b deep s s1 c pos w h hn h1 h2
  | false =>
    rw [if_neg (by simp)]
    cases h2 : s1.comes bNot with
    | true => rw [if_pos rfl]; exact pname_not R b deep s s1 c pos w h hn h1 h2
    | false =>
      rw [if_neg (by simp)]
      obtain ⟨⟨s2, rv⟩, hr⟩ : ∃ y, s1.rel = y := ⟨_, rfl⟩
      rw [hr]
      dsimp only
      by_cases h0 : rv = 0
      · subst h0
        rw [if_pos rfl]
        exact pname_in R b deep s s1 c pos w h hn h1 h2 s2 hr
      · rw [if_neg h0]
        cases hm : s2.named with
        | true =>
          rw [if_pos rfl]
          exact pname_cols R b deep s s1 c pos w h hn h1 h2 s2 rv hr h0 hm _ _ rfl
        | false =>
          rw [if_neg (by simp)]
          exact pname_lit R b deep s s1 c pos w h hn h1 h2 s2 rv hr h0 hm _ _ rfl
end Go.Proofs.YtjaclmoobfeikaaGreatDoor
namespace Go.Proofs.YtjaclmoobfeikaaGreatDoor
open Go.RowKit

theorem set10 {w : World} {g : Nat} {o0 o1 o2 o3 o4 o5 o6 o7 o8 o9 v0 v1 v2 v3 v4 v5 v6 v7 v8 v9 : Value} {T : TypeId} (h : w.heap[g]? = some (.cells #[o0, o1, o2, o3, o4, o5, o6, o7, o8, o9] T (0, 0))) :
    ((((((((((w.setCell ⟨g, 0, none⟩ v0).setCell ⟨g, 1, none⟩ v1).setCell ⟨g, 2, none⟩ v2).setCell ⟨g, 3, none⟩ v3).setCell ⟨g, 4, none⟩ v4).setCell ⟨g, 5, none⟩ v5).setCell ⟨g, 6, none⟩ v6).setCell ⟨g, 7, none⟩ v7).setCell ⟨g, 8, none⟩ v8).setCell ⟨g, 9, none⟩ v9).heap[g]? = some (.cells #[v0, v1, v2, v3, v4, v5, v6, v7, v8, v9] T (0, 0)) := by
  have h0 := heap_setCell_same _ _ 0 _ _ v0 h
  have h1 := heap_setCell_same _ _ 1 _ _ v1 h0
  have h2 := heap_setCell_same _ _ 2 _ _ v2 h1
  have h3 := heap_setCell_same _ _ 3 _ _ v3 h2
  have h4 := heap_setCell_same _ _ 4 _ _ v4 h3
  have h5 := heap_setCell_same _ _ 5 _ _ v5 h4
  have h6 := heap_setCell_same _ _ 6 _ _ v6 h5
  have h7 := heap_setCell_same _ _ 7 _ _ v7 h6
  have h8 := heap_setCell_same _ _ 8 _ _ v8 h7
  have h9 := heap_setCell_same _ _ 9 _ _ v9 h8
  simpa using h9
theorem grown10 (w : World) (g : Nat) (v0 v1 v2 v3 v4 v5 v6 v7 v8 v9 : Value) :
    w.grownBy ((((((((((w.setCell ⟨g, 0, none⟩ v0).setCell ⟨g, 1, none⟩ v1).setCell ⟨g, 2, none⟩ v2).setCell ⟨g, 3, none⟩ v3).setCell ⟨g, 4, none⟩ v4).setCell ⟨g, 5, none⟩ v5).setCell ⟨g, 6, none⟩ v6).setCell ⟨g, 7, none⟩ v7).setCell ⟨g, 8, none⟩ v8).setCell ⟨g, 9, none⟩ v9) (some g) :=
  grown_setX (grown_setX (grown_setX (grown_setX (grown_setX (grown_setX (grown_setX (grown_setX (grown_setX (grown_cellR w g 0 v0) 1 v1) 2 v2) 3 v3) 4 v4) 5 v5) 6 v6) 7 v7) 8 v8) 9 v9
theorem ten_f {w : World} {g : Nat} {cs : Array Value} {T : TypeId} (h : w.heap[g]? = some (.cells cs T (0, 0))) : (w.frozen? ⟨g, 0, none⟩ = false ∧ w.frozen? ⟨g, 1, none⟩ = false ∧ w.frozen? ⟨g, 2, none⟩ = false ∧ w.frozen? ⟨g, 3, none⟩ = false ∧ w.frozen? ⟨g, 4, none⟩ = false) ∧ w.frozen? ⟨g, 5, none⟩ = false ∧ w.frozen? ⟨g, 6, none⟩ = false ∧ w.frozen? ⟨g, 7, none⟩ = false ∧ w.frozen? ⟨g, 8, none⟩ = false ∧ w.frozen? ⟨g, 9, none⟩ = false :=
  ⟨⟨frozen_of_row _ _ 0 _ _ h, frozen_of_row _ _ 1 _ _ h, frozen_of_row _ _ 2 _ _ h, frozen_of_row _ _ 3 _ _ h, frozen_of_row _ _ 4 _ _ h⟩, frozen_of_row _ _ 5 _ _ h, frozen_of_row _ _ 6 _ _ h, frozen_of_row _ _ 7 _ _ h, frozen_of_row _ _ 8 _ _ h, frozen_of_row _ _ 9 _ _ h⟩
theorem lf10 {w : World} {g kd r pos : Nat} {c o vs : ByteArray} {vk vn : Int} {T : TypeId} (h : w.heap[g]? = some (.cells #[.int .i64 (kd : Int), .string c, .int .i64 (r : Int), .int .i64 vk, .int .i64 vn, .string vs, .string o, .slice Option.none 0 0, .slice Option.none 0 0, .int .i64 (pos : Int)] T (0, 0))) : w.heap[g]? = some (.cells (lfP kd c r ⟨vk, vn, vs⟩ o pos).c.toArray T (0, 0)) := by
  simpa [lfP, Pm.c] using h
theorem turn_nat (r : Nat) (h1 : 1 ≤ r) (h2 : r ≤ 6) : turnT (r : Int) = ((turnR r : Nat) : Int) ∧ relE (r : Int) = 0 := by
  have hk : r = 1 ∨ r = 2 ∨ r = 3 ∨ r = 4 ∨ r = 5 ∨ r = 6 := by omega
  rcases hk with rfl | rfl | rfl | rfl | rfl | rfl <;> exact ⟨by decide, by decide⟩
theorem rel_le (s : RS) : s.rel.2 ≤ 6 := by
  unfold RS.rel relT
  repeat' split
  all_goals simp_all
theorem PrGo.retG {R b deep : Nat} {s0 : RS} {r : RS × Prd} {w W W' : World} {g : Nat} (h0 : RdA R b deep s0 w) (y : Pm) (hy : y.e = r.2) (hS : PmS (fun j => w.heap.size ≤ j) W' y) (hR : RdGo R b deep r.1 w W) (hg : w.heap.size ≤ g) (hgr : W.grownBy W' (some g)) :
    PrGo R b deep r w (.returned y.v) W' :=
  ⟨y, rfl, hy, hS, RdGo.stored h0 hR hg hgr⟩
set_option maxRecDepth 100000 in
set_option maxHeartbeats 3200000 in
theorem pofl_cmp (R b deep : Nat) (s s1 : RS) (v : Vl) (pos : Nat) (w : World) (h : RdA R b deep s w) (hl : s.literal = (s1, v)) (s2 : RS) (rv : Nat) (hr0 : s1.rel = (s2, rv)) (hrv : rv ≠ 0) (hnm : s2.named = true) (s3 : RS) (c2 : ByteArray) (h3 : s2.name = (s3, c2)) :
    Calls Tryz.prog 146 #[.pointer (some ⟨R, 0, none⟩), .int .i64 pos] w (PrGo R b deep (s3, .mk 3 c2 (turnR rv) v ⟨#[]⟩ [] [] pos) w) := by
  have HS := Lib.hid h
  have HL := Lib.hid (fun W (hW : w.grownBy W none) => plit_any R b deep s W (h.keep hW))
  rw [hl] at HL
  obtain ⟨vk, vn, vs⟩ := v
  simp only [vCT] at HL
  have HRl := Lib.hid (fun W (hW : RdA R b deep s1 W) => prel_any R b deep s1 W hW)
  have h6 := rel_le s1
  rw [hr0] at HRl h6
  simp only at HRl h6
  have HNm := Lib.hid (fun W (hW : RdA R b deep s2 W) => pnamed_any R b deep s2 W hW)
  rw [hnm] at HNm
  have HN2 := Lib.hid (fun W (hW : RdA R b deep s2 W) => pname_any R b deep s2 W hW)
  rw [h3] at HN2
  simp only at HN2
  have HTu := Lib.hid (fun W => turned_any (rv : Int) W)
  obtain ⟨e1, e2⟩ := turn_nat rv (by omega) h6
  rw [e1, e2] at HTu
  have hR := h.lt'
  have hrb : ((rv : Int) == 0) = false := by rw [beq_eq_false_iff_ne]; omega
  generalize turnR rv = tr at *
  clear h hl hr0 hrv hnm h3 h6 e1 e2
  go_enter Tryz.func146, Tryz.ntmps146
  have GA := Lib.hid (World.grownBy_alloc w (.cells z10 33) none)
  have GA1 := Lib.hid (heap_alloc_new w (.cells z10 33))
  go_wp2_with fail
  refine (HL.out _ GA.out).mono ?_
  rintro e w2 ⟨rfl, hr⟩
  have hlt := (Array.getElem?_eq_some_iff.1 GA1.out).1
  have a2 := hr.blk GA1.out (by omega)
  have R2 := Lib.hid (show RdGo R b deep s1 w w2 from ⟨hr.1, GA.out.trans' hr.2⟩)
  have lw : w.heap.size < w2.heap.size := (Array.getElem?_eq_some_iff.1 a2).1
  have lR : R < w2.heap.size := Nat.lt_of_lt_of_le hR (Nat.le_of_lt lw)
  have R3 := Lib.hid (R2.out.keep (World.grownBy_alloc w2 (.cells #[.int .i64 vk, .int .i64 vn, .string vs] 29) none))
  have A3 := Lib.hid (blk_grown (World.grownBy_alloc w2 (.cells #[.int .i64 vk, .int .i64 vn, .string vs] 29) none) a2)
  have B3 := Lib.hid (heap_alloc_new w2 (.cells #[.int .i64 vk, .int .i64 vn, .string vs] 29))
  clear hr hlt a2
  go_wp2_with fail
  refine (HRl.out _ R3.out.1).mono ?_
  rintro e w4 ⟨rfl, hr⟩
  have A4 := Lib.hid (hr.blk A3.out (by omega))
  have B4 := Lib.hid (hr.blk B3.out (by omega))
  have R4 := Lib.hid (R3.out.then hr)
  clear hr
  go_wp2_with fail
  refine (HNm.out _ R4.out.1).mono ?_
  rintro e w5 ⟨rfl, hg⟩
  have A5 := Lib.hid (blk_grown hg A4.out)
  have B5 := Lib.hid (blk_grown hg B4.out)
  have R5 := Lib.hid (R4.out.keep hg)
  clear hg
  go_wp2_with fail
  refine (HTu.out _).mono ?_
  rintro e w6 ⟨rfl, hb⟩
  have hg := grown_belowT hb none
  have A6 := Lib.hid (blk_grown hg A5.out)
  have B6 := Lib.hid (blk_grown hg B5.out)
  have R6 := Lib.hid (R5.out.keep hg)
  have RA := Lib.hid (R6.out.1.keep (grown_drewT (grown_reflT w6 none)))
  obtain ⟨⟨x0, x1, x2⟩, _, _, _⟩ := three_of (show w6.drew.heap[w2.heap.size]? = some (.cells #[.int .i64 vk, .int .i64 vn, .string vs] 29 (0, 0)) from B6.out)
  clear hg hb
  go_wp2_with fail
  go_region_law (go_simp; go_at_call 56; (((with_reducible refine (HN2.out w6.drew RA.out).mono ?_); rintro e w7 ⟨rfl, hr⟩; have A7 := Lib.hid (hr.blk A6.out (by omega)); have R7 := Lib.hid ((R6.out.keep (grown_drewT (grown_reflT w6 none))).then hr); obtain ⟨⟨y0, y1, y2⟩, _, _, _⟩ := three_of (hr.blk B6.out (by omega)); obtain ⟨⟨p0, p1, p2, p3, p4⟩, p5, p6, p7, p8, p9⟩ := ten_of (show w7.heap[w.heap.size]? = some (.cells #[.int .i64 0, .string ⟨#[]⟩, .int .i64 0, .int .i64 0, .int .i64 0, .string ⟨#[]⟩, .string ⟨#[]⟩, .slice Option.none 0 0, .slice Option.none 0 0, .int .i64 0] 33 (0, 0)) from A7.out); obtain ⟨⟨q0, q1, q2, q3, q4⟩, q5, q6, q7, q8, q9⟩ := ten_f A7.out; clear hr)))
  all_goals
    go_wp2_with fail
    have hs0 := set10 A7.out (v0 := .int .i64 3) (v1 := .string c2) (v2 := .int .i64 (tr : Int)) (v3 := .int .i64 vk) (v4 := .int .i64 vn) (v5 := .string vs) (v6 := .string ⟨#[]⟩) (v7 := .slice Option.none 0 0) (v8 := .slice Option.none 0 0) (v9 := .int .i64 (pos : Int))
    have hs := lf10 (kd := 3) hs0
    have hg := grown10 w7 w.heap.size (.int .i64 3) (.string c2) (.int .i64 (tr : Int)) (.int .i64 vk) (.int .i64 vn) (.string vs) (.string ⟨#[]⟩) (.slice Option.none 0 0) (.slice Option.none 0 0) (.int .i64 (pos : Int))
    have hp := PrGo.retG (r := (s3, .mk 3 c2 tr ⟨vk, vn, vs⟩ ⟨#[]⟩ [] [] pos)) HS.out (lfP 3 c2 tr ⟨vk, vn, vs⟩ ⟨#[]⟩ pos) rfl (lf_leaf _ _ _ _ _ _) R7.out (Nat.le_refl _) hg
    exact bodyPost_ret (results_pm rfl _ _ w.heap.size _ rfl hs) rfl hp
end Go.Proofs.YtjaclmoobfeikaaGreatDoor
