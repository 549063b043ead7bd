/- The reader's one, so many in one another as may be. A query in memory while it is read. The reader's query. -/
import Derived.Test.YtjaclmoobfeikaaGreatDoorZl31
import Derived.Deep.Cut
namespace Go.Proofs.YtjaclmoobfeikaaGreatDoor
open Go.RowKit

set_option maxRecDepth 100000 in
set_option maxHeartbeats 3200000 in
theorem pone_deep (R b : Nat) (s : RS) (w : World) (h : RdA R b 20 s w) :
    Calls Tryz.prog 117 #[.pointer (some ⟨R, 0, none⟩)] w (PrGo R b 20 (oneF 0 s) w) := by
  have HS := Lib.hid h
  have HW := Lib.hid (fun W (hW : w.grownBy W none) => wrong_any R b 20 s 12 W (h.keep hW))
  simp only [show ((12 : Nat) : Int) = 12 from rfl] at HW
  have hR := h.lt'
  unfold oneF
  clear h
  go_enter Tryz.func117, Tryz.ntmps117
  have GA := Lib.hid (World.grownBy_alloc w (.cells z10 33) none)
  have GA1 := Lib.hid (heap_alloc_new w (.cells z10 33))
  obtain ⟨c1, _⟩ := (HS.out.keep GA.out).deepc
  rw [show ((20 : Nat) : Int) = 20 from rfl] at c1
  have c1' : (w.alloc (.cells #[.int .i64 0, .string ⟨#[]⟩, .int .i64 0, .int .i64 0, .int .i64 0, .string ⟨#[]⟩, .string ⟨#[]⟩, .slice Option.none 0 0, .slice Option.none 0 0, .int .i64 0] 33)).cell? ⟨R, 1, none⟩ = some (.int .i64 20) := c1
  clear c1
  go_wp2_with fail
  refine (HW.out _ GA.out).mono ?_
  rintro e w2 ⟨rfl, hr⟩
  have A2 := Lib.hid (hr.blk GA1.out (by omega))
  have R2 := Lib.hid (show RdGo R b 20 (s.wrong 12) w w2 from ⟨hr.1, GA.out.trans' hr.2⟩)
  clear hr c1'
  obtain ⟨⟨p0, p1, p2, p3, p4⟩, p5, p6, p7, p8, p9⟩ := ten_of (show w2.heap[w.heap.size]? = some (.cells #[.int .i64 0, .string ⟨#[]⟩, .int .i64 0, .int .i64 0, .int .i64 0, .string ⟨#[]⟩, .string ⟨#[]⟩, .slice Option.none 0 0, .slice Option.none 0 0, .int .i64 0] 33 (0, 0)) from A2.out)
  obtain ⟨⟨q0, q1, q2, q3, q4⟩, q5, q6, q7, q8, q9⟩ := ten_f A2.out
  go_wp2_with fail
  have hs := lf10 (kd := 0) (r := 0) (pos := 0) (set10 A2.out (v0 := .int .i64 0) (v1 := .string ⟨#[]⟩) (v2 := .int .i64 0) (v3 := .int .i64 0) (v4 := .int .i64 0) (v5 := .string ⟨#[]⟩) (v6 := .string ⟨#[]⟩) (v7 := .slice Option.none 0 0) (v8 := .slice Option.none 0 0) (v9 := .int .i64 0))
  have hg := grown10 w2 w.heap.size (.int .i64 0) (.string ⟨#[]⟩) (.int .i64 0) (.int .i64 0) (.int .i64 0) (.string ⟨#[]⟩) (.string ⟨#[]⟩) (.slice Option.none 0 0) (.slice Option.none 0 0) (.int .i64 0)
  have hp := PrGo.retG (r := (s.wrong 12, Prd.none)) HS.out (lfP 0 ⟨#[]⟩ 0 ⟨0, 0, ⟨#[]⟩⟩ ⟨#[]⟩ 0) rfl (lf_leaf _ _ _ _ _ _) R2.out (Nat.le_refl _) hg
  exact bodyPost_ret (results_pm rfl _ _ w.heap.size _ rfl hs) rfl hp
set_option maxRecDepth 100000 in
set_option maxHeartbeats 3200000 in
theorem pone_step (R b deep d : Nat) (hd : deep ≤ 19) (HF : ∀ s w, RdA R b (deep + 1) s w → Calls Tryz.prog 133 #[.pointer (some ⟨R, 0, none⟩)] w (PrGo R b (deep + 1) (oneF (d + 1) s) w)) (s : RS) (w : World) (h : RdA R b deep s w) :
    Calls Tryz.prog 117 #[.pointer (some ⟨R, 0, none⟩)] w (PrGo R b deep (oneF (d + 1) s) w) := by
  have HS := Lib.hid h
  have HF1 := Lib.hid (fun W (hW : RdA R b (deep + 1) s W) => HF s W hW)
  generalize oneF (d + 1) s = r at *
  have hR := h.lt'
  clear h HF
  go_enter Tryz.func117, Tryz.ntmps117
  have GA := Lib.hid (World.grownBy_alloc w (.cells z10 33) none)
  have GA1 := Lib.hid (heap_alloc_new w (.cells z10 33))
  obtain ⟨c1, f1⟩ := (HS.out.keep GA.out).deepc
  have c1' : (w.alloc (.cells #[.int .i64 0, .string ⟨#[]⟩, .int .i64 0, .int .i64 0, .int .i64 0, .string ⟨#[]⟩, .string ⟨#[]⟩, .slice Option.none 0 0, .slice Option.none 0 0, .int .i64 0] 33)).cell? ⟨R, 1, none⟩ = some (.int .i64 deep) := c1
  have f1' : (w.alloc (.cells #[.int .i64 0, .string ⟨#[]⟩, .int .i64 0, .int .i64 0, .int .i64 0, .string ⟨#[]⟩, .string ⟨#[]⟩, .slice Option.none 0 0, .slice Option.none 0 0, .int .i64 0] 33)).frozen? ⟨R, 1, none⟩ = false := f1
  clear c1 f1
  have d0 : ((deep : Int) == 20) = false := by rw [beq_eq_false_iff_ne]; omega
  have d1 : (0 : Int) ≤ deep := by omega
  have d2 : (deep : Int) ≤ 19 := by omega
  go_wp2_with fail
  have e1 : ((deep + 1 : Nat) : Int) = (deep : Int) + 1 := by omega
  have gC := Lib.hid (grown_cellR w R 1 (.int .i64 ((deep : Int) + 1)))
  have z2 : (w.setCell ⟨R, 1, none⟩ (.int .i64 ((deep : Int) + 1))).heap.size = w.heap.size := by simp [World.setCell]
  have gB := Lib.hid (World.grownBy_alloc (w.setCell ⟨R, 1, none⟩ (.int .i64 ((deep : Int) + 1))) (.cells z10 33) none)
  have A2 := Lib.hid (heap_alloc_new (w.setCell ⟨R, 1, none⟩ (.int .i64 ((deep : Int) + 1))) (.cells z10 33))
  have R2 := Lib.hid (show RdA R b (deep + 1) s (w.setCell ⟨R, 1, none⟩ (.int .i64 ((deep : Int) + 1))) by have := HS.out.deepen (deep + 1); rw [e1] at this; exact this)
  have R2' := Lib.hid (R2.out.keep gB.out)
  have g2 := Lib.hid (gC.out.trans (grown_anyR gB.out (some R)))
  rw [z2] at A2
  have z3 : ((w.setCell ⟨R, 1, none⟩ (.int .i64 ((deep : Int) + 1))).alloc (.cells z10 33)).heap.size = w.heap.size + 1 := by simp [z2]
  clear c1' f1' R2 gB gC GA GA1
  refine (HF1.out _ R2'.out).mono ?_
  generalize (w.setCell ⟨R, 1, none⟩ (.int .i64 ((deep : Int) + 1))).alloc (.cells z10 33) = w2 at *
  rintro e w3 ⟨x, rfl, hx, hxS, hgo⟩
  have A3 := Lib.hid (hgo.blk A2.out (by omega))
  have R3 := Lib.hid hgo
  have l3 := hgo.2.size
  have B3 := Lib.hid (heap_alloc_new w3 (.cells z10 33))
  have HX := Lib.hid (And.intro hx hxS)
  clear hgo hx hxS
  go_upto_region 6 with (refine wpList_store_row rfl 33 (.tmp 3) (.tmp 20) rfl w3.heap.size x.c.toArray rfl rfl 33 z10 B3.out (by rw [Pm.c_size]; exact pred_size) (by rw [Pm.c_size]; rfl) (Pm.c_all _) ?_)
  have gA := Lib.hid (World.grownBy_alloc w3 (.cells z10 33) none)
  have gS := Lib.hid (grown_setRow (w3.alloc (.cells z10 33)) w3.heap.size x.c.toArray)
  have B4 := Lib.hid (setRow_heap (w3.alloc (.cells z10 33)) w3.heap.size z10 x.c.toArray _ _ B3.out)
  have A4 := Lib.hid (blk_row gS.out (blk_grown gA.out A3.out) (by omega))
  have R4 := Lib.hid (RdGo.stored R2'.out (R3.out.keep gA.out) (by omega) gS.out)
  have X4 := Lib.hid ((HX.out.2.mono (S' := fun j => w.heap.size < j ∧ j ≠ w3.heap.size) (fun j hj1 hj => by omega)).keep ⟨Nat.le_trans gA.out.size gS.out.size, fun k hk hlt => (gS.out.block k (Nat.lt_of_lt_of_le hlt gA.out.size) (by simp; exact hk.2)).trans (gA.out.block k hlt (by simp))⟩)
  clear gA gS B3 R3
  simp only [z10] at B4 A4 R4 X4
  generalize (w3.alloc (.cells #[.int .i64 0, .string ⟨#[]⟩, .int .i64 0, .int .i64 0, .int .i64 0, .string ⟨#[]⟩, .string ⟨#[]⟩, .slice Option.none 0 0, .slice Option.none 0 0, .int .i64 0] 33)).setRow w3.heap.size x.c.toArray = w4 at *
  obtain ⟨c4, f4⟩ := R4.out.1.deepc
  rw [e1] at c4
  have gC := Lib.hid (grown_cellR w4 R 1 (.int .i64 (deep : Int)))
  have A5 := Lib.hid (blk_row gC.out A4.out (by omega))
  have B5 := Lib.hid (blk_row gC.out B4.out (by omega))
  have R5 := Lib.hid (show RdGo R b deep r.1 w (w4.setCell ⟨R, 1, none⟩ (.int .i64 (deep : Int))) from ⟨R4.out.1.deepen deep, g2.out.trans (R4.out.2.trans gC.out)⟩)
  have X5 := Lib.hid (X4.out.keep ⟨gC.out.size, fun k hk hlt => gC.out.block k hlt (by simp; omega)⟩)
  clear gC A4 B4 X4
  go_wp2_with (first
    | (refine wpList_load_row rfl 33 (.tmp 3) rfl w3.heap.size rfl 33 x.c.toArray (0, 0) _ B5.out Tryz.underlying33 rfl (by rw [Pm.c_size]; exact pred_size) ?_)
    | (refine wpList_store_row rfl 33 (.tmp 2) (.tmp 28) rfl w.heap.size x.c.toArray rfl rfl 33 z10 A5.out (by rw [Pm.c_size]; exact pred_size) (by rw [Pm.c_size]; rfl) (Pm.c_all _) ?_))
  obtain ⟨hp, hb⟩ := PrGo.ret (r := r) HS.out x HX.out.1 (X5.out.mono (fun j _ hj => ⟨Nat.le_of_lt hj.1, fun e => by have := hj.1; omega⟩)) R5.out (Nat.le_refl _) A5.out
  exact bodyPost_ret (results_pm rfl _ _ w.heap.size _ rfl hb) rfl hp
theorem pone_any (R b : Nat) : ∀ (d deep : Nat), deep + d = 20 → ∀ (s : RS) (w : World), RdA R b deep s w →
    Calls Tryz.prog 117 #[.pointer (some ⟨R, 0, none⟩)] w (PrGo R b deep (oneF d s) w)
  | 0, deep, hd, s, w, h => by
    obtain rfl : deep = 20 := by omega
    exact pone_deep R b s w h
  | d + 1, deep, hd, s, w, h =>
    pone_step R b deep d (by omega) (fun s w h => pform_any R b (deep + 1) d (fun s w h => pone_any R b d (deep + 1) (by omega) s w h) s w h) s w h
/-- What WHERE reads. -/
theorem pwhere_any (R b : Nat) (s : RS) (w : World) (h : RdA R b 0 s w) :
    Calls Tryz.prog 57 #[.pointer (some ⟨R, 0, none⟩)] w (PrGo R b 0 (anyF 20 s) w) :=
  pany_any R b 0 20 (fun s w h => pone_any R b 20 0 rfl s w h) s w h
end Go.Proofs.YtjaclmoobfeikaaGreatDoor
namespace Go.Proofs.YtjaclmoobfeikaaGreatDoor
open Go.RowKit

/-- A query with the places of its lists. -/
structure Qm where
  ia : Ptr
  ic : Nat
  items : List Itm
  all : Bool
  table : ByteArray
  cond : Pm
  ga : Ptr
  gc : Nat
  group : List Itm
  oa : Ptr
  oc : Nat
  order : List Kyo
  limit : Int
def Qm.l (y : Qm) : List Value := .slice y.ia y.items.length y.ic :: .bool y.all :: .string y.table :: (y.cond.c ++ [.slice y.ga y.group.length y.gc, .slice y.oa y.order.length y.oc, .int .i64 y.limit, .int .i64 0])
def Qm.c (y : Qm) : Array Value := y.l.toArray
def Qm.e (y : Qm) : Qry := ⟨y.items, y.all, y.table, y.cond.e, y.group, y.order, y.limit⟩
theorem Qm.c_size (y : Qm) : y.c.size = 17 := by simp [Qm.c, Qm.l, Pm.c_len]
theorem Qm.c_all (y : Qm) : y.c.all (·.oneCell') = true := all_oneCell_toArray (by
  intro u hu
  simp only [Qm.l, List.mem_cons, List.mem_append, List.not_mem_nil, or_false] at hu
  rcases hu with rfl | rfl | rfl | hu | rfl | rfl | rfl | rfl
  · rfl
  · rfl
  · rfl
  · exact Pm.c_one _ u hu
  · rfl
  · rfl
  · rfl
  · rfl)
def QmS (S : Nat → Prop) (w : World) (y : Qm) : Prop := (CellsS S w y.ia (y.items.flatMap Itm.c) ∧ y.items.length ≤ y.ic) ∧ PmS S w y.cond ∧ (CellsS S w y.ga (y.group.flatMap Itm.c) ∧ y.group.length ≤ y.gc) ∧ CellsS S w y.oa (y.order.flatMap Kyo.c) ∧ y.order.length ≤ y.oc
theorem QmS.keep {S : Nat → Prop} {w w' : World} {y : Qm} (h : QmS S w y) (hk : Stays S w w') : QmS S w' y :=
  ⟨⟨h.1.1.keep hk, h.1.2⟩, h.2.1.keep hk, ⟨h.2.2.1.1.keep hk, h.2.2.1.2⟩, h.2.2.2.1.keep hk, h.2.2.2.2⟩
theorem QmS.mono {S S' : Nat → Prop} {w : World} {y : Qm} (h : QmS S w y) (hs : ∀ b, b < w.heap.size → S b → S' b) : QmS S' w y :=
  ⟨⟨h.1.1.mono hs, h.1.2⟩, h.2.1.mono hs, ⟨h.2.2.1.1.mono hs, h.2.2.1.2⟩, h.2.2.2.1.mono hs, h.2.2.2.2⟩
theorem qm_items (y : Qm) (a : Ptr) (c : Nat) (l : List Itm) : y.c.setIfInBounds 0 (.slice a l.length c) = { y with ia := a, ic := c, items := l : Qm }.c := by
  obtain ⟨_, _, _, _, _, ⟨_, _, _, _, _, _, _, _, _, _, _, _⟩, _, _, _, _, _, _, _⟩ := y; rfl
theorem qm_all (y : Qm) (v : Bool) : y.c.setIfInBounds 1 (.bool v) = { y with all := v : Qm }.c := by
  obtain ⟨_, _, _, _, _, ⟨_, _, _, _, _, _, _, _, _, _, _, _⟩, _, _, _, _, _, _, _⟩ := y; rfl
theorem qm_table (y : Qm) (v : ByteArray) : y.c.setIfInBounds 2 (.string v) = { y with table := v : Qm }.c := by
  obtain ⟨_, _, _, _, _, ⟨_, _, _, _, _, _, _, _, _, _, _, _⟩, _, _, _, _, _, _, _⟩ := y; rfl
theorem qm_group (y : Qm) (a : Ptr) (c : Nat) (l : List Itm) : y.c.setIfInBounds 13 (.slice a l.length c) = { y with ga := a, gc := c, group := l : Qm }.c := by
  obtain ⟨_, _, _, _, _, ⟨_, _, _, _, _, _, _, _, _, _, _, _⟩, _, _, _, _, _, _, _⟩ := y; rfl
theorem qm_order (y : Qm) (a : Ptr) (c : Nat) (l : List Kyo) : y.c.setIfInBounds 14 (.slice a l.length c) = { y with oa := a, oc := c, order := l : Qm }.c := by
  obtain ⟨_, _, _, _, _, ⟨_, _, _, _, _, _, _, _, _, _, _, _⟩, _, _, _, _, _, _, _⟩ := y; rfl
theorem qm_limit (y : Qm) (v : Int) : y.c.setIfInBounds 15 (.int .i64 v) = { y with limit := v : Qm }.c := by
  obtain ⟨_, _, _, _, _, ⟨_, _, _, _, _, _, _, _, _, _, _, _⟩, _, _, _, _, _, _, _⟩ := y; rfl
def Qm.z (n : Int) : Qm := ⟨Option.none, 0, [], false, ⟨#[]⟩, Pm.none, Option.none, 0, [], Option.none, 0, [], n⟩
/-- The query's block, r's box, the result's block; the reader at st. -/
structure QJ (R b : Nat) (w W : World) (st : RS) (y : Qm) : Prop where
  go : RdGo R b 0 st w W
  q : W.heap[w.heap.size + 1 + 1]? = some (.cells y.c 36 (0, 0))
  rb : W.heap[w.heap.size]? = some (.cells #[.pointer (some ⟨R, 0, none⟩)] 127 (0, 0))
  res : W.heap[w.heap.size + 1]? = some (.cells (Qm.z 0).c 36 (0, 0))
  mem : QmS (fun j => w.heap.size + 1 + 1 < j) W y
  lR : R < w.heap.size
  lb : b < w.heap.size
  lE : 11 < w.heap.size
theorem QJ.then {R b : Nat} {w W W' : World} {st st' : RS} {y : Qm} (h : QJ R b w W st y) (hg : RdGo R b 0 st' W W') : QJ R b w W' st' y where
  go := h.go.then hg
  q := (hg.2.block _ (Array.getElem?_eq_some_iff.1 h.q).1 (by have := h.lR; simp; omega)).trans h.q
  rb := (hg.2.block _ (Array.getElem?_eq_some_iff.1 h.rb).1 (by have := h.lR; simp; omega)).trans h.rb
  res := (hg.2.block _ (Array.getElem?_eq_some_iff.1 h.res).1 (by have := h.lR; simp; omega)).trans h.res
  mem := h.mem.keep ⟨hg.2.size, fun k hk hlt => hg.2.block k hlt (by have := h.lR; simp; omega)⟩
  lR := h.lR
  lb := h.lb
  lE := h.lE
/-- The query's block is overwritten. -/
theorem QJ.put {R b : Nat} {w W W' : World} {st : RS} {y y' : Qm} (h : QJ R b w W st y) (hg : W.grownBy W' (some (w.heap.size + 1 + 1))) (hq : W'.heap[w.heap.size + 1 + 1]? = some (.cells y'.c 36 (0, 0))) (hm : QmS (fun j => w.heap.size + 1 + 1 < j) W' y') : QJ R b w W' st y' := by
  have lR := h.lR
  have lb := h.lb
  have lE := h.lE
  have ho : Only (fun k => k = w.heap.size + 1 + 1) W W' := (Only.of_grown hg).mono (fun k _ e => by cases e; rfl)
  exact ⟨⟨h.go.1.only ho (by omega) (by omega) (by omega), only_grownR h.go.2 ho (fun j e => .inr (by omega))⟩, hq, (hg.block _ (Array.getElem?_eq_some_iff.1 h.rb).1 (by simp; omega)).trans h.rb, (hg.block _ (Array.getElem?_eq_some_iff.1 h.res).1 (by simp)).trans h.res, hm, lR, lb, lE⟩
theorem QJ.keepM {R b : Nat} {w W W' : World} {st : RS} {y : Qm} (h : QJ R b w W st y) (hg : W.grownBy W' (some (w.heap.size + 1 + 1))) : QmS (fun j => w.heap.size + 1 + 1 < j) W' y :=
  h.mem.keep ⟨hg.size, fun k hk hlt => hg.block k hlt (by simp; omega)⟩
theorem win_cells {sz : Nat} {S : Nat → Prop} {w : World} {a : Ptr} {cap n : Nat} {xs : List Value} (h : Win sz w a cap n xs) (hS : ∀ k, bk a k → S k) : CellsS S w a xs := by
  rcases h.mem with e | ⟨g, off, e, hc, _, _⟩
  · have h1 := h.le
    have h2 := h.len
    obtain rfl : n = 0 := by omega
    exact .inl (List.eq_nil_of_length_eq_zero (by omega))
  · subst e
    exact .inr ⟨g, off, rfl, hS g rfl, h.lt g rfl, hc⟩
/-- Behind a list that a closure has read into the query. -/
theorem QJ.ls {R b ix sz : Nat} {w W W' : World} {st st' : RS} {y : Qm} {n : Nat} {xs : List Value} (h : QJ R b w W st y) (hj : LsJ sz W (w.heap.size + 1 + 1) ix w.heap.size R y.c 36 W' n xs) (hR : RdA R b 0 st' W') :
    ∃ a cap, CellsS (fun j => w.heap.size + 1 + 1 < j) W' a xs ∧ n ≤ cap ∧ ∀ y' : Qm, y.c.setIfInBounds ix (.slice a n cap) = y'.c → (QmS (fun j => w.heap.size + 1 + 1 < j) W' y → QmS (fun j => w.heap.size + 1 + 1 < j) W' y') → QJ R b w W' st' y' := by
  obtain ⟨a, cap, hb, hw, hk⟩ := hj.blk
  have lq := (Array.getElem?_eq_some_iff.1 h.q).1
  have lR := h.lR
  refine ⟨a, cap, win_cells hw (fun k e => by have := hk k e; omega), hw.le, fun y' hy hm => ⟨⟨hR, only_grownR h.go.2 hj.only (fun j hj => hj.imp id (fun e => by omega))⟩, by rw [hb, hy], hj.rblk, (hj.only.block _ (Array.getElem?_eq_some_iff.1 h.res).1 (by omega)).trans h.res, hm (h.mem.keep ⟨hj.only.size, fun k hk hlt => hj.only.block k hlt (by omega)⟩), h.lR, h.lb, h.lE⟩⟩
theorem QJ.begin {R b ix sz : Nat} {w W : World} {st : RS} {y : Qm} (h : QJ R b w W st y) (h0 : y.c.setIfInBounds ix (.slice Option.none 0 0) = y.c) : LsJ sz W (w.heap.size + 1 + 1) ix w.heap.size R y.c 36 W 0 [] :=
  ⟨⟨Option.none, 0, by rw [h0]; exact h.q, Win.nil _ _, fun k hk => by simp [bk] at hk⟩, h.rb, Only.refl _ _⟩
theorem qitems_any (R b : Nat) (w W : World) (st : RS) (y : Qm) (h : QJ R b w W st y) (hy : y.items = [] ∧ y.ia = Option.none ∧ y.ic = 0) :
    Calls Tryz.prog 53 #[.pointer (some ⟨R, 0, none⟩), .int .i64 8, .func (.func 54) #[] #[.pointer (some ⟨w.heap.size + 1 + 1, 0, none⟩), .pointer (some ⟨w.heap.size, 0, none⟩)]] W fun e w' => e = .returned (.tuple #[]) ∧
      ∃ a cap, QJ R b w w' (listF 8 itemL 9 st []).1 { y with ia := a, ic := cap, items := (listF 8 itemL 9 st []).2 } := by
  have h0 : y.c.setIfInBounds 0 (.slice Option.none 0 0) = y.c := by
    have := qm_items y Option.none 0 []
    rw [show ([] : List Itm).length = 0 from rfl] at this
    rw [this, ← hy.1, ← hy.2.1]
    obtain ⟨_, h3⟩ := hy.2
    cases y
    simp only at h3
    subst h3
    rfl
  have lR := h.lR
  have lb := h.lb
  have lE := h.lE
  have lq := (Array.getElem?_eq_some_iff.1 h.q).1
  have hc := y.c_size
  refine (plist_any R b 0 8 54 _ _ itemL (fun W' acc => LsJ 3 W (w.heap.size + 1 + 1) 0 w.heap.size R y.c 36 W' acc.length (acc.flatMap Itm.c)) st W h.go.1 (h.begin h0) (by decide) (by decide)
    (fun W1 W2 acc hj hg => hj.row hg (by omega) (by omega) (by omega)) (fun args W => Tryz.call54 args W)
    (fun W1 st1 acc hR hj hl => pitem1_any R b 0 _ _ st1 y.c 36 W W1 acc hR hj (by omega) (by omega) (by omega) (by omega) (by omega) (by omega) (by omega) (by omega) (by omega) (by omega))).mono ?_
  rintro e w' ⟨rfl, hR, hj⟩
  obtain ⟨a, cap, hcs, hle, hq⟩ := h.ls hj hR
  exact ⟨rfl, a, cap, hq _ (qm_items y a cap _) (fun hm => ⟨⟨hcs, hle⟩, hm.2⟩)⟩
theorem qgroup_any (R b : Nat) (w W : World) (st : RS) (y : Qm) (h : QJ R b w W st y) (hy : y.group = [] ∧ y.ga = Option.none ∧ y.gc = 0) :
    Calls Tryz.prog 53 #[.pointer (some ⟨R, 0, none⟩), .int .i64 8, .func (.func 58) #[] #[.pointer (some ⟨w.heap.size + 1 + 1, 0, none⟩), .pointer (some ⟨w.heap.size, 0, none⟩)]] W fun e w' => e = .returned (.tuple #[]) ∧
      ∃ a cap, QJ R b w w' (listF 8 columnL 9 st []).1 { y with ga := a, gc := cap, group := (listF 8 columnL 9 st []).2 } := by
  have h0 : y.c.setIfInBounds 13 (.slice Option.none 0 0) = y.c := by
    have := qm_group y Option.none 0 []
    rw [show ([] : List Itm).length = 0 from rfl] at this
    rw [this, ← hy.1, ← hy.2.1]
    obtain ⟨_, h3⟩ := hy.2
    cases y
    simp only at h3
    subst h3
    rfl
  have lR := h.lR
  have lb := h.lb
  have lE := h.lE
  have lq := (Array.getElem?_eq_some_iff.1 h.q).1
  have hc := y.c_size
  refine (plist_any R b 0 8 58 _ _ columnL (fun W' acc => LsJ 3 W (w.heap.size + 1 + 1) 13 w.heap.size R y.c 36 W' acc.length (acc.flatMap Itm.c)) st W h.go.1 (h.begin h0) (by decide) (by decide)
    (fun W1 W2 acc hj hg => hj.row hg (by omega) (by omega) (by omega)) (fun args W => Tryz.call58 args W)
    (fun W1 st1 acc hR hj hl => pname1_any R b 0 _ _ st1 y.c 36 W W1 acc hR hj (by omega) (by omega) (by omega) (by omega) (by omega) (by omega) (by omega) (by omega) (by omega) (by omega))).mono ?_
  rintro e w' ⟨rfl, hR, hj⟩
  obtain ⟨a, cap, hcs, hle, hq⟩ := h.ls hj hR
  exact ⟨rfl, a, cap, hq _ (qm_group y a cap _) (fun hm => ⟨hm.1, hm.2.1, ⟨hcs, hle⟩, hm.2.2.2⟩)⟩
theorem qorder_any (R b : Nat) (w W : World) (st : RS) (y : Qm) (h : QJ R b w W st y) (hy : y.order = [] ∧ y.oa = Option.none ∧ y.oc = 0) :
    Calls Tryz.prog 53 #[.pointer (some ⟨R, 0, none⟩), .int .i64 8, .func (.func 60) #[] #[.pointer (some ⟨w.heap.size + 1 + 1, 0, none⟩), .pointer (some ⟨w.heap.size, 0, none⟩)]] W fun e w' => e = .returned (.tuple #[]) ∧
      ∃ a cap, QJ R b w w' (listF 8 keyL 9 st []).1 { y with oa := a, oc := cap, order := (listF 8 keyL 9 st []).2 } := by
  have h0 : y.c.setIfInBounds 14 (.slice Option.none 0 0) = y.c := by
    have := qm_order y Option.none 0 []
    rw [show ([] : List Kyo).length = 0 from rfl] at this
    rw [this, ← hy.1, ← hy.2.1]
    obtain ⟨_, h3⟩ := hy.2
    cases y
    simp only at h3
    subst h3
    rfl
  have lR := h.lR
  have lb := h.lb
  have lE := h.lE
  have lq := (Array.getElem?_eq_some_iff.1 h.q).1
  have hc := y.c_size
  refine (plist_any R b 0 8 60 _ _ keyL (fun W' acc => LsJ 4 W (w.heap.size + 1 + 1) 14 w.heap.size R y.c 36 W' acc.length (acc.flatMap Kyo.c)) st W h.go.1 (h.begin h0) (by decide) (by decide)
    (fun W1 W2 acc hj hg => hj.row hg (by omega) (by omega) (by omega)) (fun args W => Tryz.call60 args W)
    (fun W1 st1 acc hR hj hl => pkey1_any R b 0 _ _ st1 y.c 36 W W1 acc hR hj (by omega) (by omega) (by omega) (by omega) (by omega) (by omega) (by omega) (by omega) (by omega) (by omega))).mono ?_
  rintro e w' ⟨rfl, hR, hj⟩
  obtain ⟨a, cap, hcs, hle, hq⟩ := h.ls hj hR
  exact ⟨rfl, a, cap, hq _ (qm_order y a cap _) (fun hm => ⟨hm.1, hm.2.1, hm.2.2.1, hcs, hle⟩)⟩
end Go.Proofs.YtjaclmoobfeikaaGreatDoor
namespace Go.Proofs.YtjaclmoobfeikaaGreatDoor
open Go.RowKit

theorem QJ.c1 {R b : Nat} {w W : World} {st : RS} {y : Qm} (h : QJ R b w W st y) : W.cell? ⟨w.heap.size, 0, none⟩ = some (.pointer (some ⟨R, 0, none⟩)) := by
  rw [cell_of_row _ _ 0 _ _ _ h.rb]; rfl
theorem QJ.cq {R b : Nat} {w W : World} {st : RS} {y : Qm} (h : QJ R b w W st y) (i : Nat) (v : Value) (hv : y.c[i]? = some v) : W.cell? ⟨w.heap.size + 1 + 1, i, none⟩ = some v ∧ W.frozen? ⟨w.heap.size + 1 + 1, i, none⟩ = false :=
  ⟨by rw [cell_of_row _ _ i _ _ _ h.q]; exact hv, frozen_of_row _ _ i _ _ h.q⟩
theorem Qm.c1' (y : Qm) : y.c[1]? = some (.bool y.all) := rfl
theorem Qm.c2' (y : Qm) : y.c[2]? = some (.string y.table) := rfl
theorem Qm.c15' (y : Qm) : y.c[15]? = some (.int .i64 y.limit) := by
  obtain ⟨_, _, _, _, _, ⟨_, _, _, _, _, _, _, _, _, _, _, _⟩, _, _, _, _, _, _, _⟩ := y; rfl
theorem QJ.set {R b i : Nat} {w W : World} {st : RS} {y y' : Qm} {v : Value} (h : QJ R b w W st y) (hy : y.c.setIfInBounds i v = y'.c) (hm : QmS (fun j => w.heap.size + 1 + 1 < j) (W.setCell ⟨w.heap.size + 1 + 1, i, none⟩ v) y → QmS (fun j => w.heap.size + 1 + 1 < j) (W.setCell ⟨w.heap.size + 1 + 1, i, none⟩ v) y') : QJ R b w (W.setCell ⟨w.heap.size + 1 + 1, i, none⟩ v) st y' :=
  h.put (grown_cellR W _ i v) (by rw [heap_setCell_same _ _ _ _ _ _ h.q, hy]) (hm (h.keepM (grown_cellR W _ i v)))
def setL (cs : Array Value) (o : Nat) : List Value → Array Value
  | [] => cs
  | v :: vs => setL (cs.setIfInBounds o v) (o + 1) vs
theorem heap_setCells {b : Nat} {T : TypeId} : ∀ (vs : List Value) (o : Nat) (w : World) (cs : Array Value), w.heap[b]? = some (.cells cs T (0, 0)) → (w.setCells b o vs).heap[b]? = some (.cells (setL cs o vs) T (0, 0))
  | [], _, _, _, h => h
  | v :: vs, o, w, _, h => heap_setCells vs (o + 1) (w.setCell ⟨b, o, none⟩ v) _ (heap_setCell_same _ _ _ _ _ v h)
theorem grown_setCells (b : Nat) (vs : List Value) (o : Nat) (w : World) : w.grownBy (w.setCells b o vs) (some b) := by
  have h := only_setCells b vs o w
  exact ⟨h.os, h.tape, h.output, h.size, fun k hk hne => h.block k hk (fun e => hne (by rw [e]))⟩
theorem qm_cond (y : Qm) (x : Pm) : setL y.c 3 x.c = { y with cond := x : Qm }.c := by
  obtain ⟨_, _, _, _, _, ⟨_, _, _, _, _, _, _, _, _, _, _, _⟩, _, _, _, _, _, _, _⟩ := y
  obtain ⟨_, _, _, _, _, _, _, _, _, _, _, _⟩ := x
  simp [setL, Qm.c, Qm.l, Pm.c]
theorem QJ.there {R b : Nat} {w W : World} {st : RS} {y : Qm} (h : QJ R b w W st y) : W.there (w.heap.size + 1 + 1) 3 10 := fun j hj => by
  refine ⟨?_, frozen_of_row _ _ _ _ _ h.q⟩
  rw [cell_of_row _ _ _ _ _ _ h.q]
  have := y.c_size
  simp [show 3 + j < y.c.size by omega]
theorem QJ.cond {R b : Nat} {w W : World} {st : RS} {y : Qm} {x : Pm} (h : QJ R b w W st y) (hx : PmS (fun j => w.heap.size + 1 + 1 < j) W x) : QJ R b w (W.setCells (w.heap.size + 1 + 1) 3 x.c) st { y with cond := x } := by
  have hg := grown_setCells (w.heap.size + 1 + 1) x.c 3 W
  have hm := h.keepM hg
  exact h.put hg (by rw [heap_setCells _ _ _ _ h.q, qm_cond]) ⟨hm.1, hx.keep ⟨hg.size, fun k hk hlt => hg.block k hlt (by simp; omega)⟩, hm.2.2⟩
theorem query_size : (Tryz.prog.info? 36).map (·.size) = some 17 := by kernel_rfl
theorem results_qm {fn : Func} {p : Tmp} (h : fn.results = #[.cell p 36]) (tmps : Array Value) (w : World) (g : Nat) (y : Qm) (hp : tmps.getD p undef = .pointer (some ⟨g, 0, Option.none⟩)) (hg : w.heap[g]? = some (.cells y.c 36 (0, 0))) :
    (results fn tmps).run Tryz.prog w = .ok (.agg y.c) w := results_cell_row h tmps w g _ _ _ _ hp hg Tryz.underlying36 rfl (by rw [Qm.c_size]; exact query_size)
def Ge (y : Qm) : Prop := y.group = [] ∧ y.ga = Option.none ∧ y.gc = 0
def Oe (y : Qm) : Prop := y.order = [] ∧ y.oa = Option.none ∧ y.oc = 0
set_option maxRecDepth 100000 in
set_option maxHeartbeats 6400000 in
theorem pquery_any (R b : Nat) (s : RS) (w : World) (h : RdA R b 0 s w) :
    Calls Tryz.prog 34 #[.pointer (some ⟨R, 0, none⟩)] w fun e w' => ∃ y : Qm, e = .returned (.agg y.c) ∧ y.e = (queryL s).2 ∧ QmS (fun j => w.heap.size ≤ j) w' y ∧ RdGo R b 0 (queryL s).1 w w' := by
  have lR := h.lt'
  have J0 : Hid (QJ R b w (((w.alloc (.cells #[.pointer (some ⟨R, 0, none⟩)] 127)).alloc (.cells (Qm.z 0).c 36)).alloc (.cells (Qm.z (-1)).c 36)) s (Qm.z (-1))) := by
    obtain ⟨e0, e1, e2, eg, es⟩ := alloc3 w (.cells #[.pointer (some ⟨R, 0, none⟩)] 127) (.cells (Qm.z 0).c 36) (.cells (Qm.z (-1)).c 36)
    refine Lib.hid ⟨⟨h.keep eg, grown_anyR eg _⟩, e2, e0, e1, ⟨⟨.inl rfl, Nat.le_refl _⟩, ?_, ⟨.inl rfl, Nat.le_refl _⟩, .inl rfl, Nat.le_refl _⟩, lR, h.lt, ?_⟩
    · exact ⟨RwS.nil _ _ _, Nat.le_refl _, .inl rfl, Nat.le_refl _, trivial⟩
    · obtain ⟨tp, p, hf⟩ := h.far
      by_cases hh : 11 < w.heap.size
      · exact hh
      · rw [World.cell?] at hf
        simp [Array.getElem?_eq_none (by omega : w.heap.size ≤ 11)] at hf
  have HN := Lib.hid (fun st t (ht : t ≠ ⟨#[]⟩) W (hW : RdA R b 0 st W) => need_any R b 0 st t W hW ht)
  have HT := Lib.hid (fun st t (ht : t ≠ ⟨#[]⟩) W (hW : RdA R b 0 st W) => took_any R b 0 st t W hW ht)
  obtain ⟨A, hA⟩ : ∃ A, A = itemsQ (s.need bSel) := ⟨_, rfl⟩
  obtain ⟨B, hB⟩ : ∃ B, B = (A.1.need bFrom).name := ⟨_, rfl⟩
  obtain ⟨C, hC⟩ : ∃ C, C = whereQ B.1 := ⟨_, rfl⟩
  obtain ⟨D, hD⟩ : ∃ D, D = groupQ C.1 := ⟨_, rfl⟩
  obtain ⟨E, hE⟩ : ∃ E, E = orderQ D.1 := ⟨_, rfl⟩
  obtain ⟨F, hF⟩ : ∃ F, F = limitQ E.1 := ⟨_, rfl⟩
  have hr : queryL s = (F.1.fin, ⟨A.2.2, A.2.1, B.2, C.2, D.2, E.2, F.2⟩) := by subst hF hE hD hC hB hA; rfl
  rw [hr]
  have HA := Lib.hid hA
  have HB := Lib.hid hB
  have HC := Lib.hid hC
  have HD := Lib.hid hD
  have HE := Lib.hid hE
  have HF := Lib.hid hF
  clear h hr hA hB hC hD hE hF
  go_enter Tryz.func34, Tryz.ntmps34
  go_wp2_with fail
  refine (HN.out s bSel (by decide) _ J0.out.go.1).mono ?_
  rintro e w2 ⟨rfl, hg⟩
  have J2 := Lib.hid (J0.out.then hg)
  clear hg J0
  have c2 := J2.out.c1
  go_upto_if 8 with fail
  refine (HT.out (s.need bSel) bStar (by decide) _ J2.out.go.1).mono ?_
  rintro e w3 ⟨rfl, hg⟩
  have J3 := Lib.hid (J2.out.then hg)
  clear hg J2 c2
  go_upto_if 8 with fail
  go_cut [] from 4 (fun wx => Hid (∃ y : Qm, QJ R b w wx A.1 y ∧ y.e = ⟨A.2.2, A.2.1, ⟨#[]⟩, Prd.none, [], [], -1⟩ ∧ Ge y ∧ Oe y))
  case first =>
    have c3 := J3.out.c1
    cases hc : (s.need bSel).comes bStar with
    | true =>
      have J4 := Lib.hid J3.out
      rw [hc, if_pos rfl] at J4
      have e1 : A = ((s.need bSel).pass, true, []) := by rw [HA.out]; unfold itemsQ; rw [if_pos hc]
      have J5 := Lib.hid (J4.out.set (qm_all _ true) (fun hm => hm))
      obtain ⟨d1, f1⟩ := J4.out.cq 1 (.bool false) rfl
      clear J3 hc
      go_wp2_with fail
      go_meet
      rw [e1]
      exact Lib.hid ⟨_, J5.out, rfl, ⟨rfl, rfl, rfl⟩, rfl, rfl, rfl⟩
    | false =>
      have J4 := Lib.hid J3.out
      rw [hc, if_neg (by simp)] at J4
      have e1 : A = ((listF 8 itemL 9 (s.need bSel) []).1, false, (listF 8 itemL 9 (s.need bSel) []).2) := by rw [HA.out]; unfold itemsQ; rw [if_neg (by simp [hc])]
      have HL := Lib.hid (qitems_any R b w w3 _ _ J4.out ⟨rfl, rfl, rfl⟩)
      clear J3 hc
      go_wp2_with fail
      refine HL.out.mono ?_
      rintro e w4 ⟨rfl, a, cap, hq⟩
      have J5 := Lib.hid hq
      clear hq
      go_wp2_with fail
      go_meet
      rw [e1]
      exact Lib.hid ⟨_, J5.out, rfl, ⟨rfl, rfl, rfl⟩, rfl, rfl, rfl⟩
  case rest =>
  obtain ⟨y, J4, hy, hG, hO⟩ := hcut.out
  have J4 := Lib.hid J4
  have c4 := J4.out.c1
  clear hcut J3
  go_upto_if 19 with fail
  refine (HN.out A.1 bFrom (by decide) _ J4.out.go.1).mono ?_
  rintro e w5 ⟨rfl, hg⟩
  have J5 := Lib.hid (J4.out.then hg)
  clear hg J4 c4
  have c5 := J5.out.c1
  have HNm := Lib.hid (pname_any R b 0 (A.1.need bFrom) w5 J5.out.go.1)
  rw [← HB.out] at HNm
  go_upto_if 19 with fail
  refine HNm.out.mono ?_
  rintro e w6 ⟨rfl, hg⟩
  have J6 := Lib.hid (J5.out.then hg)
  clear hg J5 c5 HNm
  have c6 := J6.out.c1
  obtain ⟨d2, f2⟩ := J6.out.cq 2 (.string y.table) (Qm.c2' y)
  have J7 := Lib.hid (J6.out.set (qm_table y B.2) (fun hm => hm))
  go_upto_if 19 with fail
  refine (HT.out B.1 bWhere (by decide) _ J7.out.go.1).mono ?_
  rintro e w8 ⟨rfl, hg⟩
  have J8 := Lib.hid (J7.out.then hg)
  have hy8 : ({ y with table := B.2 } : Qm).e = ⟨A.2.2, A.2.1, B.2, Prd.none, [], [], -1⟩ := by
    rw [show ({ y with table := B.2 } : Qm).e = { y.e with table := B.2 } from rfl, hy]
  have hG8 : Ge { y with table := B.2 } := hG
  have hO8 : Oe { y with table := B.2 } := hO
  clear hg J6 J7 c6 d2 f2 hy hG hO
  generalize ({ y with table := B.2 } : Qm) = y8 at *
  go_upto_if 19 with fail
  go_cut [] from 4 (fun wx => Hid (∃ y : Qm, QJ R b w wx C.1 y ∧ y.e = ⟨A.2.2, A.2.1, B.2, C.2, [], [], -1⟩ ∧ Ge y ∧ Oe y))
  case first =>
    have c8 := J8.out.c1
    cases hc : B.1.comes bWhere with
    | true =>
      have J9 := Lib.hid J8.out
      rw [hc, if_pos rfl] at J9
      have e1 : C = anyF 20 B.1.pass := by rw [HC.out]; unfold whereQ; rw [if_pos hc]
      have HAy := Lib.hid (pwhere_any R b B.1.pass w8 J9.out.go.1)
      rw [← e1] at HAy
      have HY := Lib.hid (And.intro hy8 (And.intro hG8 hO8))
      clear J8 hc e1 hy8 hG8 hO8
      go_wp2_with fail
      refine HAy.out.mono ?_
      rintro e w9 ⟨x, rfl, hx, hxS, hg⟩
      have J10 := Lib.hid (J9.out.then hg)
      have lq := (Array.getElem?_eq_some_iff.1 J9.out.q).1
      have HX := Lib.hid (And.intro hx (hxS.mono (S' := fun j => w.heap.size + 1 + 1 < j) (fun j _ hj => by omega)))
      clear hg hx hxS J9 HAy c8
      go_wp2_with (refine wpList_store_mid rfl 33 (.tmp 22) (.tmp 21) rfl (w.heap.size + 1 + 1) 3 x.c.toArray rfl rfl (by rw [Pm.c_size]; exact J10.out.there) (by rw [Pm.c_size]; exact pred_size) (Pm.c_all _) ?_)
      go_meet
      exact Lib.hid ⟨_, J10.out.cond HX.out.2, by
        rw [show ({ y8 with cond := x } : Qm).e = { y8.e with cond := x.e } from rfl, HY.out.1, HX.out.1], HY.out.2⟩
    | false =>
      have J9 := Lib.hid J8.out
      rw [hc, if_neg (by simp)] at J9
      have e1 : C = (B.1, Prd.none) := by rw [HC.out]; unfold whereQ; rw [if_neg (by simp [hc])]
      clear J8 hc
      go_wp2_with fail
      go_meet
      rw [e1]
      exact Lib.hid ⟨_, J9.out, hy8, hG8, hO8⟩
  case rest =>
  obtain ⟨y, J4, hy, hG, hO⟩ := hcut.out
  have J4 := Lib.hid J4
  have c4 := J4.out.c1
  clear hcut J8 hy8 hG8 hO8
  go_upto_if 24 with fail
  refine (HT.out C.1 bGroup (by decide) _ J4.out.go.1).mono ?_
  rintro e w8 ⟨rfl, hg⟩
  have J8 := Lib.hid (J4.out.then hg)
  clear hg J4 c4
  go_upto_if 24 with fail
  go_cut [] from 4 (fun wx => Hid (∃ y : Qm, QJ R b w wx D.1 y ∧ y.e = ⟨A.2.2, A.2.1, B.2, C.2, D.2, [], -1⟩ ∧ Oe y))
  case first =>
    have c8 := J8.out.c1
    cases hc : C.1.comes bGroup with
    | true =>
      have J9 := Lib.hid J8.out
      rw [hc, if_pos rfl] at J9
      have e1 : D = listF 8 columnL 9 (C.1.pass.need bBy) [] := by rw [HD.out]; unfold groupQ; rw [if_pos hc]
      have HY := Lib.hid (And.intro hy (And.intro hG hO))
      clear J8 hc hy hG hO
      go_wp2_with fail
      refine (HN.out C.1.pass bBy (by decide) _ J9.out.go.1).mono ?_
      rintro e w9 ⟨rfl, hg⟩
      have J10 := Lib.hid (J9.out.then hg)
      have HL := Lib.hid (qgroup_any R b w w9 _ _ J10.out HY.out.2.1)
      rw [← e1] at HL
      clear hg J9 c8 e1
      have c9 := J10.out.c1
      go_wp2_with fail
      refine HL.out.mono ?_
      rintro e w4 ⟨rfl, a, cap, hq⟩
      have J5 := Lib.hid hq
      clear hq c9 J10
      go_wp2_with fail
      go_meet
      exact Lib.hid ⟨_, J5.out, by
        rw [show ({ y with ga := a, gc := cap, group := D.2 } : Qm).e = { y.e with group := D.2 } from rfl, HY.out.1], HY.out.2.2⟩
    | false =>
      have J9 := Lib.hid J8.out
      rw [hc, if_neg (by simp)] at J9
      have e1 : D = (C.1, []) := by rw [HD.out]; unfold groupQ; rw [if_neg (by simp [hc])]
      clear J8 hc
      go_wp2_with fail
      go_meet
      rw [e1]
      exact Lib.hid ⟨_, J9.out, hy, hO⟩
  case rest =>
  obtain ⟨y, J4, hy, hO⟩ := hcut.out
  have J4 := Lib.hid J4
  have c4 := J4.out.c1
  clear hcut J8
  go_upto_if 31 with fail
  refine (HT.out D.1 bOrder (by decide) _ J4.out.go.1).mono ?_
  rintro e w8 ⟨rfl, hg⟩
  have J8 := Lib.hid (J4.out.then hg)
  clear hg J4 c4
  go_upto_if 31 with fail
  go_cut [] from 4 (fun wx => Hid (∃ y : Qm, QJ R b w wx E.1 y ∧ y.e = ⟨A.2.2, A.2.1, B.2, C.2, D.2, E.2, -1⟩))
  case first =>
    have c8 := J8.out.c1
    cases hc : D.1.comes bOrder with
    | true =>
      have J9 := Lib.hid J8.out
      rw [hc, if_pos rfl] at J9
      have e1 : E = listF 8 keyL 9 (D.1.pass.need bBy) [] := by rw [HE.out]; unfold orderQ; rw [if_pos hc]
      have HY := Lib.hid (And.intro hy hO)
      clear J8 hc hy hO
      go_wp2_with fail
      refine (HN.out D.1.pass bBy (by decide) _ J9.out.go.1).mono ?_
      rintro e w9 ⟨rfl, hg⟩
      have J10 := Lib.hid (J9.out.then hg)
      have HL := Lib.hid (qorder_any R b w w9 _ _ J10.out HY.out.2)
      rw [← e1] at HL
      clear hg J9 c8 e1
      have c9 := J10.out.c1
      go_wp2_with fail
      refine HL.out.mono ?_
      rintro e w4 ⟨rfl, a, cap, hq⟩
      have J5 := Lib.hid hq
      clear hq c9 J10
      go_wp2_with fail
      go_meet
      exact Lib.hid ⟨_, J5.out, by
        rw [show ({ y with oa := a, oc := cap, order := E.2 } : Qm).e = { y.e with order := E.2 } from rfl, HY.out.1]⟩
    | false =>
      have J9 := Lib.hid J8.out
      rw [hc, if_neg (by simp)] at J9
      have e1 : E = (D.1, []) := by rw [HE.out]; unfold orderQ; rw [if_neg (by simp [hc])]
      clear J8 hc
      go_wp2_with fail
      go_meet
      rw [e1]
      exact Lib.hid ⟨_, J9.out, hy⟩
  case rest =>
  obtain ⟨y, J4, hy⟩ := hcut.out
  have J4 := Lib.hid J4
  have c4 := J4.out.c1
  clear hcut J8
  go_upto_if 38 with fail
  refine (HT.out E.1 bLimit (by decide) _ J4.out.go.1).mono ?_
  rintro e w8 ⟨rfl, hg⟩
  have J8 := Lib.hid (J4.out.then hg)
  clear hg J4 c4
  go_upto_if 38 with fail
  go_cut [] from 4 (fun wx => Hid (∃ y : Qm, QJ R b w wx F.1 y ∧ y.e = ⟨A.2.2, A.2.1, B.2, C.2, D.2, E.2, F.2⟩))
  case first =>
    have c8 := J8.out.c1
    cases hc : E.1.comes bLimit with
    | true =>
      have J9 := Lib.hid J8.out
      rw [hc, if_pos rfl] at J9
      have e1 : F = limitL E.1.pass := by rw [HF.out]; unfold limitQ; rw [if_pos hc]
      have HL := Lib.hid (plimit_any R b 0 E.1.pass w8 J9.out.go.1)
      rw [← e1] at HL
      have HY := Lib.hid hy
      clear J8 hc hy e1
      go_wp2_with fail
      refine HL.out.mono ?_
      rintro e w9 ⟨rfl, hg⟩
      have J10 := Lib.hid (J9.out.then hg)
      have J11 := Lib.hid (J10.out.set (qm_limit y F.2) (fun hm => hm))
      obtain ⟨d15, f15⟩ := J10.out.cq 15 (.int .i64 y.limit) (Qm.c15' y)
      clear hg J9 c8 J10
      go_wp2_with fail
      go_meet
      exact Lib.hid ⟨_, J11.out, by
        rw [show ({ y with limit := F.2 } : Qm).e = { y.e with limit := F.2 } from rfl, HY.out]⟩
    | false =>
      have J9 := Lib.hid J8.out
      rw [hc, if_neg (by simp)] at J9
      have e1 : F = (E.1, -1) := by rw [HF.out]; unfold limitQ; rw [if_neg (by simp [hc])]
      clear J8 hc
      go_wp2_with fail
      go_meet
      rw [e1]
      exact Lib.hid ⟨_, J9.out, hy⟩
  case rest =>
  obtain ⟨y, J4, hy⟩ := hcut.out
  have J4 := Lib.hid J4
  have HEn := Lib.hid (end_any R b 0 F.1 wc J4.out.go.1)
  have c4 := J4.out.c1
  clear hcut J8
  go_wp2_with fail
  refine HEn.out.mono ?_
  rintro e w5 ⟨rfl, hg⟩
  have J5 := Lib.hid (J4.out.then hg)
  clear hg J4 c4 HEn
  go_wp2_with (first
    | (refine wpList_load_row rfl 36 (.tmp 3) rfl (w.heap.size + 1 + 1) rfl 36 y.c (0, 0) _ J5.out.q Tryz.underlying36 rfl (by rw [Qm.c_size]; exact query_size) ?_)
    | (refine wpList_store_row rfl 36 (.tmp 2) (.tmp 44) rfl (w.heap.size + 1) y.c rfl rfl 36 (Qm.z 0).c J5.out.res (by rw [Qm.c_size]; exact query_size) (by rw [Qm.c_size, Qm.c_size]) (Qm.c_all _) ?_))
  have hgs := grown_setRow w5 (w.heap.size + 1) y.c
  have hbl := setRow_heap w5 (w.heap.size + 1) (Qm.z 0).c y.c _ _ J5.out.res
  have hm : QmS (fun j => w.heap.size ≤ j) (w5.setRow (w.heap.size + 1) y.c) y := (J5.out.mem.keep ⟨hgs.size, fun k hk hlt => hgs.block k hlt (by simp; omega)⟩).mono (fun k _ hk => by omega)
  have hgo : RdGo R b 0 F.1.fin w (w5.setRow (w.heap.size + 1) y.c) := by
    have ho : Only (fun k => k = w.heap.size + 1) w5 (w5.setRow (w.heap.size + 1) y.c) := (Only.of_grown hgs).mono (fun k _ e => by cases e; rfl)
    have := J5.out.lb
    have := J5.out.lE
    exact ⟨J5.out.go.1.only ho (by omega) (by omega) (by omega), only_grownR J5.out.go.2 ho (fun j e => .inr (by omega))⟩
  exact bodyPost_ret (results_qm rfl _ _ (w.heap.size + 1) y rfl hbl) rfl ⟨y, rfl, hy, hm, hgo⟩
end Go.Proofs.YtjaclmoobfeikaaGreatDoor
