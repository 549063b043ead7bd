/- Items, keys, literals, predicates without their kids: are two the same? The closures that append to a list of the query's: values of an IN, items, names, keys. Predicates without their kids: are two the same? -/
import Derived.Test.YtjaclmoobfeikaaGreatDoorZl22
import Derived.Test.YtjaclmoobfeikaaGreatDoorZl26
import Derived.Test.YtjaclmoobfeikaaGreatDoorZl08
namespace Go.Proofs.YtjaclmoobfeikaaGreatDoor
open Go.RowKit

/-- What a test answers. -/
def BoolIs (P : Prop) (e : Ending) : Prop := ∃ b, e = .returned (.bool b) ∧ (b = true ↔ P)
theorem cells10 {w : World} {g : Nat} {v0 v1 v2 v3 v4 v5 v6 v7 v8 v9 : Value} {T : TypeId} (h : w.heap[g]? = some (.cells #[v0, v1, v2, v3, v4, v5, v6, v7, v8, v9] T (0, 0))) : w.cell? ⟨g, 0, none⟩ = some v0 ∧ w.cell? ⟨g, 1, none⟩ = some v1 ∧ w.cell? ⟨g, 2, none⟩ = some v2 ∧ w.cell? ⟨g, 3, none⟩ = some v3 ∧ w.cell? ⟨g, 4, none⟩ = some v4 ∧ w.cell? ⟨g, 5, none⟩ = some v5 ∧ w.cell? ⟨g, 6, none⟩ = some v6 ∧ w.cell? ⟨g, 7, none⟩ = some v7 ∧ w.cell? ⟨g, 8, none⟩ = some v8 ∧ w.cell? ⟨g, 9, none⟩ = some v9 :=
  ⟨by rw [cell_of_row _ _ 0 _ _ _ h]; rfl, by rw [cell_of_row _ _ 1 _ _ _ h]; rfl, by rw [cell_of_row _ _ 2 _ _ _ h]; rfl, by rw [cell_of_row _ _ 3 _ _ _ h]; rfl, by rw [cell_of_row _ _ 4 _ _ _ h]; rfl, by rw [cell_of_row _ _ 5 _ _ _ h]; rfl, by rw [cell_of_row _ _ 6 _ _ _ h]; rfl, by rw [cell_of_row _ _ 7 _ _ _ h]; rfl, by rw [cell_of_row _ _ 8 _ _ _ h]; rfl, by rw [cell_of_row _ _ 9 _ _ _ h]; rfl⟩
theorem nat_eqf {a b : Nat} (h : ¬ a = b) : ((a : Int) == (b : Int)) = false := by rw [beq_eq_false_iff_ne]; omega
theorem int_eqf {a b : Int} (h : ¬ a = b) : (a == b) = false := by rw [beq_eq_false_iff_ne]; exact h
/-- Two items are the same but for places. -/
def Itm.like (x y : Itm) : Prop := x.agg = y.agg ∧ x.col = y.col
def Kyo.like (x y : Kyo) : Prop := x.desc = y.desc ∧ Itm.like x.item y.item
end Go.Proofs.YtjaclmoobfeikaaGreatDoor
namespace Go.Proofs.YtjaclmoobfeikaaGreatDoor
open Go.RowKit

theorem RdA.only {R b deep : Nat} {s : RS} {w w' : World} {M : Nat → Prop} (h : RdA R b deep s w) (ho : Only M w w') (h1 : ¬ M R) (h2 : ¬ M b) (h3 : ¬ M 11) : RdA R b deep s w' := by
  have hlt := h.lt'
  obtain ⟨⟨o, k, hB, q1, q2, q3⟩, ok, few, lt, ne, ⟨tp, p, far⟩, gR, sz⟩ := h
  exact ⟨⟨o, k, (ho.block R hlt h1).trans hB, q1, q2, fun j u hj => ho.cell (q3 j u hj) h2⟩, ok, few, Nat.lt_of_lt_of_le lt ho.size, ne, ⟨tp, p, ho.cell far h3⟩, gR, sz⟩
/-- A list in a cell of block pb, that grows; block rb holds the reader's address. -/
structure LsJ (sz : Nat) (w0 : World) (pb ix rb R : Nat) (cs : Array Value) (Tp : TypeId) (W : World) (n : Nat) (xs : List Value) : Prop where
  blk : ∃ a cap, W.heap[pb]? = some (.cells (cs.setIfInBounds ix (.slice a n cap)) Tp (0, 0)) ∧ Win sz W a cap n xs ∧ ∀ k, bk a k → w0.heap.size ≤ k
  rblk : W.heap[rb]? = some (.cells #[.pointer (some ⟨R, 0, none⟩)] 127 (0, 0))
  only : Only (fun j => j = R ∨ j = pb) w0 W
theorem LsJ.row {sz : Nat} {w0 : World} {pb ix rb R : Nat} {cs : Array Value} {Tp : TypeId} {W W' : World} {n : Nat} {xs : List Value} (h : LsJ sz w0 pb ix rb R cs Tp W n xs) (hg : W.grownBy W' (some R)) (h1 : R ≠ pb) (h2 : R ≠ rb) (h3 : R < w0.heap.size) : LsJ sz w0 pb ix rb R cs Tp W' n xs := by
  obtain ⟨a, cap, hb, hw, hk⟩ := h.blk
  refine ⟨⟨a, cap, (hg.block pb (Array.getElem?_eq_some_iff.1 hb).1 (by simp; omega)).trans hb, hw.keep (.of_grown hg) (fun k hk' e => by cases e; have := hk R hk'; omega), hk⟩, (hg.block rb (Array.getElem?_eq_some_iff.1 h.rblk).1 (by simp; omega)).trans h.rblk, h.only.grown hg (fun j hj => by cases hj; exact .inl (.inl rfl))⟩
theorem val_el : ElT 30 29 (.agg #[.int .i64 0, .int .i64 0, .string ⟨#[]⟩]) 3 32 := ⟨Tryz.underlying30, info_partsT val_infoT, by decide, by decide, by decide⟩
theorem itm_infoT : (Tryz.prog.info? 65).map (fun i => (i.zero, i.size, i.bytes)) = some (some (.agg #[.int .i64 0, .string ⟨#[]⟩, .int .i64 0]), 3, 32) := by kernel_rfl
theorem itm_el : ElT 25 65 (.agg #[.int .i64 0, .string ⟨#[]⟩, .int .i64 0]) 3 32 := ⟨Tryz.underlying25, info_partsT itm_infoT, by decide, by decide, by decide⟩
theorem key_infoT : (Tryz.prog.info? 67).map (fun i => (i.zero, i.size, i.bytes)) = some (some (.agg #[.int .i64 0, .string ⟨#[]⟩, .int .i64 0, .bool false]), 4, 40) := by kernel_rfl
theorem key_el : ElT 34 67 (.agg #[.int .i64 0, .string ⟨#[]⟩, .int .i64 0, .bool false]) 4 40 := ⟨Tryz.underlying34, info_partsT key_infoT, by decide, by decide, by decide⟩
theorem set_set (cs : Array Value) (i : Nat) (u v : Value) : (cs.setIfInBounds i u).setIfInBounds i v = cs.setIfInBounds i v := Array.setIfInBounds_setIfInBounds ..
/-- One has been appended, and the list is stored. -/
theorem LsJ.put {sz : Nat} {w0 : World} {pb ix rb R b deep : Nat} {cs : Array Value} {Tp : TypeId} {W w2 w3 w4 : World} {n : Nat} {xs news : List Value} {a a' : Ptr} {cap cap' : Nat} {s1 : RS}
    (hj : W.heap[rb]? = some (.cells #[.pointer (some ⟨R, 0, none⟩)] 127 (0, 0)) ∧ Only (fun j => j = R ∨ j = pb) w0 W ∧ W.heap[pb]? = some (.cells (cs.setIfInBounds ix (.slice a n cap)) Tp (0, 0)) ∧ ∀ k, bk a k → w0.heap.size ≤ k)
    (nn : R < w0.heap.size ∧ b < pb ∧ 11 < pb ∧ pb < w0.heap.size ∧ rb < w0.heap.size ∧ R ≠ pb ∧ R ≠ rb ∧ pb ≠ rb) (h2 : RdGo R b deep s1 W.drew w2) (h3 : w2.grownBy w3 none)
    (e4 : Win sz w4 a' cap' (n + 1) (xs ++ news) ∧ Only (bk a) w3 w4 ∧ (∀ k, bk a' k → bk a k ∨ w3.heap.size ≤ k) ∧ w4.heap[pb]? = some (.cells (cs.setIfInBounds ix (.slice a n cap)) Tp (0, 0)) ∧ w4.heap[rb]? = some (.cells #[.pointer (some ⟨R, 0, none⟩)] 127 (0, 0))) :
    RdA R b deep s1 (w4.setCell ⟨pb, ix, none⟩ (.slice a' (n + 1) cap')) ∧ LsJ sz w0 pb ix rb R cs Tp (w4.setCell ⟨pb, ix, none⟩ (.slice a' (n + 1) cap')) (n + 1) (xs ++ news) := by
  obtain ⟨hr, ho, hB, hk⟩ := hj
  obtain ⟨n0, n1, n2, n3, n4, n5, n6, n7⟩ := nn
  obtain ⟨k4, o4, b4, p4, r4⟩ := e4
  have hs : Only (fun k => k = pb) w4 (w4.setCell ⟨pb, ix, none⟩ (.slice a' (n + 1) cap')) := (Only.refl (fun k => k = pb) w4).set (.inl rfl) _ _
  have z1 := ho.size
  have z2 : W.heap.size ≤ w2.heap.size := h2.2.size
  have z3 := h3.size
  have hba : ∀ k, bk a' k → w0.heap.size ≤ k := fun k hk' => by
    rcases b4 k hk' with e | e
    · exact hk k e
    · omega
  refine ⟨((h2.1.keep h3).only o4 (fun e => by have := hk _ e; omega) (fun e => by have := hk _ e; omega) (fun e => by have := hk _ e; omega)).only hs (fun e => n5 e) (fun e => by omega) (fun e => by omega), ⟨a', cap', ?_, k4.keep hs (fun k hk' e => by have := hba k hk'; omega), hba⟩, ?_, ?_⟩
  · rw [heap_setCell_same _ _ _ _ _ _ p4, set_set]
  · rw [heap_setCell_other _ _ _ _ (by simpa using n7.symm)]; exact r4
  · have o1 : Only (fun j => j = R ∨ j = pb) w0 w2 := (ho.drew).grown h2.2 (fun j hj => by cases hj; exact .inl (.inl rfl))
    have o2 := o1.grown h3 (fun j hj => by cases hj)
    exact (o2.trans o4 (fun k hk' => .inr (hk k hk'))).trans hs (fun k e => .inl (.inr e))
set_option maxRecDepth 100000 in
set_option maxHeartbeats 3200000 in
theorem pval1_any (R b deep pb rb : Nat) (st : RS) (cs : Array Value) (Tp : TypeId) (w0 W : World) (acc : List Vl) (h : RdA R b deep st W) (hj : LsJ 3 w0 pb 7 rb R cs Tp W acc.length (acc.flatMap vCT)) (hix : 7 < cs.size) (hl : acc.length ≤ 1000) (hR : R < w0.heap.size) (hb : b < pb) (hE : 11 < pb) (hpb : pb < w0.heap.size) (hrb : rb < w0.heap.size) (n1 : R ≠ pb) (n2 : R ≠ rb) (n3 : pb ≠ rb) :
    Calls Tryz.prog 169 #[.pointer (some ⟨pb, 0, none⟩), .pointer (some ⟨rb, 0, none⟩)] W fun e w' => e = .returned (.tuple #[]) ∧ RdA R b deep (RS.literal st).1 w' ∧ LsJ 3 w0 pb 7 rb R cs Tp w' (acc ++ [(RS.literal st).2]).length ((acc ++ [(RS.literal st).2]).flatMap vCT) := by
  have HL := Lib.hid (fun W2 (hW : W.grownBy W2 none) => plit_any R b deep st W2 (h.keep hW))
  obtain ⟨a, cap, hB, hw, hk⟩ := hj.blk
  have HJ := Lib.hid (And.intro hj.rblk (And.intro hj.only (And.intro hB (And.intro hk h))))
  have HWn := Lib.hid hw
  have NN := Lib.hid (And.intro hR (And.intro hb (And.intro hE (And.intro hpb (And.intro hrb (And.intro n1 (And.intro n2 n3)))))))
  have HL1 := Lib.hid hl
  have c0 : W.cell? ⟨pb, 7, none⟩ = some (.slice a acc.length cap) := by rw [cell_of_row _ _ 7 _ _ _ hB]; simp [hix]
  have f0 : W.frozen? ⟨pb, 7, none⟩ = false := frozen_of_row _ _ _ _ _ hB
  have r0 : W.cell? ⟨rb, 0, none⟩ = some (.pointer (some ⟨R, 0, none⟩)) := by rw [cell_of_row _ _ 0 _ _ _ hj.rblk]; simp
  obtain ⟨y, hy⟩ : ∃ y, y = RS.literal st := ⟨_, rfl⟩
  rw [← hy] at HL ⊢
  obtain ⟨s1, vk, vn, vs⟩ := y
  simp only [vCT] at HL
  simp only
  generalize hacc : acc.flatMap vCT = xs at *
  have Hacc := Lib.hid hacc
  generalize hal : acc.length = n at *
  have Hal := Lib.hid hal
  have hlt1 := (Array.getElem?_eq_some_iff.1 hB).1
  have hlt2 := (Array.getElem?_eq_some_iff.1 hj.rblk).1
  clear h hj hB hw hk hy hacc hal hl hR hb hE hpb hrb
  go_enter Tryz.func169, Tryz.ntmps169
  go_wp2_with fail
  go_region_law (first
    | (go_simp; go_at_call 159; (with_reducible refine (HL.out _ (grown_drewT (grown_reflT W none))).mono ?_); rintro e w2 ⟨rfl, hr⟩; have c2 := hr.2.cell (show W.drew.cell? ⟨pb, 7, none⟩ = some (.slice a n cap) from c0) (by simp; exact fun e => n1 e.symm); have l2 : pb < w2.heap.size := Nat.lt_of_lt_of_le hlt1 hr.2.size; have R2 := Lib.hid hr; clear hr)
    | (refine step_append_win (by rfl) (.tmp 3) (.tmp 6) val_el (by rfl) ((HWn.out.keepG (grown_drewT (grown_reflT W none))).keep ((Only.of_grown R2.out.2).grown (World.grownBy_alloc w2 _ none) (fun j hj => by cases hj)) (fun k hk' e => by cases e; have := HJ.out.2.2.2.1 R hk'; have := NN.out.1; omega)) (Nat.le_trans HL1.out (by decide)) (by rfl) ⟨w2.heap.size, 0, none⟩ 1 (by rfl) [.int .i64 vk, .int .i64 vn, .string vs] rfl (World.news_of_block (heap_alloc_new w2 _)) (by intro u hu; simp only [List.mem_cons, List.not_mem_nil, or_false] at hu; rcases hu with rfl | rfl | rfl <;> rfl) ?_
       intro a' cap' w4 hk4 ho4 hb4
       have G3 := Lib.hid (World.grownBy_alloc w2 (.cells #[.int .i64 vk, .int .i64 vn, .string vs] 29) none)
       have hpn : ¬ bk a pb := fun e => by have := HJ.out.2.2.2.1 pb e; have := NN.out.2.2.2.1; omega
       have hrn : ¬ bk a rb := fun e => by have := HJ.out.2.2.2.1 rb e; have := NN.out.2.2.2.2.1; omega
       have hRn : ¬ bk a R := fun e => by have := HJ.out.2.2.2.1 R e; have := NN.out.1; omega
       have hp2 : w2.heap[pb]? = some (.cells (cs.setIfInBounds 7 (.slice a n cap)) Tp (0, 0)) := (R2.out.2.block pb hlt1 (by simp; exact fun e => n1 e.symm)).trans HJ.out.2.2.1
       have hr2 : w2.heap[rb]? = some (.cells #[.pointer (some ⟨R, 0, none⟩)] 127 (0, 0)) := (R2.out.2.block rb hlt2 (by simp; exact fun e => n2 e.symm)).trans HJ.out.1
       have hp4 := (ho4.block pb (by have := (Array.getElem?_eq_some_iff.1 hp2).1; simp; omega) hpn).trans (blk_grown G3.out hp2)
       have hr4 := (ho4.block rb (by have := (Array.getElem?_eq_some_iff.1 hr2).1; simp; omega) hrn).trans (blk_grown G3.out hr2)
       have y4 : w4.cell? ⟨pb, 7, none⟩ = some (.slice a n cap) := by rw [cell_of_row _ _ 7 _ _ _ hp4]; simp [hix]
       have z4 : w4.frozen? ⟨pb, 7, none⟩ = false := frozen_of_row _ _ _ _ _ hp4
       have E4 := Lib.hid (And.intro hk4 (And.intro ho4 (And.intro hb4 (And.intro hp4 hr4))))
       clear hk4 ho4 hb4 hp4 hr4 hp2 hr2)
    | fail)
  all_goals
    go_wp2_with fail
    go_end0
    have hput := LsJ.put (sz := 3) (xs := xs) (news := [.int .i64 vk, .int .i64 vn, .string vs]) ⟨HJ.out.1, HJ.out.2.1, HJ.out.2.2.1, HJ.out.2.2.2.1⟩ NN.out R2.out G3.out E4.out
    refine ⟨rfl, hput.1, ?_⟩
    have h5 := hput.2
    rw [List.length_append, List.flatMap_append, Hacc.out, Hal.out]
    exact h5
set_option maxRecDepth 100000 in
set_option maxHeartbeats 3200000 in
theorem pitem1_any (R b deep pb rb : Nat) (st : RS) (cs : Array Value) (Tp : TypeId) (w0 W : World) (acc : List Itm) (h : RdA R b deep st W) (hj : LsJ 3 w0 pb 0 rb R cs Tp W acc.length (acc.flatMap Itm.c)) (hix : 0 < cs.size) (hl : acc.length ≤ 1000) (hR : R < w0.heap.size) (hb : b < pb) (hE : 11 < pb) (hpb : pb < w0.heap.size) (hrb : rb < w0.heap.size) (n1 : R ≠ pb) (n2 : R ≠ rb) (n3 : pb ≠ rb) :
    Calls Tryz.prog 54 #[.pointer (some ⟨pb, 0, none⟩), .pointer (some ⟨rb, 0, none⟩)] W fun e w' => e = .returned (.tuple #[]) ∧ RdA R b deep (itemL st).1 w' ∧ LsJ 3 w0 pb 0 rb R cs Tp w' (acc ++ [(itemL st).2]).length ((acc ++ [(itemL st).2]).flatMap Itm.c) := by
  have HL := Lib.hid (fun W2 (hW : W.grownBy W2 none) => pitem_any R b deep st W2 (h.keep hW))
  obtain ⟨a, cap, hB, hw, hk⟩ := hj.blk
  have HJ := Lib.hid (And.intro hj.rblk (And.intro hj.only (And.intro hB (And.intro hk h))))
  have HWn := Lib.hid hw
  have NN := Lib.hid (And.intro hR (And.intro hb (And.intro hE (And.intro hpb (And.intro hrb (And.intro n1 (And.intro n2 n3)))))))
  have HL1 := Lib.hid hl
  have c0 : W.cell? ⟨pb, 0, none⟩ = some (.slice a acc.length cap) := by rw [cell_of_row _ _ 0 _ _ _ hB]; simp [hix]
  have f0 : W.frozen? ⟨pb, 0, none⟩ = false := frozen_of_row _ _ _ _ _ hB
  have r0 : W.cell? ⟨rb, 0, none⟩ = some (.pointer (some ⟨R, 0, none⟩)) := by rw [cell_of_row _ _ 0 _ _ _ hj.rblk]; simp
  obtain ⟨y, hy⟩ : ∃ y, y = itemL st := ⟨_, rfl⟩
  rw [← hy] at HL ⊢
  obtain ⟨s1, ag, co, po⟩ := y
  simp only [Itm.c] at HL
  simp only
  generalize hacc : acc.flatMap Itm.c = xs at *
  have Hacc := Lib.hid hacc
  generalize hal : acc.length = n at *
  have Hal := Lib.hid hal
  have hlt1 := (Array.getElem?_eq_some_iff.1 hB).1
  have hlt2 := (Array.getElem?_eq_some_iff.1 hj.rblk).1
  clear h hj hB hw hk hy hacc hal hl hR hb hE hpb hrb
  go_enter Tryz.func54, Tryz.ntmps54
  go_wp2_with fail
  go_region_law (first
    | (go_simp; go_at_call 55; (with_reducible refine (HL.out _ (grown_drewT (grown_reflT W none))).mono ?_); rintro e w2 ⟨rfl, hr⟩; have c2 := hr.2.cell (show W.drew.cell? ⟨pb, 0, none⟩ = some (.slice a n cap) from c0) (by simp; exact fun e => n1 e.symm); have l2 : pb < w2.heap.size := Nat.lt_of_lt_of_le hlt1 hr.2.size; have R2 := Lib.hid hr; clear hr)
    | (refine step_append_win (by rfl) (.tmp 3) (.tmp 6) itm_el (by rfl) ((HWn.out.keepG (grown_drewT (grown_reflT W none))).keep ((Only.of_grown R2.out.2).grown (World.grownBy_alloc w2 _ none) (fun j hj => by cases hj)) (fun k hk' e => by cases e; have := HJ.out.2.2.2.1 R hk'; have := NN.out.1; omega)) (Nat.le_trans HL1.out (by decide)) (by rfl) ⟨w2.heap.size, 0, none⟩ 1 (by rfl) [.int .i64 ag, .string co, .int .i64 po] rfl (World.news_of_block (heap_alloc_new w2 _)) (by intro u hu; simp only [List.mem_cons, List.not_mem_nil, or_false] at hu; rcases hu with rfl | rfl | rfl <;> rfl) ?_
       intro a' cap' w4 hk4 ho4 hb4
       have G3 := Lib.hid (World.grownBy_alloc w2 (.cells #[.int .i64 ag, .string co, .int .i64 po] 65) none)
       have hpn : ¬ bk a pb := fun e => by have := HJ.out.2.2.2.1 pb e; have := NN.out.2.2.2.1; omega
       have hrn : ¬ bk a rb := fun e => by have := HJ.out.2.2.2.1 rb e; have := NN.out.2.2.2.2.1; omega
       have hRn : ¬ bk a R := fun e => by have := HJ.out.2.2.2.1 R e; have := NN.out.1; omega
       have hp2 : w2.heap[pb]? = some (.cells (cs.setIfInBounds 0 (.slice a n cap)) Tp (0, 0)) := (R2.out.2.block pb hlt1 (by simp; exact fun e => n1 e.symm)).trans HJ.out.2.2.1
       have hr2 : w2.heap[rb]? = some (.cells #[.pointer (some ⟨R, 0, none⟩)] 127 (0, 0)) := (R2.out.2.block rb hlt2 (by simp; exact fun e => n2 e.symm)).trans HJ.out.1
       have hp4 := (ho4.block pb (by have := (Array.getElem?_eq_some_iff.1 hp2).1; simp; omega) hpn).trans (blk_grown G3.out hp2)
       have hr4 := (ho4.block rb (by have := (Array.getElem?_eq_some_iff.1 hr2).1; simp; omega) hrn).trans (blk_grown G3.out hr2)
       have y4 : w4.cell? ⟨pb, 0, none⟩ = some (.slice a n cap) := by rw [cell_of_row _ _ 0 _ _ _ hp4]; simp [hix]
       have z4 : w4.frozen? ⟨pb, 0, none⟩ = false := frozen_of_row _ _ _ _ _ hp4
       have E4 := Lib.hid (And.intro hk4 (And.intro ho4 (And.intro hb4 (And.intro hp4 hr4))))
       clear hk4 ho4 hb4 hp4 hr4 hp2 hr2)
    | fail)
  all_goals
    go_wp2_with fail
    go_end0
    have hput := LsJ.put (sz := 3) (xs := xs) (news := [.int .i64 ag, .string co, .int .i64 po]) ⟨HJ.out.1, HJ.out.2.1, HJ.out.2.2.1, HJ.out.2.2.2.1⟩ NN.out R2.out G3.out E4.out
    refine ⟨rfl, hput.1, ?_⟩
    have h5 := hput.2
    rw [List.length_append, List.flatMap_append, Hacc.out, Hal.out]
    exact h5
set_option maxRecDepth 100000 in
set_option maxHeartbeats 3200000 in
theorem pname1_any (R b deep pb rb : Nat) (st : RS) (cs : Array Value) (Tp : TypeId) (w0 W : World) (acc : List Itm) (h : RdA R b deep st W) (hj : LsJ 3 w0 pb 13 rb R cs Tp W acc.length (acc.flatMap Itm.c)) (hix : 13 < cs.size) (hl : acc.length ≤ 1000) (hR : R < w0.heap.size) (hb : b < pb) (hE : 11 < pb) (hpb : pb < w0.heap.size) (hrb : rb < w0.heap.size) (n1 : R ≠ pb) (n2 : R ≠ rb) (n3 : pb ≠ rb) :
    Calls Tryz.prog 58 #[.pointer (some ⟨pb, 0, none⟩), .pointer (some ⟨rb, 0, none⟩)] W fun e w' => e = .returned (.tuple #[]) ∧ RdA R b deep (columnL st).1 w' ∧ LsJ 3 w0 pb 13 rb R cs Tp w' (acc ++ [(columnL st).2]).length ((acc ++ [(columnL st).2]).flatMap Itm.c) := by
  have HL := Lib.hid (fun W2 (hW : W.grownBy W2 none) => pcolumn_any R b deep st W2 (h.keep hW))
  obtain ⟨a, cap, hB, hw, hk⟩ := hj.blk
  have HJ := Lib.hid (And.intro hj.rblk (And.intro hj.only (And.intro hB (And.intro hk h))))
  have HWn := Lib.hid hw
  have NN := Lib.hid (And.intro hR (And.intro hb (And.intro hE (And.intro hpb (And.intro hrb (And.intro n1 (And.intro n2 n3)))))))
  have HL1 := Lib.hid hl
  have c0 : W.cell? ⟨pb, 13, none⟩ = some (.slice a acc.length cap) := by rw [cell_of_row _ _ 13 _ _ _ hB]; simp [hix]
  have f0 : W.frozen? ⟨pb, 13, none⟩ = false := frozen_of_row _ _ _ _ _ hB
  have r0 : W.cell? ⟨rb, 0, none⟩ = some (.pointer (some ⟨R, 0, none⟩)) := by rw [cell_of_row _ _ 0 _ _ _ hj.rblk]; simp
  obtain ⟨y, hy⟩ : ∃ y, y = columnL st := ⟨_, rfl⟩
  rw [← hy] at HL ⊢
  obtain ⟨s1, ag, co, po⟩ := y
  simp only [Itm.c] at HL
  simp only
  generalize hacc : acc.flatMap Itm.c = xs at *
  have Hacc := Lib.hid hacc
  generalize hal : acc.length = n at *
  have Hal := Lib.hid hal
  have hlt1 := (Array.getElem?_eq_some_iff.1 hB).1
  have hlt2 := (Array.getElem?_eq_some_iff.1 hj.rblk).1
  clear h hj hB hw hk hy hacc hal hl hR hb hE hpb hrb
  go_enter Tryz.func58, Tryz.ntmps58
  go_wp2_with fail
  go_region_law (first
    | (go_simp; go_at_call 59; (with_reducible refine (HL.out _ (grown_drewT (grown_reflT W none))).mono ?_); rintro e w2 ⟨rfl, hr⟩; have c2 := hr.2.cell (show W.drew.cell? ⟨pb, 13, none⟩ = some (.slice a n cap) from c0) (by simp; exact fun e => n1 e.symm); have l2 : pb < w2.heap.size := Nat.lt_of_lt_of_le hlt1 hr.2.size; have R2 := Lib.hid hr; clear hr)
    | (refine step_append_win (by rfl) (.tmp 3) (.tmp 6) itm_el (by rfl) ((HWn.out.keepG (grown_drewT (grown_reflT W none))).keep ((Only.of_grown R2.out.2).grown (World.grownBy_alloc w2 _ none) (fun j hj => by cases hj)) (fun k hk' e => by cases e; have := HJ.out.2.2.2.1 R hk'; have := NN.out.1; omega)) (Nat.le_trans HL1.out (by decide)) (by rfl) ⟨w2.heap.size, 0, none⟩ 1 (by rfl) [.int .i64 ag, .string co, .int .i64 po] rfl (World.news_of_block (heap_alloc_new w2 _)) (by intro u hu; simp only [List.mem_cons, List.not_mem_nil, or_false] at hu; rcases hu with rfl | rfl | rfl <;> rfl) ?_
       intro a' cap' w4 hk4 ho4 hb4
       have G3 := Lib.hid (World.grownBy_alloc w2 (.cells #[.int .i64 ag, .string co, .int .i64 po] 65) none)
       have hpn : ¬ bk a pb := fun e => by have := HJ.out.2.2.2.1 pb e; have := NN.out.2.2.2.1; omega
       have hrn : ¬ bk a rb := fun e => by have := HJ.out.2.2.2.1 rb e; have := NN.out.2.2.2.2.1; omega
       have hRn : ¬ bk a R := fun e => by have := HJ.out.2.2.2.1 R e; have := NN.out.1; omega
       have hp2 : w2.heap[pb]? = some (.cells (cs.setIfInBounds 13 (.slice a n cap)) Tp (0, 0)) := (R2.out.2.block pb hlt1 (by simp; exact fun e => n1 e.symm)).trans HJ.out.2.2.1
       have hr2 : w2.heap[rb]? = some (.cells #[.pointer (some ⟨R, 0, none⟩)] 127 (0, 0)) := (R2.out.2.block rb hlt2 (by simp; exact fun e => n2 e.symm)).trans HJ.out.1
       have hp4 := (ho4.block pb (by have := (Array.getElem?_eq_some_iff.1 hp2).1; simp; omega) hpn).trans (blk_grown G3.out hp2)
       have hr4 := (ho4.block rb (by have := (Array.getElem?_eq_some_iff.1 hr2).1; simp; omega) hrn).trans (blk_grown G3.out hr2)
       have y4 : w4.cell? ⟨pb, 13, none⟩ = some (.slice a n cap) := by rw [cell_of_row _ _ 13 _ _ _ hp4]; simp [hix]
       have z4 : w4.frozen? ⟨pb, 13, none⟩ = false := frozen_of_row _ _ _ _ _ hp4
       have E4 := Lib.hid (And.intro hk4 (And.intro ho4 (And.intro hb4 (And.intro hp4 hr4))))
       clear hk4 ho4 hb4 hp4 hr4 hp2 hr2)
    | fail)
  all_goals
    go_wp2_with fail
    go_end0
    have hput := LsJ.put (sz := 3) (xs := xs) (news := [.int .i64 ag, .string co, .int .i64 po]) ⟨HJ.out.1, HJ.out.2.1, HJ.out.2.2.1, HJ.out.2.2.2.1⟩ NN.out R2.out G3.out E4.out
    refine ⟨rfl, hput.1, ?_⟩
    have h5 := hput.2
    rw [List.length_append, List.flatMap_append, Hacc.out, Hal.out]
    exact h5
set_option maxRecDepth 100000 in
set_option maxHeartbeats 3200000 in
theorem pkey1_any (R b deep pb rb : Nat) (st : RS) (cs : Array Value) (Tp : TypeId) (w0 W : World) (acc : List Kyo) (h : RdA R b deep st W) (hj : LsJ 4 w0 pb 14 rb R cs Tp W acc.length (acc.flatMap Kyo.c)) (hix : 14 < cs.size) (hl : acc.length ≤ 1000) (hR : R < w0.heap.size) (hb : b < pb) (hE : 11 < pb) (hpb : pb < w0.heap.size) (hrb : rb < w0.heap.size) (n1 : R ≠ pb) (n2 : R ≠ rb) (n3 : pb ≠ rb) :
    Calls Tryz.prog 60 #[.pointer (some ⟨pb, 0, none⟩), .pointer (some ⟨rb, 0, none⟩)] W fun e w' => e = .returned (.tuple #[]) ∧ RdA R b deep (keyL st).1 w' ∧ LsJ 4 w0 pb 14 rb R cs Tp w' (acc ++ [(keyL st).2]).length ((acc ++ [(keyL st).2]).flatMap Kyo.c) := by
  have HL := Lib.hid (fun W2 (hW : W.grownBy W2 none) => pkey_any R b deep st W2 (h.keep hW))
  obtain ⟨a, cap, hB, hw, hk⟩ := hj.blk
  have HJ := Lib.hid (And.intro hj.rblk (And.intro hj.only (And.intro hB (And.intro hk h))))
  have HWn := Lib.hid hw
  have NN := Lib.hid (And.intro hR (And.intro hb (And.intro hE (And.intro hpb (And.intro hrb (And.intro n1 (And.intro n2 n3)))))))
  have HL1 := Lib.hid hl
  have c0 : W.cell? ⟨pb, 14, none⟩ = some (.slice a acc.length cap) := by rw [cell_of_row _ _ 14 _ _ _ hB]; simp [hix]
  have f0 : W.frozen? ⟨pb, 14, none⟩ = false := frozen_of_row _ _ _ _ _ hB
  have r0 : W.cell? ⟨rb, 0, none⟩ = some (.pointer (some ⟨R, 0, none⟩)) := by rw [cell_of_row _ _ 0 _ _ _ hj.rblk]; simp
  obtain ⟨y, hy⟩ : ∃ y, y = keyL st := ⟨_, rfl⟩
  rw [← hy] at HL ⊢
  obtain ⟨s1, ⟨ag, co, po⟩, ds⟩ := y
  simp only [Kyo.c] at HL
  simp only
  generalize hacc : acc.flatMap Kyo.c = xs at *
  have Hacc := Lib.hid hacc
  generalize hal : acc.length = n at *
  have Hal := Lib.hid hal
  have hlt1 := (Array.getElem?_eq_some_iff.1 hB).1
  have hlt2 := (Array.getElem?_eq_some_iff.1 hj.rblk).1
  clear h hj hB hw hk hy hacc hal hl hR hb hE hpb hrb
  go_enter Tryz.func60, Tryz.ntmps60
  go_wp2_with fail
  go_region_law (first
    | (go_simp; go_at_call 61; (with_reducible refine (HL.out _ (grown_drewT (grown_reflT W none))).mono ?_); rintro e w2 ⟨rfl, hr⟩; have c2 := hr.2.cell (show W.drew.cell? ⟨pb, 14, none⟩ = some (.slice a n cap) from c0) (by simp; exact fun e => n1 e.symm); have l2 : pb < w2.heap.size := Nat.lt_of_lt_of_le hlt1 hr.2.size; have R2 := Lib.hid hr; clear hr)
    | (refine step_append_win (by rfl) (.tmp 3) (.tmp 6) key_el (by rfl) ((HWn.out.keepG (grown_drewT (grown_reflT W none))).keep ((Only.of_grown R2.out.2).grown (World.grownBy_alloc w2 _ none) (fun j hj => by cases hj)) (fun k hk' e => by cases e; have := HJ.out.2.2.2.1 R hk'; have := NN.out.1; omega)) (Nat.le_trans HL1.out (by decide)) (by rfl) ⟨w2.heap.size, 0, none⟩ 1 (by rfl) [.int .i64 ag, .string co, .int .i64 po, .bool ds] rfl (World.news_of_block (heap_alloc_new w2 _)) (by intro u hu; simp only [List.mem_cons, List.not_mem_nil, or_false] at hu; rcases hu with rfl | rfl | rfl | rfl <;> rfl) ?_
       intro a' cap' w4 hk4 ho4 hb4
       have G3 := Lib.hid (World.grownBy_alloc w2 (.cells #[.int .i64 ag, .string co, .int .i64 po, .bool ds] 67) none)
       have hpn : ¬ bk a pb := fun e => by have := HJ.out.2.2.2.1 pb e; have := NN.out.2.2.2.1; omega
       have hrn : ¬ bk a rb := fun e => by have := HJ.out.2.2.2.1 rb e; have := NN.out.2.2.2.2.1; omega
       have hRn : ¬ bk a R := fun e => by have := HJ.out.2.2.2.1 R e; have := NN.out.1; omega
       have hp2 : w2.heap[pb]? = some (.cells (cs.setIfInBounds 14 (.slice a n cap)) Tp (0, 0)) := (R2.out.2.block pb hlt1 (by simp; exact fun e => n1 e.symm)).trans HJ.out.2.2.1
       have hr2 : w2.heap[rb]? = some (.cells #[.pointer (some ⟨R, 0, none⟩)] 127 (0, 0)) := (R2.out.2.block rb hlt2 (by simp; exact fun e => n2 e.symm)).trans HJ.out.1
       have hp4 := (ho4.block pb (by have := (Array.getElem?_eq_some_iff.1 hp2).1; simp; omega) hpn).trans (blk_grown G3.out hp2)
       have hr4 := (ho4.block rb (by have := (Array.getElem?_eq_some_iff.1 hr2).1; simp; omega) hrn).trans (blk_grown G3.out hr2)
       have y4 : w4.cell? ⟨pb, 14, none⟩ = some (.slice a n cap) := by rw [cell_of_row _ _ 14 _ _ _ hp4]; simp [hix]
       have z4 : w4.frozen? ⟨pb, 14, none⟩ = false := frozen_of_row _ _ _ _ _ hp4
       have E4 := Lib.hid (And.intro hk4 (And.intro ho4 (And.intro hb4 (And.intro hp4 hr4))))
       clear hk4 ho4 hb4 hp4 hr4 hp2 hr2)
    | fail)
  all_goals
    go_wp2_with fail
    go_end0
    have hput := LsJ.put (sz := 4) (xs := xs) (news := [.int .i64 ag, .string co, .int .i64 po, .bool ds]) ⟨HJ.out.1, HJ.out.2.1, HJ.out.2.2.1, HJ.out.2.2.2.1⟩ NN.out R2.out G3.out E4.out
    refine ⟨rfl, hput.1, ?_⟩
    have h5 := hput.2
    rw [List.length_append, List.flatMap_append, Hacc.out, Hal.out]
    exact h5
end Go.Proofs.YtjaclmoobfeikaaGreatDoor
namespace Go.Proofs.YtjaclmoobfeikaaGreatDoor
open Go.RowKit

abbrev cPd (k : Nat) (c : ByteArray) (r : Nat) (vk vn : Int) (vs o : ByteArray) (la : Ptr) (ll lc : Nat) (ka : Ptr) (kl kc p : Nat) : Array Value := #[.int .i64 k, .string c, .int .i64 r, .int .i64 vk, .int .i64 vn, .string vs, .string o, .slice la ll lc, .slice ka kl kc, .int .i64 p]
end Go.Proofs.YtjaclmoobfeikaaGreatDoor
