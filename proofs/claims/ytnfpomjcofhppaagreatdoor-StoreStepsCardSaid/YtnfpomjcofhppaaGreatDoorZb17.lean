/- The journal's copied. tree's Delete and beside, by what they call. tree's Get; the document's SameRows at rows that are the same. -/
import Derived.Test.YtnfpomjcofhppaaGreatDoorZb16
import Derived.Deep.DeepCutAuto
namespace Go.Proofs.YtnfpomjcofhppaaGreatDoor
open Go.RowKit

/-- The first ones are copied. -/
structure Cop (S : Nat → Prop) (k : Nat) (w : World) (l D : List Cg) : Prop where
  len : D.length = k
  le : k ≤ l.length
  same : D.map Cg.p = (l.take k).map Cg.p
  at_ : ∀ x ∈ D, RwS S w x.o.a x.o.l ∧ RwS S w x.n.a x.n.l
  caps : capsL D
theorem Cop.keep {S : Nat → Prop} {k : Nat} {w w' : World} {l D : List Cg} (h : Cop S k w l D) (hk : Stays S w w') : Cop S k w' l D :=
  ⟨h.len, h.le, h.same, fun x hx => ⟨(h.at_ x hx).1.keep hk, (h.at_ x hx).2.keep hk⟩, h.caps⟩
theorem Cop.push {S : Nat → Prop} {k : Nat} {w : World} {l D : List Cg} (h : Cop S k w l D) (hk : k < l.length) {o n : Rw} (ho : o.l = (l.getD k default).o.l) (hn : n.l = (l.getD k default).n.l) (h1 : RwS S w o.a o.l) (h2 : RwS S w n.a n.l) (c1 : o.l.length ≤ o.cap) (c2 : n.l.length ≤ n.cap) : Cop S (k + 1) w l (D ++ [⟨(l.getD k default).t, o, n⟩]) := by
  refine ⟨by simp [h.len], hk, ?_, fun x hx => ?_, fun x hx => ?_⟩
  · rw [List.take_succ_eq_append_getElem hk, List.map_append, List.map_append, h.same]
    congr 1
    simp [Cg.p, ho, hn, List.getD, hk]
  · rw [List.mem_append, List.mem_singleton] at hx
    rcases hx with hx | rfl
    · exact h.at_ x hx
    · exact ⟨h1, h2⟩
  · rw [List.mem_append, List.mem_singleton] at hx
    rcases hx with hx | rfl
    · exact h.caps x hx
    · exact ⟨c1, c2⟩
theorem cop_set (D R : List Cg) (x : Cg) (o n : Rw) (k : Nat) (hk : D.length = k) : (((D ++ x :: R).flatMap Cg.c).set (k * 3 + 1) o.v).set (k * 3 + 2) n.v = (D ++ ⟨x.t, o, n⟩ :: R).flatMap Cg.c := by
  have hl := cg_len D
  rw [List.flatMap_append, List.flatMap_append, List.set_append_right _ _ (by omega), List.set_append_right _ _ (by omega)]
  rw [List.flatMap_cons, List.flatMap_cons, hl, hk]
  have e1 : k * 3 + 1 - k * 3 = 1 := by omega
  have e2 : k * 3 + 2 - k * 3 = 2 := by omega
  rw [e1, e2]
  rfl
theorem cg_drop {l : List Cg} {k : Nat} (h : k < l.length) : l.drop k = l.getD k default :: l.drop (k + 1) := by
  rw [List.drop_eq_getElem_cons h]; simp [List.getD, h]
/-- A row of one's own of which two cells are new. -/
def Own2 (B g n cap k : Nat) (xs : List Value) (W : World) (y1 y2 : Value) : Prop := W.ownsRow B 59 3 (.slice (some ⟨g, 0, none⟩) n cap) n ((xs.set (k * 3 + 1) y1).set (k * 3 + 2) y2)
theorem grown_cellT (w : World) (g i : Nat) (u : Value) : w.grownBy (w.setCell ⟨g, i, none⟩ u) (some g) := ⟨rfl, rfl, rfl, by simp [World.setCell], fun _ _ hne => Below.heap_setCell _ _ _ _ (fun e => hne (by rw [e]))⟩
theorem own2_call {B g n cap k : Nat} {xs : List Value} {W w' : World} {y1 y2 : Value} (h : Own2 B g n cap k xs W y1 y2) (hg : W.grownBy w' none) : Own2 B g n cap k xs w' y1 y2 := World.ownsRow.kept h hg (.inr (by simp [Value.ownBlock]))
theorem own2_set1 {B g n cap k : Nat} {xs : List Value} {W : World} {y1 y2 : Value} (h : Own2 B g n cap k xs W y1 y2) (u : Value) : Own2 B g n cap k xs (W.setCell ⟨g, k * 3 + 1, none⟩ u) u y2 := by
  have := World.ownsRow.stored h (k * 3 + 1) u
  unfold Own2
  rw [List.set_comm _ _ (by omega), List.set_set] at this
  exact this.1
theorem own2_set2 {B g n cap k : Nat} {xs : List Value} {W : World} {y1 y2 : Value} (h : Own2 B g n cap k xs W y1 y2) (u : Value) : Own2 B g n cap k xs (W.setCell ⟨g, k * 3 + 2, none⟩ u) y1 u := by
  have := World.ownsRow.stored h (k * 3 + 2) u
  rw [List.set_set] at this
  exact this.1
theorem own2_cell {B g n cap k : Nat} {xs : List Value} {W : World} {y1 y2 : Value} (h : Own2 B g n cap k xs W y1 y2) (hk : k < n) : W.cell? ⟨g, k * 3 + 1, none⟩ = some y1 ∧ W.cell? ⟨g, k * 3 + 2, none⟩ = some y2 ∧ W.frozen? ⟨g, k * 3 + 1, none⟩ = false ∧ W.frozen? ⟨g, k * 3 + 2, none⟩ = false := by
  have hl := h.1
  simp only [List.length_set] at hl
  refine ⟨?_, ?_, World.ownsRow.frozenAt h _, World.ownsRow.frozenAt h _⟩
  · rw [World.ownsRow.cellAt h _ (by omega), List.getElem?_set_ne (by omega), List.getElem?_set_self (by omega)]
  · rw [World.ownsRow.cellAt h _ (by omega), List.getElem?_set_self (by simp; omega)]


theorem three_set {W : World} {b1 b2 g o1 o2 o3 : Nat} {x y z : Value} (h : W.cell? ⟨b1, o1, none⟩ = some x ∧ W.cell? ⟨b2, o2, none⟩ = some y ∧ W.cell? ⟨b2, o3, none⟩ = some z) (h1 : b1 ≠ g) (h2 : b2 ≠ g) (i : Nat) (u : Value) : (W.setCell ⟨g, i, none⟩ u).cell? ⟨b1, o1, none⟩ = some x ∧ (W.setCell ⟨g, i, none⟩ u).cell? ⟨b2, o2, none⟩ = some y ∧ (W.setCell ⟨g, i, none⟩ u).cell? ⟨b2, o3, none⟩ = some z :=
  ⟨(World.cell?_setCell_other W ⟨g, i, none⟩ ⟨b1, o1, none⟩ u (fun e => h1 (congrArg Addr.block e).symm)).trans h.1, (World.cell?_setCell_other W ⟨g, i, none⟩ ⟨b2, o2, none⟩ u (fun e => h2 (congrArg Addr.block e).symm)).trans h.2.1, (World.cell?_setCell_other W ⟨g, i, none⟩ ⟨b2, o3, none⟩ u (fun e => h2 (congrArg Addr.block e).symm)).trans h.2.2⟩
set_option maxRecDepth 100000 in
set_option maxHeartbeats 12800000 in
theorem copiedJ_any (S : Nat → Prop) (a : Ptr) (cap : Nat) (l : List Cg) (v : Int) (w : World) (h : CgS S w a l) :
    Calls Tryz.prog 46 #[.agg #[.int .i64 v, .slice a l.length cap]] w fun e w' => (∃ a' cap' l', e = .returned (.agg #[.int .i64 v, .slice a' l.length cap']) ∧ l'.length = l.length ∧ (l.length ≤ cap' ∧ capsL l') ∧ l'.map Cg.p = l.map Cg.p ∧ CgS (fun b => w.heap.size ≤ b) w' a' l') ∧ w.grownBy w' none := by
  have HC := Lib.hid (fun W (hW : w.grownBy W none) => cloneCg_any S a cap l W (h.keep (.of hW)))
  have HR := Lib.hid (fun k (hk : k < l.length) W (hW : Below w.heap.size w W) => show RwS S W (l.getD k default).o.a (l.getD k default).o.l ∧ RwS S W (l.getD k default).n.a (l.getD k default).n.l by
    have := h.2.1 (l.getD k default) (by simp [List.getD, hk])
    exact ⟨this.1.keep (.of (grown_belowT hW none)), this.2.keep (.of (grown_belowT hW none))⟩)
  have hlen := h.1
  obtain ⟨n, hn⟩ : ∃ n, n = l.length := ⟨_, rfl⟩
  have Hn := Lib.hid hn
  rw [← hn] at HC HR hlen ⊢
  clear h hn
  have E1 := heap_alloc_new w (.cells #[.int .i64 v, .slice a n cap] 36)
  have E2 := heap_alloc_new (w.alloc (.cells #[.int .i64 v, .slice a n cap] 36)) (.cells #[.int .i64 0, .slice none 0 0] 36)
  have G0 := (World.grownBy_alloc w (.cells #[.int .i64 v, .slice a n cap] 36) none).trans (World.grownBy_alloc _ (.cells #[.int .i64 0, .slice none 0 0] 36) none)
  have hsz1 : (w.alloc (.cells #[.int .i64 v, .slice a n cap] 36)).heap.size = w.heap.size + 1 := by simp
  have E1' := (World.grownBy_alloc (w.alloc (.cells #[.int .i64 v, .slice a n cap] 36)) (.cells #[.int .i64 0, .slice none 0 0] 36) none).block w.heap.size (by simp) (by simp)
  rw [hsz1] at E2
  have hsz2 : ((w.alloc (.cells #[.int .i64 v, .slice a n cap] 36)).alloc (.cells #[.int .i64 0, .slice none 0 0] 36)).heap.size = w.heap.size + 1 + 1 := by simp
  have A0 := Lib.hid (And.intro (E1'.trans E1) (And.intro E2 (And.intro G0 hsz2)))
  clear E1 E2 G0 hsz1 E1' hsz2
  go_enter Tryz.func46, Tryz.ntmps46
  go_wp2_with fail
  refine (HC.out _ A0.out.2.2.1).mono ?_
  rintro e w1 ⟨⟨a', cap', rfl, hcap', hown⟩, hg1⟩
  have h1 := (hg1.block w.heap.size (by rw [A0.out.2.2.2]; omega) (by simp)).trans A0.out.1
  have h2 := (hg1.block (w.heap.size + 1) (by rw [A0.out.2.2.2]; omega) (by simp)).trans A0.out.2.1
  rw [A0.out.2.2.2] at hown
  have c1 := cell_of_row _ _ 1 _ _ _ h1
  have f1 : w1.frozen? ⟨w.heap.size, 1, none⟩ = false := by simp [World.frozen?, h1]
  have hgb : Below w.heap.size w w1 := below_grownT (A0.out.2.2.1.trans hg1)
  have I0 := Lib.hid (show Cop (fun b => w.heap.size + 1 + 1 ≤ b ∧ ¬ bk a' b) 0 (w1.setCell ⟨w.heap.size, 1, none⟩ (.slice a' n cap')) l [] ∧ (w1.setCell ⟨w.heap.size, 1, none⟩ (.slice a' n cap')).ownsRow (w.heap.size + 1 + 1) 59 3 (.slice a' n cap') n (([] ++ l.drop 0).flatMap Cg.c) ∧ Below w.heap.size w (w1.setCell ⟨w.heap.size, 1, none⟩ (.slice a' n cap')) ∧ (w1.setCell ⟨w.heap.size, 1, none⟩ (.slice a' n cap')).heap[w.heap.size]? = some (.cells #[.int .i64 v, .slice a' n cap'] 36 (0, 0)) ∧ (w1.setCell ⟨w.heap.size, 1, none⟩ (.slice a' n cap')).heap[w.heap.size + 1]? = some (.cells #[.int .i64 0, .slice none 0 0] 36 (0, 0)) by
    refine ⟨⟨rfl, Nat.zero_le _, by simp, by simp, by simp [capsL]⟩, ?_, hgb.setCell (Nat.le_refl _) _, ?_, ?_⟩
    · refine World.ownsRow.kept (w := w1) (by simpa using hown) (grown_cellT w1 w.heap.size 1 _) ?_
      cases hb : (Value.slice a' n cap').ownBlock with
      | none => exact .inl rfl
      | some b => exact .inr fun e => by cases e; have := (World.ownsRow.lt hown _ hb).1; omega
    · simp [World.setCell, Array.getElem?_modify, h1]
    · rw [Below.heap_setCell _ _ _ _ (by simp)]; exact h2)
  clear hg1 hown h1 h2 hgb
  go_wp2_with fail
  clear c1 f1
  generalize w1.setCell ⟨w.heap.size, 1, none⟩ (.slice a' n cap') = W1 at *
  have d1 := cell_of_row _ _ 1 _ _ _ I0.out.2.2.2.1
  go_wp2_with fail
  clear d1
  go_loopw [12] (fun i wr => ∃ k : Nat, i = .int .i64 k ∧ k ≤ n ∧ Hid (∃ D, Cop (fun b => w.heap.size + 1 + 1 ≤ b ∧ ¬ bk a' b) k wr l D ∧ wr.ownsRow (w.heap.size + 1 + 1) 59 3 (.slice a' n cap') n ((D ++ l.drop k).flatMap Cg.c) ∧ Below w.heap.size w wr ∧ wr.heap[w.heap.size]? = some (.cells #[.int .i64 v, .slice a' n cap'] 36 (0, 0)) ∧ wr.heap[w.heap.size + 1]? = some (.cells #[.int .i64 0, .slice none 0 0] 36 (0, 0)))) (fun i _ => n - (intOf i).toNat)
  case atStart => exact ⟨0, rfl, by omega, Lib.hid ⟨[], I0.out⟩⟩
  case round =>
    obtain ⟨k, rfl, hk, I⟩ := hrel
    obtain ⟨D, hD, hown, hb, hb1, hb2⟩ := I.out
    by_cases hlt : k < n
    · obtain ⟨g, cp, e, hgB, hgl⟩ := World.ownsRow.form hown (by omega)
      obtain ⟨rfl, rfl⟩ : a' = some ⟨g, 0, none⟩ ∧ cap' = cp := by simpa using e
      have hkl : k < l.length := by rw [← Hn.out]; exact hlt
      have hrow := HR.out k hlt wr hb
      have hd := cg_drop hkl
      have hlen1 := hD.len
      have hcl := cg_len D
      have hat : ∀ i, ((D ++ l.drop k).flatMap Cg.c)[k * 3 + i]? = ((l.drop k).flatMap Cg.c)[i]? := fun i => by
        rw [List.flatMap_append, List.getElem?_append_right (by omega)]
        congr 1; omega
      have c0 := World.ownsRow.cellAt hown (k * 3) (by omega)
      have c1 := World.ownsRow.cellAt hown (k * 3 + 1) (by omega)
      have c2 := World.ownsRow.cellAt hown (k * 3 + 2) (by omega)
      rw [hat 1] at c1
      rw [hat 2] at c2
      have hat0 := hat 0
      rw [Nat.add_zero] at hat0
      rw [hat0] at c0
      rw [hd] at c0 c1 c2
      simp only [List.flatMap_cons, Cg.c, List.cons_append, List.getElem?_cons_zero, List.getElem?_cons_succ] at c0 c1 c2
      obtain ⟨x, hx⟩ : ∃ x, x = l.getD k default := ⟨_, rfl⟩
      rw [← hx] at c0 c1 c2 hrow hd
      have P0 : Hid (Own2 (w.heap.size + 1 + 1) g n cap' k ((D ++ l.drop k).flatMap Cg.c) wr x.o.v x.n.v) := Lib.hid (by
        unfold Own2
        rw [hd, cop_set D (l.drop (k + 1)) x x.o x.n k hlen1]
        rw [hd] at hown
        exact hown)
      have Hx := Lib.hid (And.intro hx (And.intro hD (And.intro hb (And.intro hb1 (And.intro hb2 hd)))))
      obtain ⟨xt, ⟨oa, oc, ol⟩, ⟨na, nc, nl⟩⟩ := x
      simp only [Rw.v] at c0 c1 c2 hrow P0
      have T1 := Lib.hid (fun W (hW : wr.grownBy W none) => clone_any (fun b => W.heap.size ≤ b) oa oc ol W (hrow.1.keep (.of hW)).row hrow.1.1 (fun _ h => h))
      have T2 := Lib.hid (fun W (hW : wr.grownBy W none) => clone_any (fun b => W.heap.size ≤ b) na nc nl W (hrow.2.keep (.of hW)).row hrow.2.1 (fun _ h => h))
      clear hx hD hb hb1 hb2 hd hown I hat hat0 hcl hrow
      have hlo : w.heap.size + 1 + 1 ≤ g := hgB
      have hgr : g < wr.heap.size := hgl
      obtain ⟨ob, hob⟩ : ∃ o : Obj, o = .cells #[.string xt, .slice oa ol.length oc, .slice na nl.length nc] 59 := ⟨_, rfl⟩
      have GA := World.grownBy_alloc wr ob none
      have F := Lib.hid (fun W (hW : (wr.alloc ob).grownBy W none) => show W.cell? ⟨w.heap.size, 1, none⟩ = some (.slice (some ⟨g, 0, none⟩) n cap') ∧ W.cell? ⟨wr.heap.size, 1, none⟩ = some (.slice oa ol.length oc) ∧ W.cell? ⟨wr.heap.size, 2, none⟩ = some (.slice na nl.length nc) from by
        have e := heap_alloc_new wr ob
        rw [hob] at e
        exact ⟨hW.cell (GA.cell (cell_of_row _ _ 1 _ _ _ Hx.out.2.2.2.1) (by simp)) (by simp), hW.cell (by rw [hob]; exact cell_of_row _ _ 1 _ _ _ e) (by simp), hW.cell (by rw [hob]; exact cell_of_row _ _ 2 _ _ _ e) (by simp)⟩)
      have GA' := Lib.hid GA
      rw [hob] at F GA'
      clear GA
      obtain ⟨q1, hq1⟩ : ∃ q, q = ol.length := ⟨_, rfl⟩
      obtain ⟨q2, hq2⟩ : ∃ q, q = nl.length := ⟨_, rfl⟩
      have Hq := Lib.hid (And.intro hq1 hq2)
      rw [← hq1, ← hq2] at GA' F
      rw [← hq1] at c1 T1
      rw [← hq2] at c2 T2
      rw [← hq1, ← hq2] at P0
      clear hq1 hq2
      have C0 := Lib.hid (grown_drewT (grown_reflT (wr.alloc (.cells #[.string xt, .slice oa q1 oc, .slice na q2 nc] 59)) none))
      go_upto_region 5 with fail
      generalize wr.alloc (.cells #[.string xt, .slice oa q1 oc, .slice na q2 nc] 59) = wa at *
      obtain ⟨k1, k2, k3⟩ := F.out wa (grown_reflT _ _)
      go_region_held3 (fun W => W.cell? ⟨w.heap.size, 1, none⟩ = some (.slice (some ⟨g, 0, none⟩) n cap') ∧ W.cell? ⟨wr.heap.size, 1, none⟩ = some (.slice oa q1 oc) ∧ W.cell? ⟨wr.heap.size, 2, none⟩ = some (.slice na q2 nc)) (first | exact F.out _ G4.out | exact F.out _ G3.out | exact F.out _ C0.out | exact three_set (F.out _ G4.out) (by omega) (by omega) _ _ | exact three_set (three_set (F.out _ G4.out) (by omega) (by omega) _ _) (by omega) (by omega) _ _) (first
        | (go_at_call 68; (with_reducible refine (T1.out _ (GA'.out.trans C0.out)).mono ?_); rintro e w3 ⟨⟨a1, e1, rfl, z1, r1⟩, hg3⟩; have Z1 := Lib.hid z1.2; clear z1; have G3 := Lib.hid (C0.out.trans hg3); have R1 := Lib.hid r1; clear r1 hg3)
        | (go_at_call 68; (with_reducible refine (T2.out _ (GA'.out.trans G3.out)).mono ?_); rintro e w4 ⟨⟨a2, e2, rfl, z2, r2⟩, hg4⟩; have Z2 := Lib.hid z2.2; clear z2; have G4 := Lib.hid (G3.out.trans hg4); have R2 := Lib.hid r2; have HG4 := Lib.hid hg4; have P4 := Lib.hid (own2_call P0.out (GA'.out.trans (G3.out.trans hg4))); obtain ⟨s1, s2, s3, s4⟩ := own2_cell P4.out hlt; clear r2 hg4))
      all_goals
        go_wp2_with fail
        go_roundw
        case rel =>
          obtain ⟨hx, hD, hb, hb1, hb2, hd⟩ := Hx.out
          have hg4 : wr.grownBy w4 none := GA'.out.trans G4.out
          obtain ⟨wf, hwf⟩ : ∃ wf, wf = (w4.setCell ⟨g, k * 3 + 1, none⟩ (.slice a1 q1 e1)).setCell ⟨g, k * 3 + 2, none⟩ (.slice a2 q2 e2) := ⟨_, rfl⟩
          have ho : Only (fun b => g = b) w4 wf := by rw [hwf]; exact ((Only.refl _ w4).set (.inl rfl) _ _).set (.inl rfl) _ _
          have hS : ∀ w5 : World, wr.heap.size ≤ w5.heap.size → ∀ b, w5.heap.size ≤ b → w.heap.size + 1 + 1 ≤ b ∧ ¬ bk (some ⟨g, 0, none⟩) b := fun w5 h5 b hb5 => ⟨by have := hb.size; omega, fun e => by rw [bk_some] at e; omega⟩
          have hst : Stays (fun b => w.heap.size + 1 + 1 ≤ b ∧ ¬ bk (some ⟨g, 0, none⟩) b) w4 wf := ho.stays (fun b hb _ e => hb.2 (by rw [bk_some]; exact e))
          have hblk : ∀ b, b < wr.heap.size → b ≠ g → wf.heap[b]? = wr.heap[b]? := fun b hb hne => (ho.block b (Nat.lt_of_lt_of_le hb hg4.size) (fun e => hne e.symm)).trans (hg4.block b hb (by simp))
          rw [← hwf]
          have hwr : wr.heap.size ≤ wa.heap.size := GA'.out.size
          refine ⟨k + 1, by go_num, by omega, Lib.hid ⟨D ++ [⟨(l.getD k default).t, ⟨a1, e1, ol⟩, ⟨a2, e2, nl⟩⟩], ?_, ?_, ?_, ?_, ?_⟩⟩
          · refine (hD.keep (.of hg4)).keep hst |>.push hkl (by rw [← hx]) (by rw [← hx]) ?_ ?_ (by simp only; rw [← Hq.out.1]; exact Z1.out) (by simp only; rw [← Hq.out.2]; exact Z2.out)
            · exact ((R1.out.mono (fun b _ h => hS _ (Nat.le_trans hwr C0.out.size) b h)).keep (.of HG4.out)).keep hst
            · exact (R2.out.mono (fun b _ h => hS _ (Nat.le_trans hwr G3.out.size) b h)).keep hst
          · have h5 := own2_set2 (own2_set1 P4.out (.slice a1 q1 e1)) (.slice a2 q2 e2)
            rw [← hwf] at h5
            unfold Own2 at h5
            rw [hd, Hq.out.1, Hq.out.2] at h5
            have h6 := cop_set D (l.drop (k + 1)) ⟨xt, ⟨oa, oc, ol⟩, ⟨na, nc, nl⟩⟩ ⟨a1, e1, ol⟩ ⟨a2, e2, nl⟩ k hlen1
            simp only [Rw.v] at h6
            rw [h6] at h5
            rw [List.append_assoc, ← hx]
            exact h5
          · rw [hwf]
            exact ((hb.trans ((below_grownT hg4).mono hb.size)).setCell (p := ⟨g, _, none⟩) (by show w.heap.size ≤ g; omega) _).setCell (p := ⟨g, _, none⟩) (by show w.heap.size ≤ g; omega) _
          · rw [hblk _ (by omega) (by omega)]; exact hb1
          · rw [hblk _ (by omega) (by omega)]; exact hb2
        case measure => simp [intOf]; omega
    · obtain rfl : k = n := by omega
      have d0 := cell_of_row _ _ 0 _ _ _ hb1
      have d1 := cell_of_row _ _ 1 _ _ _ hb1
      have e0 := cell_of_row _ _ 0 _ _ _ hb2
      have e1 := cell_of_row _ _ 1 _ _ _ hb2
      have f0 : wr.frozen? ⟨w.heap.size + 1, 0, none⟩ = false := by simp [World.frozen?, hb2]
      have f1 : wr.frozen? ⟨w.heap.size + 1, 1, none⟩ = false := by simp [World.frozen?, hb2]
      have Z := Lib.hid (And.intro hD (And.intro hown hb))
      clear hD hown hb hb1 hb2 I
      go_wp2_with fail
      obtain ⟨hD, hown, hb⟩ := Z.out
      have hkl : k = l.length := Hn.out
      have hd0 : l.drop k = [] := List.drop_of_length_le (by omega)
      rw [hd0, List.append_nil] at hown
      obtain ⟨wf, hwf⟩ : ∃ wf, wf = (wr.setCell ⟨w.heap.size + 1, 0, none⟩ (.int .i64 v)).setCell ⟨w.heap.size + 1, 1, none⟩ (.slice a' k cap') := ⟨_, rfl⟩
      have ho : Only (fun b => w.heap.size + 1 = b) wr wf := by rw [hwf]; exact ((Only.refl _ wr).set (.inl rfl) _ _).set (.inl rfl) _ _
      have hst : Stays (fun b => w.heap.size + 1 + 1 ≤ b ∧ ¬ bk a' b) wr wf := ho.stays (fun b hb _ e => by have := hb.1; omega)
      have hown2 : wf.ownsRow (w.heap.size + 1 + 1) 59 3 (.slice a' k cap') D.length (D.flatMap Cg.c) := by
        rw [hD.len]
        refine own_only hown ho (fun g hg => ?_)
        have := (World.ownsRow.lt hown g hg).1
        omega
      have hD2 := hD.keep hst
      have hDl : D.length = l.length := by rw [hD.len]; exact hkl
      obtain ⟨a2, c2, e2, hc2, hcg⟩ := own_cg (S := fun b => w.heap.size ≤ b) hown2 (fun b hb => by omega) (by rw [hD.len]; exact hlen) (fun x hx => ⟨(hD2.at_ x hx).1.mono (fun b _ h => by have := h.1; omega), (hD2.at_ x hx).2.mono (fun b _ h => by have := h.1; omega)⟩)
      have e3 : a2 = a' ∧ c2 = cap' := by
        have := Value.slice.inj e2
        exact ⟨this.1.symm, this.2.2.symm⟩
      obtain ⟨rfl, rfl⟩ := e3
      refine bodyPost_ret (v := .agg #[.int .i64 v, .slice a2 k c2]) (by simp [results, Tryz.results46, go_sem, e0, e1]) rfl ⟨⟨a2, c2, D, rfl, hD.len, ⟨by have := hD.len; omega, hD.caps⟩, ?_, ?_⟩, ?_⟩
      · rw [hD.same, List.take_of_length_le (by omega)]
      · rw [← hwf]; exact hcg
      · exact grown_belowT ((hb.setCell (p := ⟨w.heap.size + 1, 0, none⟩) (by show w.heap.size ≤ w.heap.size + 1; omega) _).setCell (p := ⟨w.heap.size + 1, 1, none⟩) (by show w.heap.size ≤ w.heap.size + 1; omega) _) none
end Go.Proofs.YtnfpomjcofhppaaGreatDoor
namespace Go.Proofs.YtnfpomjcofhppaaGreatDoor
open Go.RowKit

set_option maxRecDepth 100000 in
set_option maxHeartbeats 6400000 in
theorem del_lt (b : Nat) (lp rp ka tka tva : Ptr) (m kc tm tkc tq tvc n : Nat) (c : Int) (w : World) (P1 P2 : World → Ptr → Prop) (hn : 0 < n) (hc : c < 0)
    (HB : Box4 b w (.slice tka tm tkc) (.slice tva tq tvc) (.pointer lp) (.pointer rp))
    (HL : Hid (∀ W, w.grownBy W none → Calls Tryz.prog 45 #[.pointer (some ⟨b, 0, none⟩)] W fun e w' => e = .returned (.int .i64 n) ∧ W = w'))
    (HC : Hid (∀ W, w.grownBy W none → Calls Tryz.prog 79 #[.slice ka m kc, .slice tka tm tkc] W fun e w' => e = .returned (.int .i64 c) ∧ W.grownBy w' none))
    (T1 : Hid (∀ W, w.grownBy W none → Makes 64 #[.pointer lp, .slice ka m kc] W P1))
    (T2 : Hid (∀ W p, w.grownBy W none → P1 W p → Makes 80 #[.pointer p, .agg #[.slice tka tm tkc, .slice tva tq tvc], .pointer rp] W P2)) :
    Makes 64 #[.pointer (some ⟨b, 0, none⟩), .slice ka m kc] w P2 := by
  have F := Lib.hid (fun (W : World) (hW : w.grownBy W none) => HB.keep hW)
  have hn' : ((n : Int) == 0) = false := beq_eq_false_iff_ne.2 (by omega)
  have C0 := Lib.hid (grown_reflT w none)
  clear HB hn
  unfold Makes
  go_enter Tryz.func64, Tryz.ntmps64
  go_wp2_with fail
  refine (HL.out _ C0.out).mono ?_
  rintro e w1 ⟨rfl, rfl⟩
  go_upto_region 3 with fail
  clear hn' HL
  obtain ⟨b0, b1, b2, b3⟩ := F.out _ C0.out
  go_wp2_with fail
  refine (HC.out _ C0.out).mono ?_
  rintro e w0 ⟨rfl, hg0⟩
  have G0 := Lib.hid hg0
  clear b0 b1 b2 b3 HC hg0
  obtain ⟨b0, b1, b2, b3⟩ := F.out _ G0.out
  have T1' := Lib.hid (Makes.calls (T1.out w0.drew (grown_drewT G0.out)))
  clear T1
  go_upto_region 5 with fail
  go_region_held3 (fun w' => w'.cell? ⟨b, 0, none⟩ = some (.slice tka tm tkc) ∧ w'.cell? ⟨b, 1, none⟩ = some (.slice tva tq tvc) ∧ w'.cell? ⟨b, 2, none⟩ = some (.pointer lp) ∧ w'.cell? ⟨b, 3, none⟩ = some (.pointer rp)) (first | exact F.out _ G1.out | exact F.out _ (grown_drewT G0.out) | exact F.out _ G2.out) (first
    | (go_at_call 64; (with_reducible refine T1'.out.mono ?_); rintro e w2 ⟨⟨p1, rfl, hp1⟩, hg2⟩; have G1 := Lib.hid ((grown_drewT G0.out).trans hg2); have T2' := Lib.hid (Makes.calls (T2.out _ p1 G1.out hp1)); clear hg2 hp1)
    | (go_at_call 80; (with_reducible refine T2'.out.mono ?_); rintro e w3 ⟨⟨p2, rfl, hp2⟩, hg3⟩; have G2 := Lib.hid (G1.out.trans hg3); have Hp2 := Lib.hid hp2; clear hg3 hp2))
  go_wp2_with fail
  go_ret
  exact ⟨⟨_, rfl, Hp2.out⟩, G2.out⟩
set_option maxRecDepth 100000 in
set_option maxHeartbeats 6400000 in
theorem del_gt (b : Nat) (lp rp ka tka tva : Ptr) (m kc tm tkc tq tvc n : Nat) (c : Int) (w : World) (P1 P2 : World → Ptr → Prop) (hn : 0 < n) (hc : 0 < c)
    (HB : Box4 b w (.slice tka tm tkc) (.slice tva tq tvc) (.pointer lp) (.pointer rp))
    (HL : Hid (∀ W, w.grownBy W none → Calls Tryz.prog 45 #[.pointer (some ⟨b, 0, none⟩)] W fun e w' => e = .returned (.int .i64 n) ∧ W = w'))
    (HC : Hid (∀ W, w.grownBy W none → Calls Tryz.prog 79 #[.slice ka m kc, .slice tka tm tkc] W fun e w' => e = .returned (.int .i64 c) ∧ W.grownBy w' none))
    (T1 : Hid (∀ W, w.grownBy W none → Makes 64 #[.pointer rp, .slice ka m kc] W P1))
    (T2 : Hid (∀ W p, w.grownBy W none → P1 W p → Makes 80 #[.pointer lp, .agg #[.slice tka tm tkc, .slice tva tq tvc], .pointer p] W P2)) :
    Makes 64 #[.pointer (some ⟨b, 0, none⟩), .slice ka m kc] w P2 := by
  have F := Lib.hid (fun (W : World) (hW : w.grownBy W none) => HB.keep hW)
  have hn' : ((n : Int) == 0) = false := beq_eq_false_iff_ne.2 (by omega)
  have C0 := Lib.hid (grown_reflT w none)
  have hc' : ¬ c < 0 := by omega
  clear HB hn
  unfold Makes
  go_enter Tryz.func64, Tryz.ntmps64
  go_wp2_with fail
  refine (HL.out _ C0.out).mono ?_
  rintro e w1 ⟨rfl, rfl⟩
  go_upto_region 3 with fail
  clear hn' HL
  obtain ⟨b0, b1, b2, b3⟩ := F.out _ C0.out
  go_wp2_with fail
  refine (HC.out _ C0.out).mono ?_
  rintro e w0 ⟨rfl, hg0⟩
  have G0 := Lib.hid hg0
  clear b0 b1 b2 b3 HC hg0
  obtain ⟨b0, b1, b2, b3⟩ := F.out _ G0.out
  have T1' := Lib.hid (Makes.calls (T1.out w0.drew (grown_drewT G0.out)))
  clear T1
  go_upto_region 7 with fail
  go_region_held3 (fun w' => w'.cell? ⟨b, 0, none⟩ = some (.slice tka tm tkc) ∧ w'.cell? ⟨b, 1, none⟩ = some (.slice tva tq tvc) ∧ w'.cell? ⟨b, 2, none⟩ = some (.pointer lp) ∧ w'.cell? ⟨b, 3, none⟩ = some (.pointer rp)) (first | exact F.out _ G1.out | exact F.out _ (grown_drewT G0.out) | exact F.out _ G2.out) (first
    | (go_at_call 64; (with_reducible refine T1'.out.mono ?_); rintro e w2 ⟨⟨p1, rfl, hp1⟩, hg2⟩; have G1 := Lib.hid ((grown_drewT G0.out).trans hg2); have T2' := Lib.hid (Makes.calls (T2.out _ p1 G1.out hp1)); clear hg2 hp1)
    | (go_at_call 80; (with_reducible refine T2'.out.mono ?_); rintro e w3 ⟨⟨p2, rfl, hp2⟩, hg3⟩; have G2 := Lib.hid (G1.out.trans hg3); have Hp2 := Lib.hid hp2; clear hg3 hp2))
  go_wp2_with fail
  go_ret
  exact ⟨⟨_, rfl, Hp2.out⟩, G2.out⟩
set_option maxRecDepth 100000 in
set_option maxHeartbeats 6400000 in
theorem del_eq (b : Nat) (lp rp ka tka tva : Ptr) (m kc tm tkc tq tvc n : Nat) (c : Int) (w : World) (P2 : World → Ptr → Prop) (hn : 0 < n) (hc : c = 0)
    (HB : Box4 b w (.slice tka tm tkc) (.slice tva tq tvc) (.pointer lp) (.pointer rp))
    (HL : Hid (∀ W, w.grownBy W none → Calls Tryz.prog 45 #[.pointer (some ⟨b, 0, none⟩)] W fun e w' => e = .returned (.int .i64 n) ∧ W = w'))
    (HC : Hid (∀ W, w.grownBy W none → Calls Tryz.prog 79 #[.slice ka m kc, .slice tka tm tkc] W fun e w' => e = .returned (.int .i64 c) ∧ W.grownBy w' none))
    (T1 : Hid (∀ W, w.grownBy W none → Makes 81 #[.pointer lp, .pointer rp] W P2)) :
    Makes 64 #[.pointer (some ⟨b, 0, none⟩), .slice ka m kc] w P2 := by
  have F := Lib.hid (fun (W : World) (hW : w.grownBy W none) => HB.keep hW)
  have hn' : ((n : Int) == 0) = false := beq_eq_false_iff_ne.2 (by omega)
  have C0 := Lib.hid (grown_reflT w none)
  have hc1 : ¬ c < 0 := by omega
  have hc2 : ¬ 0 < c := by omega
  clear hc
  clear HB hn
  unfold Makes
  go_enter Tryz.func64, Tryz.ntmps64
  go_wp2_with fail
  refine (HL.out _ C0.out).mono ?_
  rintro e w1 ⟨rfl, rfl⟩
  go_upto_region 3 with fail
  clear hn' HL
  obtain ⟨b0, b1, b2, b3⟩ := F.out _ C0.out
  go_wp2_with fail
  refine (HC.out _ C0.out).mono ?_
  rintro e w0 ⟨rfl, hg0⟩
  have G0 := Lib.hid hg0
  clear b0 b1 b2 b3 HC hg0
  obtain ⟨b0, b1, b2, b3⟩ := F.out _ G0.out
  have T1' := Lib.hid (Makes.calls (T1.out w0.drew (grown_drewT G0.out)))
  clear T1
  go_upto_region 8 with fail
  go_region_held3 (fun w' => w'.cell? ⟨b, 0, none⟩ = some (.slice tka tm tkc) ∧ w'.cell? ⟨b, 1, none⟩ = some (.slice tva tq tvc) ∧ w'.cell? ⟨b, 2, none⟩ = some (.pointer lp) ∧ w'.cell? ⟨b, 3, none⟩ = some (.pointer rp)) (first | exact F.out _ G1.out | exact F.out _ (grown_drewT G0.out)) ((go_at_call 81; (with_reducible refine T1'.out.mono ?_); rintro e w2 ⟨⟨p1, rfl, hp1⟩, hg2⟩; have G1 := Lib.hid ((grown_drewT G0.out).trans hg2); have Hp1 := Lib.hid hp1; clear hg2 hp1))
  go_wp2_with fail
  go_ret
  exact ⟨⟨_, rfl, Hp1.out⟩, G1.out⟩
set_option maxHeartbeats 3200000 in
theorem del_nil (ka : Ptr) (m kc : Nat) (w : World) (P2 : World → Ptr → Prop) (hP : P2 w none)
    (HL : Hid (∀ W, w.grownBy W none → Calls Tryz.prog 45 #[.pointer none] W fun e w' => e = .returned (.int .i64 0) ∧ W = w')) :
    Makes 64 #[.pointer none, .slice ka m kc] w P2 := by
  have C0 := Lib.hid (grown_reflT w none)
  have HP := Lib.hid hP
  clear hP
  unfold Makes
  go_enter Tryz.func64, Tryz.ntmps64
  go_wp2_with fail
  refine (HL.out _ C0.out).mono ?_
  rintro e w1 ⟨rfl, rfl⟩
  go_wp2_with fail
  go_ret
  exact ⟨⟨_, rfl, HP.out⟩, C0.out⟩
set_option maxRecDepth 100000 in
set_option maxHeartbeats 6400000 in
theorem beside_nil (lp : Ptr) (w : World) (P2 : World → Ptr → Prop) (hP : P2 w lp) : Makes 81 #[.pointer lp, .pointer none] w P2 := by
  have HP := Lib.hid hP
  clear hP
  unfold Makes
  go_enter Tryz.func81, Tryz.ntmps81
  go_wp2_with fail
  go_ret
  exact ⟨⟨_, rfl, HP.out⟩, grown_reflT _ _⟩
set_option maxRecDepth 100000 in
set_option maxHeartbeats 6400000 in
theorem beside_gen (r : Addr) (lp : Ptr) (w : World) (P1 P2 : World → Ptr → Prop) (pp dp : Nat) (Q : World → Prop) (P0 : World → Ptr → Nat → Ptr → Nat → Nat → Ptr → Nat → Nat → Prop)
    (HW : Hid (Calls Tryz.prog 70 #[.pointer (some r), .slice none 0 0] w fun e w' => e = .returned (walkF pp dp) ∧ Q w' ∧ w.grownBy w' none))
    (HN : Hid (∀ W, Q W → w.grownBy W none → Calls Tryz.prog 85 #[.pointer (some ⟨pp, 0, none⟩), .pointer (some ⟨dp, 0, none⟩)] W fun e w' => (∃ b ka m kc va q vc, e = .returned (.pointer (some ⟨b, 0, none⟩)) ∧ w'.cell? ⟨b, 0, none⟩ = some (.slice ka m kc) ∧ w'.cell? ⟨b, 1, none⟩ = some (.slice va q vc) ∧ P0 w' (some ⟨b, 0, none⟩) b ka m kc va q vc) ∧ w.grownBy w' none))
    (T1 : Hid (∀ W W' p b ka m kc va q vc, w.grownBy W none → P0 W p b ka m kc va q vc → W.grownBy W' none → Makes 64 #[.pointer (some r), .slice ka m kc] W' P1))
    (T2 : Hid (∀ W W' p b ka m kc va q vc p1, w.grownBy W none → P0 W p b ka m kc va q vc → W.grownBy W' none → P1 W' p1 → Makes 80 #[.pointer lp, .agg #[.slice ka m kc, .slice va q vc], .pointer p1] W' P2)) :
    Makes 81 #[.pointer lp, .pointer (some r)] w P2 := by
  unfold Makes
  go_enter Tryz.func81, Tryz.ntmps81
  go_wp2_with fail
  refine HW.out.mono ?_
  rintro e w1 ⟨rfl, hq, hg1⟩
  have N1 := Lib.hid (HN.out _ hq hg1)
  clear hq hg1 HN HW
  go_wp2_with fail
  refine N1.out.mono ?_
  rintro e w2 ⟨⟨b, ka, m, kc, va, q, vc, rfl, c0, c1, h0⟩, hg2⟩
  have G2 := Lib.hid hg2
  have F := Lib.hid (fun (W : World) (hW : w2.grownBy W none) => And.intro (hW.cell c0 (by simp)) (hW.cell c1 (by simp)))
  have T1' := Lib.hid (Makes.calls (T1.out _ w2.drew _ _ _ _ _ _ _ _ hg2 h0 (grown_drewT (grown_reflT w2 none))))
  have T2' := Lib.hid (fun W' p1 h h' => Makes.calls (T2.out _ W' _ _ _ _ _ _ _ _ p1 hg2 h0 h h'))
  have C2 := Lib.hid (grown_reflT w2 none)
  clear hg2 h0 T1 T2 N1
  go_upto_region 4 with fail
  go_region_held3 (fun w' => w'.cell? ⟨b, 0, none⟩ = some (.slice ka m kc) ∧ w'.cell? ⟨b, 1, none⟩ = some (.slice va q vc)) (first | exact F.out _ E1.out | exact F.out _ (grown_drewT C2.out) | exact F.out _ E2.out) (first
    | (go_at_call 64; (with_reducible refine T1'.out.mono ?_); rintro e w3 ⟨⟨p1, rfl, hp1⟩, hg3⟩; have E1 := Lib.hid ((grown_drewT C2.out).trans hg3); have T3' := Lib.hid (T2'.out _ p1 E1.out hp1); clear hg3 hp1)
    | (go_at_call 80; (with_reducible refine T3'.out.mono ?_); rintro e w4 ⟨⟨p2, rfl, hp2⟩, hg4⟩; have E2 := Lib.hid (E1.out.trans hg4); have Hp2 := Lib.hid hp2; clear hg4 hp2))
  go_wp2_with fail
  go_ret
  exact ⟨⟨_, rfl, Hp2.out⟩, G2.out.trans E2.out⟩
end Go.Proofs.YtnfpomjcofhppaaGreatDoor
namespace Go.Proofs.YtnfpomjcofhppaaGreatDoor
open Go.RowKit

/-- The row of a key. -/
def lookL (key : List Vl) (l : List (List Vl × List Vl)) : Option (List Vl) := (l.find? fun x => rowsOrd x.1 key == 0).map Prod.snd
def headL (key : List Vl) : List (List Vl × List Vl) → Option (List Vl)
  | [] => none
  | (k, r) :: _ => if rowsOrd k key = 0 then some r else none
theorem look_from {key : List Vl} : ∀ {l : List (List Vl × List Vl)}, Tr.Sorted rowsOrd l → lookL key l = headL key (fromL key l)
  | [], _ => rfl
  | (k, r) :: l, h => by
    have h' := List.pairwise_cons.1 h
    have ih := look_from (key := key) h'.2
    by_cases h0 : rowsOrd k key < 0
    · have e1 : fromL key ((k, r) :: l) = fromL key l := by simp [fromL, h0]
      have e2 : lookL key ((k, r) :: l) = lookL key l := by
        unfold lookL
        rw [List.find?_cons_of_neg (by simp; omega)]
      rw [e1, e2, ih]
    · have e1 : fromL key ((k, r) :: l) = (k, r) :: fromL key l := by unfold fromL; rw [List.filter_cons, if_pos (by simp; omega)]
      rw [e1]
      by_cases hz : rowsOrd k key = 0
      · simp [lookL, headL, hz]
      · have e2 : lookL key ((k, r) :: l) = lookL key l := by
          unfold lookL
          rw [List.find?_cons_of_neg (by simpa using hz)]
        rw [e2]
        simp only [headL, hz, if_false]
        unfold lookL
        rw [List.find?_eq_none.2 (fun x hx e => ?_)]
        · rfl
        · have e' : rowsOrd x.1 key = 0 := by simpa using e
          have := (ro_zero _ _).1 e'
          have hlt := h'.1 x hx
          simp only at hlt
          rw [this] at hlt
          omega
set_option maxRecDepth 100000 in
set_option maxHeartbeats 6400000 in
theorem Get_any (S : Nat → Prop) (t : Tre) (p ka : Ptr) (kc : Nat) (key : List Vl) (w : World) (ht : TrAt S w t p) (hs : Tr.Sorted rowsOrd t.toL) (hn : t.n ≤ 100000000) (hk : RowAt w ka key) (hkl : key.length ≤ 4294967296) :
    Calls Tryz.prog 63 #[.pointer p, .slice ka key.length kc] w fun e w' => ((∃ a c r, e = .returned (.tuple #[.slice a (List.length r) c, .bool true]) ∧ RwS (fun b => w.heap.size ≤ b) w' a r ∧ lookL key t.toL = some r) ∨ (e = .returned (.tuple #[.slice none 0 0, .bool false]) ∧ lookL key t.toL = none)) ∧ w.grownBy w' none := by
  have HW := Lib.hid (walk_any ro_ord S t p ka kc key w ht hs (by omega) hk hkl)
  have HL := Lib.hid (look_from (key := key) hs)
  have hfl : (fromL key t.toL).length ≤ 100000000 := by
    have : (fromL key t.toL).length ≤ t.toL.length := List.length_filter_le _ _
    rw [← Tr.n_toL] at this
    omega
  have HK := Lib.hid (And.intro hk hfl)
  obtain ⟨m, hm⟩ : ∃ m, m = key.length := ⟨_, rfl⟩
  have Hm := Lib.hid hm
  rw [← hm] at HW ⊢
  clear ht hs hn hk hkl hfl hm
  go_enter Tryz.func63, Tryz.ntmps63
  go_wp2_with fail
  refine HW.out.mono ?_
  rintro e w1 ⟨⟨v, xs, rfl, hw, hr, hl⟩, hg1⟩
  cases hf : fromL key t.toL with
  | nil =>
    have HN := Lib.hid (next_none _ _ _ _ _ _ _ _ _ _ w1 hw (hr.trans hf))
    rw [hf] at HL
    simp only [headL] at HL
    have G1 := Lib.hid hg1
    clear hw hr hl hg1 hf HW
    go_wp2_with fail
    refine HN.out.mono ?_
    rintro e w2 ⟨rfl, rfl⟩
    go_wp2_with fail
    go_ret2
    exact ⟨.inr ⟨rfl, HL.out⟩, G1.out⟩
  | cons kr rest =>
    obtain ⟨k, r⟩ := kr
    have hrl : rest.length ≤ 400000000 := by have := HK.out.2; rw [hf] at this; simp at this; omega
    have HN := Lib.hid (next_more ro_ord _ _ _ _ _ _ _ _ _ _ w1 k r rest hw (hr.trans hf) hrl)
    rw [hf] at HL
    have hlow := hw.own
    have hbp := hw.bp
    have G1 := Lib.hid (And.intro hg1 (And.intro hlow hbp))
    clear hw hr hl hg1 hf HW hlow hbp hrl
    go_wp2_with fail
    refine HN.out.mono ?_
    rintro e w2 ⟨⟨px, rfl, b, ka', kc', va, vc, rfl, _, _, c0, c1, h1, h2⟩, _, ho⟩
    have hg2 : w.grownBy w2 none := only_grown G1.out.1 ho (fun b hb => by
      rcases hb with rfl | hb
      · exact G1.out.2.2
      · exact (World.ownsRow.lt G1.out.2.1 b hb).1)
    have HR := Lib.hid (rows_grown ka' ka kc' kc k key w2 h1.row (HK.out.1.keep (below_grownT hg2)))
    rw [← Hm.out] at HR
    have HCl := Lib.hid (fun W (hW : w2.grownBy W none) => clone_any (fun b => w.heap.size ≤ b) va vc r W ((h2.keep (.of hW)).row) h2.1 (fun b hb => Nat.le_trans (Nat.le_trans hg2.size hW.size) hb))
    have F := Lib.hid (fun (W : World) (hW : w2.grownBy W none) => hW.cell c1 (by simp))
    have G2 := Lib.hid hg2
    clear h1 h2 ho hg2 c1
    obtain ⟨km, hkm⟩ : ∃ km, km = k.length := ⟨_, rfl⟩
    obtain ⟨rm, hrm⟩ : ∃ rm, rm = r.length := ⟨_, rfl⟩
    have Hrm := Lib.hid hrm
    rw [← hkm] at c0 HR
    rw [← hrm] at HCl F
    clear hkm hrm
    simp only [headL] at HL
    by_cases hz : rowsOrd k key = 0
    · rw [hz] at HR
      rw [if_pos hz] at HL
      clear hz
      go_wp2_with fail
      refine HR.out.mono ?_
      rintro e w3 ⟨rfl, hg3⟩
      have G3 := Lib.hid hg3
      have c1 := F.out _ hg3
      clear hg3 c0
      go_wp2_with fail
      refine (HCl.out _ G3.out).mono ?_
      rintro e w4 ⟨⟨a', c', rfl, _, hrw⟩, hg4⟩
      have D := Lib.hid (And.intro hrw ((G2.out.trans G3.out).trans hg4))
      clear hrw hg4
      go_wp2_with fail
      go_ret2
      exact ⟨.inl ⟨a', c', r, by rw [← Hrm.out]; rfl, D.out.1, HL.out⟩, D.out.2⟩
    · rw [if_neg hz] at HL
      generalize rowsOrd k key = cc at *
      have hz' : (cc != 0) = true := by simpa using hz
      clear hz
      go_wp2_with fail
      refine HR.out.mono ?_
      rintro e w3 ⟨rfl, hg3⟩
      have G3 := Lib.hid hg3
      clear hg3 c0
      go_wp2_with fail
      go_ret2
      exact ⟨.inr ⟨rfl, HL.out⟩, G2.out.trans G3.out⟩
/-- A slice of rows. -/
def RsAt (w : World) (a : Ptr) (l : List Rw) : Prop :=
  l.length ≤ 1000000000 ∧ (∀ x ∈ l, RowAt w x.a x.l) ∧ (l = [] ∨ ∃ b off, a = some ⟨b, off, none⟩ ∧ b < w.heap.size ∧ ∀ i, i < l.length → w.cell? ⟨b, off + i, none⟩ = some (l.getD i default).v)
theorem RsAt.keep {w w' : World} {a : Ptr} {l : List Rw} (h : RsAt w a l) (hg : w.grownBy w' none) : RsAt w' a l :=
  ⟨h.1, fun x hx => (h.2.1 x hx).keep (below_grownT hg), h.2.2.imp id fun ⟨b, off, e, hlt, hc⟩ => ⟨b, off, e, Nat.lt_of_lt_of_le hlt hg.size, fun i hi => hg.cell (hc i hi) (by simp)⟩⟩
theorem RsAt.at {w : World} {a : Ptr} {l : List Rw} (h : RsAt w a l) {i : Nat} (hi : i < l.length) : (∃ b off, a = some ⟨b, off, none⟩ ∧ w.cell? ⟨b, off + i, none⟩ = some (l.getD i default).v) ∧ RowAt w (l.getD i default).a (l.getD i default).l := by
  refine ⟨?_, h.2.1 _ (by simp [List.getD, hi])⟩
  rcases h.2.2 with h0 | ⟨b, off, e, _, hc⟩
  · rw [h0] at hi; simp at hi
  · exact ⟨b, off, e, hc i hi⟩
theorem own_rs {B : Nat} {S : Nat → Prop} {w : World} {v : Value} {l : List Rw} (h : w.ownsRow B 55 1 v l.length (l.map Rw.v)) (hl : l.length ≤ 1000000000) (hs : ∀ x ∈ l, RwS S w x.a x.l) : ∃ a cap, v = .slice a l.length cap ∧ l.length ≤ cap ∧ RsAt w a l := by
  rcases h.2 with ⟨hv, h0⟩ | ⟨g, cap, cur, hv, hb, hg, hc, _⟩
  · exact ⟨none, 0, by rw [hv, h0], by omega, hl, fun x hx => (hs x hx).row, .inl (List.eq_nil_of_length_eq_zero h0)⟩
  · have hlt := (h.lt g (by rw [hv]; rfl)).2
    refine ⟨some ⟨g, 0, none⟩, cap, hv, hc, hl, fun x hx => (hs x hx).row, .inr ⟨g, 0, rfl, hlt, fun i hi => ?_⟩⟩
    have c := h.cells (g := g) (by rw [hv]; rfl) i (l.getD i default).v (by simp [List.getD, hi])
    rw [add_atT] at c
    exact c
set_option maxRecDepth 100000 in
set_option maxHeartbeats 6400000 in
theorem sameRows_any (a a' : Ptr) (cap cap' : Nat) (l l' : List Rw) (w : World) (h : RsAt w a l) (h' : RsAt w a' l') (hc : l.length ≤ cap) (hc' : l'.length ≤ cap') (he : l.map Rw.l = l'.map Rw.l) :
    Calls Tryz.prog 15 #[.slice a l.length cap, .slice a' l'.length cap'] w fun e w' => e = .returned (.bool true) ∧ w.grownBy w' none := by
  have hlen : l'.length = l.length := by have := congrArg List.length he; simpa using this.symm
  have HS := Lib.hid (fun i (hi : i < l.length) W (hW : w.grownBy W none) => (refSame_any (l.getD i default).a (l'.getD i default).a (l.getD i default).cap (l'.getD i default).cap (l.getD i default).l (l'.getD i default).l W ((h.keep hW).at hi).2 ((h'.keep hW).at (by omega)).2).mono fun e w' h => And.intro h.1 (grown_belowT h.2 none))
  have HE := Lib.hid (fun i (hi : i < l.length) => show (rowsOrd (l.getD i default).l (l'.getD i default).l == 0) = true by
    have e1 : (l.getD i default).l = (l'.getD i default).l := by
      have := congrArg (fun x => x[i]?) he
      simpa [List.getD, hi, show i < l'.length by omega] using this
    rw [e1]
    simp [(ro_zero _ _).2 rfl])
  have H := Lib.hid (And.intro h h')
  have hl := h.1
  rw [hlen] at hc' ⊢
  obtain ⟨n, hn⟩ : ∃ n, n = l.length := ⟨_, rfl⟩
  have Hn := Lib.hid (And.intro hn hlen)
  rw [← hn] at hl hc hc' HS HE ⊢
  clear h h' he hn hlen
  go_enter Tryz.func15, Tryz.ntmps15
  go_wp2_with fail
  go_loopw [13] (fun i wr => ∃ (j : Nat), i = .int .i64 j ∧ j ≤ n ∧ Hid (w.grownBy wr none)) (fun i _ => n - (intOf i).toNat)
  case atStart => exact ⟨0, rfl, by omega, Lib.hid (grown_reflT _ _)⟩
  case round =>
    obtain ⟨j, rfl, hj, K⟩ := hrel
    by_cases hlt : j < n
    · obtain ⟨⟨b, off, rfl, c0⟩, _⟩ := (H.out.1.keep K.out).at (i := j) (by rw [← Hn.out.1]; exact hlt)
      obtain ⟨⟨b', off', rfl, c1⟩, _⟩ := (H.out.2.keep K.out).at (i := j) (by rw [Hn.out.2, ← Hn.out.1]; exact hlt)
      have HS1 := Lib.hid (fun W hW => HS.out j hlt W (K.out.trans hW))
      rw [HE.out j hlt] at HS1
      generalize l.getD j default = x at *
      generalize l'.getD j default = y at *
      obtain ⟨xa, xc, xl⟩ := x
      obtain ⟨ya, yc, yl⟩ := y
      simp only [Rw.v] at c0 c1 HS1
      have i1 : (j : Int) ≤ cap := by omega
      have i2 : (j : Int) ≤ cap' := by omega
      generalize xl.length = xm at *
      generalize yl.length = ym at *
      go_wp2_with fail
      go_region_with (go_at_call 14; (with_reducible refine (HS1.out _ (by first | exact grown_drewT (grown_reflT _ _) | exact grown_reflT _ _)).mono ?_); rintro e w2 ⟨rfl, hg2⟩; have G2 := Lib.hid ((grown_drewT (grown_reflT wr none)).trans hg2); clear hg2)
      all_goals
        go_wp2_with fail
        go_roundw
        case rel => exact ⟨j + 1, by go_num, by omega, Lib.hid (K.out.trans G2.out)⟩
        case measure => simp [intOf]; omega
    · obtain rfl : j = n := by omega
      go_wp2_with fail
      go_ret
      exact ⟨rfl, K.out⟩
end Go.Proofs.YtnfpomjcofhppaaGreatDoor
