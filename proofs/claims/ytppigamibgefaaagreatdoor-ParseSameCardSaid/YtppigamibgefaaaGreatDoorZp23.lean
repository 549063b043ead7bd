/- The reader's predicates: not, truth. The closures that append to a list of the query's: values of an IN, items, names, keys. Items, keys, literals, predicates without their kids: are two the same? -/
import Derived.Test.YtppigamibgefaaaGreatDoorZp22
import Derived.Laws.Tables
import Derived.Laws.Rows
import Derived.Test.YtppigamibgefaaaGreatDoorZp20
import Derived.Test.YtppigamibgefaaaGreatDoorZp08
namespace Go.Proofs.YtppigamibgefaaaGreatDoor
open Go.RowKit

theorem pred_size : (Tryz.prog.info? 31).map (·.size) = some 10 := by kernel_rfl
theorem Pm.c_size (x : Pm) : x.c.toArray.size = 10 := by simp [Pm.c_len]
theorem Pm.c_all (x : Pm) : x.c.toArray.all (·.oneCell') = true := all_oneCell_toArray x.c_one
/-- What a function that reads a predicate answers. -/
def PrGo (R b deep : Nat) (r : RS × Prd) (w : World) (e : Ending) (w' : World) : Prop := ∃ x : Pm, e = .returned x.v ∧ x.e = r.2 ∧ PmS (fun j => w.heap.size ≤ j) w' x ∧ RdGo R b deep r.1 w w'
theorem PmS.row {B g : Nat} {w w' : World} {x : Pm} (h : PmS (fun j => B ≤ j) w x) (hg : w.grownBy w' (some g)) (hlt : g < B) : PmS (fun j => B ≤ j) w' x :=
  h.keep ⟨hg.size, fun b hb hlt' => hg.block b hlt' (by simp; omega)⟩
theorem PmS.low {B B' : Nat} {w : World} {x : Pm} (h : PmS (fun j => B ≤ j) w x) (hb : B' ≤ B) : PmS (fun j => B' ≤ j) w x := h.mono (fun _ _ h => Nat.le_trans hb h)
theorem ten {cs : Array Value} (h : cs.size = 10) : #[cs[0], cs[1], cs[2], cs[3], cs[4], cs[5], cs[6], cs[7], cs[8], cs[9]] = cs := by
  apply Array.ext
  · simp [h]
  · intro i h1 h2
    have : i = 0 ∨ i = 1 ∨ i = 2 ∨ i = 3 ∨ i = 4 ∨ i = 5 ∨ i = 6 ∨ i = 7 ∨ i = 8 ∨ i = 9 := by omega
    rcases this with rfl | rfl | rfl | rfl | rfl | rfl | rfl | rfl | rfl | rfl <;> rfl
theorem flat_one (x : Pm) : [x].flatMap Pm.c = x.c := by simp
/-- One in a block of its own. -/
theorem one_cells {S : Nat → Prop} {w : World} {g : Nat} {x : Pm} {T : TypeId} (h : w.heap[g]? = some (.cells x.c.toArray T (0, 0))) (hS : S g) : CellsS S w (some ⟨g, 0, Option.none⟩) ([x].flatMap Pm.c) := by
  refine .inr ⟨g, 0, rfl, hS, (Array.getElem?_eq_some_iff.1 h).1, fun j u hj => ?_⟩
  rw [flat_one] at hj
  rw [Nat.zero_add, cell_of_row _ _ j _ _ _ h]
  simpa using hj
theorem results_pm {fn : Func} {p : Tmp} (h : fn.results = #[.cell p 31]) (tmps : Array Value) (w : World) (g : Nat) (y : Pm) (hp : tmps.getD p undef = .pointer (some ⟨g, 0, Option.none⟩)) (hg : w.heap[g]? = some (.cells y.c.toArray 31 (0, 0))) :
    (results fn tmps).run Tryz.prog w = .ok y.v w := results_cell_row h tmps w g _ _ _ _ hp hg Tryz.underlying31 rfl (by rw [Pm.c_size]; exact pred_size)
set_option maxRecDepth 100000 in
theorem pnot_any (B : Nat) (x : Pm) (pos : Nat) (w : World) (hx : PmS (fun j => B ≤ j) w x) (hB : B ≤ w.heap.size) :
    Calls Tryz.prog 178 #[x.v, .int .i64 pos] w fun e w' => (∃ y : Pm, e = .returned y.v ∧ y.e = notP x.e pos ∧ PmS (fun j => B ≤ j) w' y) ∧ w.grownBy w' none := by
  have HX := Lib.hid (And.intro hx hB)
  have h1 := x.c_size
  have h2 := x.c_all
  unfold Pm.v
  generalize hcs : x.c.toArray = cs at *
  have Hcs := Lib.hid hcs
  clear hcs hx hB
  go_enter Tryz.func178, Tryz.ntmps178
  go_wp2_with fail
  rw [ten h1]
  obtain ⟨y, hy⟩ : ∃ y : Pm, y = .mk 10 ⟨#[]⟩ 0 ⟨0, 0, ⟨#[]⟩⟩ ⟨#[]⟩ Option.none 0 [] (some ⟨w.heap.size + 1 + 1, 0, Option.none⟩) 1 [x] pos := ⟨_, rfl⟩
  have hyc : #[Value.int .i64 10, .string ⟨#[]⟩, .int .i64 0, .int .i64 0, .int .i64 0, .string ⟨#[]⟩, .string ⟨#[]⟩, .slice Option.none 0 0, .slice (some ⟨w.heap.size + 1 + 1, 0, Option.none⟩) 1 1, .int .i64 pos] = y.c.toArray := by rw [hy]; rfl
  rw [hyc]
  have g1 := World.grownBy_alloc w (.cells cs 31) none
  have g2 := g1.trans (World.grownBy_alloc _ (.cells y.c.toArray 31) none)
  have g3 := g2.trans (World.grownBy_alloc _ (.cells cs 31) none)
  have s1 : (w.alloc (.cells cs 31)).heap.size = w.heap.size + 1 := by simp
  have s2 : ((w.alloc (.cells cs 31)).alloc (.cells y.c.toArray 31)).heap.size = w.heap.size + 1 + 1 := by simp
  have b2 := heap_alloc_new (w.alloc (.cells cs 31)) (.cells y.c.toArray 31)
  have b3 := heap_alloc_new ((w.alloc (.cells cs 31)).alloc (.cells y.c.toArray 31)) (.cells cs 31)
  rw [s1] at b2
  rw [s2] at b3
  have b2' := blk_grown (World.grownBy_alloc _ (.cells cs 31) none) b2
  generalize ((w.alloc (.cells cs 31)).alloc (.cells y.c.toArray 31)).alloc (.cells cs 31) = wf at *
  refine bodyPost_ret (results_pm rfl _ _ (w.heap.size + 1) y rfl b2') rfl ⟨⟨y, rfl, by rw [hy]; rfl, ?_⟩, g3⟩
  rw [hy]
  refine ⟨RwS.nil _ _ _, Nat.le_refl _, one_cells (T := 31) (x := x) (by rw [Hcs.out]; exact b3) (by have := HX.out.2; omega), Nat.le_refl _, ?_, trivial⟩
  exact HX.out.1.keep (.of g3)
theorem grown_setRow (w : World) (g : Nat) (cs : Array Value) : w.grownBy (w.setRow g cs) (some g) := ⟨rfl, rfl, rfl, by simp, fun k _ hk => setRow_other w g k cs (fun e => hk (by rw [e]))⟩
/-- A predicate that isn't there yet. -/
def z10 : Array Value := #[.int .i64 0, .string ⟨#[]⟩, .int .i64 0, .int .i64 0, .int .i64 0, .string ⟨#[]⟩, .string ⟨#[]⟩, .slice Option.none 0 0, .slice Option.none 0 0, .int .i64 0]
theorem z10_size : z10.size = 10 := rfl
/-- What is answered: the result's block holds it. -/
theorem PrGo.ret {R b deep : Nat} {s0 : RS} {r : RS × Prd} {w W : World} {g : Nat} {old : Array Value} (h0 : RdA R b deep s0 w) (y : Pm) (hy : y.e = r.2) (hS : PmS (fun j => w.heap.size ≤ j ∧ j ≠ g) W y) (hR : RdGo R b deep r.1 w W) (hg : w.heap.size ≤ g) (hb : W.heap[g]? = some (.cells old 31 (0, 0))) :
    PrGo R b deep r w (.returned y.v) (W.setRow g y.c.toArray) ∧ (W.setRow g y.c.toArray).heap[g]? = some (.cells y.c.toArray 31 (0, 0)) :=
  ⟨⟨y, rfl, hy, (hS.keep ⟨by simp, fun b' hb' _ => setRow_other W g b' _ hb'.2⟩).mono (fun _ _ h => h.1), RdGo.stored h0 hR hg (grown_setRow W g _)⟩, setRow_heap W g old _ _ _ hb⟩
set_option maxRecDepth 100000 in
set_option maxHeartbeats 1600000 in
theorem ptruth_any (R b deep : Nat) (s : RS) (v : Vl) (pos : Nat) (w : World) (h : RdA R b deep s w) :
    Calls Tryz.prog 194 #[.pointer (some ⟨R, 0, none⟩), .agg #[.int .i64 v.k, .int .i64 v.n, .string v.s], .int .i64 pos] w (PrGo R b deep (truthP v pos s) w) := by
  have HW := Lib.hid (fun W (hW : w.grownBy W none) => wrong_any R b deep s 11 W (h.keep hW))
  have HS := Lib.hid h
  obtain ⟨k, n, t⟩ := v
  have hR := h.lt'
  have HT : Hid (∀ kd : Nat, kd = (if n = 1 then 1 else 2) → (Pm.mk kd ⟨#[]⟩ 0 ⟨0, 0, ⟨#[]⟩⟩ ⟨#[]⟩ Option.none 0 [] Option.none 0 [] pos).e = (truthP ⟨k, n, t⟩ pos s).2) := Lib.hid fun kd hk => by
    unfold truthP
    simp only [Pm.e, Pm.es, hk]
  have HT1 : Hid ((k = 1 → (truthP ⟨k, n, t⟩ pos s).1 = s) ∧ (¬ k = 1 → (truthP ⟨k, n, t⟩ pos s).1 = s.wrong 11)) := Lib.hid ⟨fun e => by simp [truthP, e], fun e => by simp [truthP, e]⟩
  generalize truthP ⟨k, n, t⟩ pos s = r at *
  have g1 := World.grownBy_alloc w (.cells #[.int .i64 k, .int .i64 n, .string t] 27) none
  have g2 := g1.trans (World.grownBy_alloc _ (.cells z10 31) none)
  have s1 : (w.alloc (.cells #[.int .i64 k, .int .i64 n, .string t] 27)).heap.size = w.heap.size + 1 := by simp
  have b1 := heap_alloc_new w (.cells #[.int .i64 k, .int .i64 n, .string t] 27)
  have b2 := heap_alloc_new (w.alloc (.cells #[.int .i64 k, .int .i64 n, .string t] 27)) (.cells z10 31)
  rw [s1] at b2
  have b1' := blk_grown (World.grownBy_alloc (w.alloc (.cells #[.int .i64 k, .int .i64 n, .string t] 27)) (.cells z10 31) none) b1
  have GG := Lib.hid (And.intro g2 (And.intro b2 b1'))
  clear h g1 g2 s1 b1 b2 b1'
  by_cases hk : k = 1
  · subst hk
    obtain ⟨hT1, _⟩ := HT1.out
    have HR := Lib.hid (hT1 rfl)
    clear hT1 HT1 HW
    by_cases hn : n = 1
    · have HE := Lib.hid (HT.out 1 (by rw [if_pos hn]))
      subst hn
      clear HT GG
      go_enter Tryz.func194, Tryz.ntmps194
      go_wp2_with fail
      have g3 := (World.grownBy_alloc w (.cells #[.int .i64 1, .int .i64 1, .string t] 27) none).trans (World.grownBy_alloc _ (.cells (Pm.mk 1 ⟨#[]⟩ 0 ⟨0, 0, ⟨#[]⟩⟩ ⟨#[]⟩ Option.none 0 [] Option.none 0 [] pos).c.toArray 31) none)
      exact bodyPost_ret (results_pm rfl _ _ (w.heap.size + 1) (.mk 1 ⟨#[]⟩ 0 ⟨0, 0, ⟨#[]⟩⟩ ⟨#[]⟩ Option.none 0 [] Option.none 0 [] pos) rfl (heap_alloc2_new w _ _)) rfl ⟨_, rfl, HE.out, PmS.leaf _ _ _ _ _ _ _ _ _ _ _ _, by rw [HR.out]; exact (RdGo.self HS.out).keep g3⟩
    · have HE := Lib.hid (HT.out 2 (by rw [if_neg hn]))
      have hn2 : (n == 1) = false := by rw [beq_eq_false_iff_ne]; exact hn
      clear HT GG
      go_enter Tryz.func194, Tryz.ntmps194
      go_wp2_with fail
      have g3 := (World.grownBy_alloc w (.cells #[.int .i64 1, .int .i64 n, .string t] 27) none).trans (World.grownBy_alloc _ (.cells (Pm.mk 2 ⟨#[]⟩ 0 ⟨0, 0, ⟨#[]⟩⟩ ⟨#[]⟩ Option.none 0 [] Option.none 0 [] pos).c.toArray 31) none)
      exact bodyPost_ret (results_pm rfl _ _ (w.heap.size + 1) (.mk 2 ⟨#[]⟩ 0 ⟨0, 0, ⟨#[]⟩⟩ ⟨#[]⟩ Option.none 0 [] Option.none 0 [] pos) rfl (heap_alloc2_new w _ _)) rfl ⟨_, rfl, HE.out, PmS.leaf _ _ _ _ _ _ _ _ _ _ _ _, by rw [HR.out]; exact (RdGo.self HS.out).keep g3⟩
  · obtain ⟨_, hT2⟩ := HT1.out
    have HR := Lib.hid (hT2 hk)
    have hk2 : (k != 1) = true := by simp [hk]
    clear hT2 HT1
    by_cases hn : n = 1
    · have HE := Lib.hid (HT.out 1 (by rw [if_pos hn]))
      subst hn
      clear HT
      go_enter Tryz.func194, Tryz.ntmps194
      go_wp2_with fail
      refine (HW.out _ (by exact GG.out.1)).mono ?_
      rintro e w2 ⟨rfl, hr⟩
      have A2 := hr.blk GG.out.2.1 (by omega)
      have B2 := hr.blk GG.out.2.2 (by omega)
      have R2 := Lib.hid (show RdGo R b deep r.1 w w2 from by rw [HR.out]; exact ⟨hr.1, GG.out.1.trans' hr.2⟩)
      obtain ⟨⟨d0, d1, d2⟩, _, _, _⟩ := three_of B2
      have HA2 := Lib.hid A2
      clear hr A2 B2
      go_wp2_with (refine wpList_store_row rfl 31 (.tmp 6) (.tmp 18) rfl (w.heap.size + 1) (Pm.mk 1 ⟨#[]⟩ 0 ⟨0, 0, ⟨#[]⟩⟩ ⟨#[]⟩ Option.none 0 [] Option.none 0 [] pos).c.toArray rfl rfl 31 z10 HA2.out (by rw [Pm.c_size]; exact pred_size) (by rw [Pm.c_size]; rfl) (Pm.c_all _) ?_)
      obtain ⟨hp, hb⟩ := PrGo.ret HS.out (.mk 1 ⟨#[]⟩ 0 ⟨0, 0, ⟨#[]⟩⟩ ⟨#[]⟩ Option.none 0 [] Option.none 0 [] pos) HE.out (PmS.leaf _ _ _ _ _ _ _ _ _ _ _ _) R2.out (Nat.le_succ w.heap.size) HA2.out
      exact bodyPost_ret (results_pm rfl _ _ (w.heap.size + 1) _ rfl hb) rfl hp
    · have HE := Lib.hid (HT.out 2 (by rw [if_neg hn]))
      have hn2 : (n == 1) = false := by rw [beq_eq_false_iff_ne]; exact hn
      clear HT
      go_enter Tryz.func194, Tryz.ntmps194
      go_wp2_with fail
      refine (HW.out _ (by exact GG.out.1)).mono ?_
      rintro e w2 ⟨rfl, hr⟩
      have A2 := hr.blk GG.out.2.1 (by omega)
      have B2 := hr.blk GG.out.2.2 (by omega)
      have R2 := Lib.hid (show RdGo R b deep r.1 w w2 from by rw [HR.out]; exact ⟨hr.1, GG.out.1.trans' hr.2⟩)
      obtain ⟨⟨d0, d1, d2⟩, _, _, _⟩ := three_of B2
      have HA2 := Lib.hid A2
      clear hr A2 B2
      go_wp2_with (refine wpList_store_row rfl 31 (.tmp 6) (.tmp 18) rfl (w.heap.size + 1) (Pm.mk 2 ⟨#[]⟩ 0 ⟨0, 0, ⟨#[]⟩⟩ ⟨#[]⟩ Option.none 0 [] Option.none 0 [] pos).c.toArray rfl rfl 31 z10 HA2.out (by rw [Pm.c_size]; exact pred_size) (by rw [Pm.c_size]; rfl) (Pm.c_all _) ?_)
      obtain ⟨hp, hb⟩ := PrGo.ret HS.out (.mk 2 ⟨#[]⟩ 0 ⟨0, 0, ⟨#[]⟩⟩ ⟨#[]⟩ Option.none 0 [] Option.none 0 [] pos) HE.out (PmS.leaf _ _ _ _ _ _ _ _ _ _ _ _) R2.out (Nat.le_succ w.heap.size) HA2.out
      exact bodyPost_ret (results_pm rfl _ _ (w.heap.size + 1) _ rfl hb) rfl hp
end Go.Proofs.YtppigamibgefaaaGreatDoor
namespace Go.Proofs.YtppigamibgefaaaGreatDoor
open Go.RowKit

theorem RdA.only {R b deep : Nat} {s : RS} {w w' : World} {M : Nat → Prop} (h : RdA R b deep s w) (ho : Only M w w') (h1 : ¬ M R) (h2 : ¬ M b) (h3 : ¬ M 12) : RdA R b deep s w' := by
  have hlt := h.lt'
  obtain ⟨⟨o, k, hB, q1, q2, q3⟩, ok, few, lt, ne, ⟨tp, p, far⟩, gR, sz⟩ := h
  exact ⟨⟨o, k, (ho.block R hlt h1).trans hB, q1, q2, fun j u hj => ho.cell (q3 j u hj) h2⟩, ok, few, Nat.lt_of_lt_of_le lt ho.size, ne, ⟨tp, p, ho.cell far h3⟩, gR, sz⟩
/-- A list in a cell of block pb, that grows; block rb holds the reader's address. -/
structure LsJ (sz : Nat) (w0 : World) (pb ix rb R : Nat) (cs : Array Value) (Tp : TypeId) (W : World) (n : Nat) (xs : List Value) : Prop where
  blk : ∃ a cap, W.heap[pb]? = some (.cells (cs.setIfInBounds ix (.slice a n cap)) Tp (0, 0)) ∧ Win sz W a cap n xs ∧ ∀ k, bk a k → w0.heap.size ≤ k
  rblk : W.heap[rb]? = some (.cells #[.pointer (some ⟨R, 0, none⟩)] 167 (0, 0))
  only : Only (fun j => j = R ∨ j = pb) w0 W
theorem LsJ.row {sz : Nat} {w0 : World} {pb ix rb R : Nat} {cs : Array Value} {Tp : TypeId} {W W' : World} {n : Nat} {xs : List Value} (h : LsJ sz w0 pb ix rb R cs Tp W n xs) (hg : W.grownBy W' (some R)) (h1 : R ≠ pb) (h2 : R ≠ rb) (h3 : R < w0.heap.size) : LsJ sz w0 pb ix rb R cs Tp W' n xs := by
  obtain ⟨a, cap, hb, hw, hk⟩ := h.blk
  refine ⟨⟨a, cap, (hg.block pb (Array.getElem?_eq_some_iff.1 hb).1 (by simp; omega)).trans hb, hw.keep (.of_grown hg) (fun k hk' e => by cases e; have := hk R hk'; omega), hk⟩, (hg.block rb (Array.getElem?_eq_some_iff.1 h.rblk).1 (by simp; omega)).trans h.rblk, h.only.grown hg (fun j hj => by cases hj; exact .inl (.inl rfl))⟩
theorem val_el : ElT 28 27 (.agg #[.int .i64 0, .int .i64 0, .string ⟨#[]⟩]) 3 32 := ⟨Tryz.underlying28, info_partsT val_infoT, by decide, by decide, by decide⟩
theorem itm_infoT : (Tryz.prog.info? 81).map (fun i => (i.zero, i.size, i.bytes)) = some (some (.agg #[.int .i64 0, .string ⟨#[]⟩, .int .i64 0]), 3, 32) := by kernel_rfl
theorem itm_el : ElT 23 81 (.agg #[.int .i64 0, .string ⟨#[]⟩, .int .i64 0]) 3 32 := ⟨Tryz.underlying23, info_partsT itm_infoT, by decide, by decide, by decide⟩
theorem key_infoT : (Tryz.prog.info? 94).map (fun i => (i.zero, i.size, i.bytes)) = some (some (.agg #[.int .i64 0, .string ⟨#[]⟩, .int .i64 0, .bool false]), 4, 40) := by kernel_rfl
theorem key_el : ElT 32 94 (.agg #[.int .i64 0, .string ⟨#[]⟩, .int .i64 0, .bool false]) 4 40 := ⟨Tryz.underlying32, info_partsT key_infoT, by decide, by decide, by decide⟩
theorem set_set (cs : Array Value) (i : Nat) (u v : Value) : (cs.setIfInBounds i u).setIfInBounds i v = cs.setIfInBounds i v := Array.setIfInBounds_setIfInBounds ..
/-- One has been appended, and the list is stored. -/
theorem LsJ.put {sz : Nat} {w0 : World} {pb ix rb R b deep : Nat} {cs : Array Value} {Tp : TypeId} {W w2 w3 w4 : World} {n : Nat} {xs news : List Value} {a a' : Ptr} {cap cap' : Nat} {s1 : RS}
    (hj : W.heap[rb]? = some (.cells #[.pointer (some ⟨R, 0, none⟩)] 167 (0, 0)) ∧ Only (fun j => j = R ∨ j = pb) w0 W ∧ W.heap[pb]? = some (.cells (cs.setIfInBounds ix (.slice a n cap)) Tp (0, 0)) ∧ ∀ k, bk a k → w0.heap.size ≤ k)
    (nn : R < w0.heap.size ∧ b < pb ∧ 12 < pb ∧ pb < w0.heap.size ∧ rb < w0.heap.size ∧ R ≠ pb ∧ R ≠ rb ∧ pb ≠ rb) (h2 : RdGo R b deep s1 W.drew w2) (h3 : w2.grownBy w3 none)
    (e4 : Win sz w4 a' cap' (n + 1) (xs ++ news) ∧ Only (bk a) w3 w4 ∧ (∀ k, bk a' k → bk a k ∨ w3.heap.size ≤ k) ∧ w4.heap[pb]? = some (.cells (cs.setIfInBounds ix (.slice a n cap)) Tp (0, 0)) ∧ w4.heap[rb]? = some (.cells #[.pointer (some ⟨R, 0, none⟩)] 167 (0, 0))) :
    RdA R b deep s1 (w4.setCell ⟨pb, ix, none⟩ (.slice a' (n + 1) cap')) ∧ LsJ sz w0 pb ix rb R cs Tp (w4.setCell ⟨pb, ix, none⟩ (.slice a' (n + 1) cap')) (n + 1) (xs ++ news) := by
  obtain ⟨hr, ho, hB, hk⟩ := hj
  obtain ⟨n0, n1, n2, n3, n4, n5, n6, n7⟩ := nn
  obtain ⟨k4, o4, b4, p4, r4⟩ := e4
  have hs : Only (fun k => k = pb) w4 (w4.setCell ⟨pb, ix, none⟩ (.slice a' (n + 1) cap')) := (Only.refl (fun k => k = pb) w4).set (.inl rfl) _ _
  have z1 := ho.size
  have z2 : W.heap.size ≤ w2.heap.size := h2.2.size
  have z3 := h3.size
  have hba : ∀ k, bk a' k → w0.heap.size ≤ k := fun k hk' => by
    rcases b4 k hk' with e | e
    · exact hk k e
    · omega
  refine ⟨((h2.1.keep h3).only o4 (fun e => by have := hk _ e; omega) (fun e => by have := hk _ e; omega) (fun e => by have := hk _ e; omega)).only hs (fun e => n5 e) (fun e => by omega) (fun e => by omega), ⟨a', cap', ?_, k4.keep hs (fun k hk' e => by have := hba k hk'; omega), hba⟩, ?_, ?_⟩
  · rw [heap_setCell_same _ _ _ _ _ _ p4, set_set]
  · rw [heap_setCell_other _ _ _ _ (by simpa using n7.symm)]; exact r4
  · have o1 : Only (fun j => j = R ∨ j = pb) w0 w2 := (ho.drew).grown h2.2 (fun j hj => by cases hj; exact .inl (.inl rfl))
    have o2 := o1.grown h3 (fun j hj => by cases hj)
    exact (o2.trans o4 (fun k hk' => .inr (hk k hk'))).trans hs (fun k e => .inl (.inr e))
set_option maxRecDepth 100000 in
set_option maxHeartbeats 3200000 in
theorem pval1_any (R b deep pb rb : Nat) (st : RS) (cs : Array Value) (Tp : TypeId) (w0 W : World) (acc : List Vl) (h : RdA R b deep st W) (hj : LsJ 3 w0 pb 7 rb R cs Tp W acc.length (acc.flatMap vCT)) (hix : 7 < cs.size) (hl : acc.length ≤ 1000) (hR : R < w0.heap.size) (hb : b < pb) (hE : 12 < pb) (hpb : pb < w0.heap.size) (hrb : rb < w0.heap.size) (n1 : R ≠ pb) (n2 : R ≠ rb) (n3 : pb ≠ rb) :
    Calls Tryz.prog 205 #[.pointer (some ⟨pb, 0, none⟩), .pointer (some ⟨rb, 0, none⟩)] W fun e w' => e = .returned (.tuple #[]) ∧ RdA R b deep (RS.literal st).1 w' ∧ LsJ 3 w0 pb 7 rb R cs Tp w' (acc ++ [(RS.literal st).2]).length ((acc ++ [(RS.literal st).2]).flatMap vCT) := by
  have HL := Lib.hid (fun W2 (hW : W.grownBy W2 none) => plit_any R b deep st W2 (h.keep hW))
  obtain ⟨a, cap, hB, hw, hk⟩ := hj.blk
  have HJ := Lib.hid (And.intro hj.rblk (And.intro hj.only (And.intro hB (And.intro hk h))))
  have HWn := Lib.hid hw
  have NN := Lib.hid (And.intro hR (And.intro hb (And.intro hE (And.intro hpb (And.intro hrb (And.intro n1 (And.intro n2 n3)))))))
  have HL1 := Lib.hid hl
  have c0 : W.cell? ⟨pb, 7, none⟩ = some (.slice a acc.length cap) := by rw [cell_of_row _ _ 7 _ _ _ hB]; simp [hix]
  have f0 : W.frozen? ⟨pb, 7, none⟩ = false := frozen_of_row _ _ _ _ _ hB
  have r0 : W.cell? ⟨rb, 0, none⟩ = some (.pointer (some ⟨R, 0, none⟩)) := by rw [cell_of_row _ _ 0 _ _ _ hj.rblk]; simp
  obtain ⟨y, hy⟩ : ∃ y, y = RS.literal st := ⟨_, rfl⟩
  rw [← hy] at HL ⊢
  obtain ⟨s1, vk, vn, vs⟩ := y
  simp only [vCT] at HL
  simp only
  generalize hacc : acc.flatMap vCT = xs at *
  have Hacc := Lib.hid hacc
  generalize hal : acc.length = n at *
  have Hal := Lib.hid hal
  have hlt1 := (Array.getElem?_eq_some_iff.1 hB).1
  have hlt2 := (Array.getElem?_eq_some_iff.1 hj.rblk).1
  clear h hj hB hw hk hy hacc hal hl hR hb hE hpb hrb
  go_enter Tryz.func205, Tryz.ntmps205
  go_wp2_with fail
  go_region_law (first
    | (go_simp; go_at_call 193; (with_reducible refine (HL.out _ (grown_drewT (grown_reflT W none))).mono ?_); rintro e w2 ⟨rfl, hr⟩; have c2 := hr.2.cell (show W.drew.cell? ⟨pb, 7, none⟩ = some (.slice a n cap) from c0) (by simp; exact fun e => n1 e.symm); have l2 : pb < w2.heap.size := Nat.lt_of_lt_of_le hlt1 hr.2.size; have R2 := Lib.hid hr; clear hr)
    | (refine step_append_win (by rfl) (.tmp 3) (.tmp 6) val_el (by rfl) ((HWn.out.keepG (grown_drewT (grown_reflT W none))).keep ((Only.of_grown R2.out.2).grown (World.grownBy_alloc w2 _ none) (fun j hj => by cases hj)) (fun k hk' e => by cases e; have := HJ.out.2.2.2.1 R hk'; have := NN.out.1; omega)) (Nat.le_trans HL1.out (by decide)) (by rfl) ⟨w2.heap.size, 0, none⟩ 1 (by rfl) [.int .i64 vk, .int .i64 vn, .string vs] rfl (World.news_of_block (heap_alloc_new w2 _)) (by intro u hu; simp only [List.mem_cons, List.not_mem_nil, or_false] at hu; rcases hu with rfl | rfl | rfl <;> rfl) ?_
       intro a' cap' w4 hk4 ho4 hb4
       have G3 := Lib.hid (World.grownBy_alloc w2 (.cells #[.int .i64 vk, .int .i64 vn, .string vs] 27) none)
       have hpn : ¬ bk a pb := fun e => by have := HJ.out.2.2.2.1 pb e; have := NN.out.2.2.2.1; omega
       have hrn : ¬ bk a rb := fun e => by have := HJ.out.2.2.2.1 rb e; have := NN.out.2.2.2.2.1; omega
       have hRn : ¬ bk a R := fun e => by have := HJ.out.2.2.2.1 R e; have := NN.out.1; omega
       have hp2 : w2.heap[pb]? = some (.cells (cs.setIfInBounds 7 (.slice a n cap)) Tp (0, 0)) := (R2.out.2.block pb hlt1 (by simp; exact fun e => n1 e.symm)).trans HJ.out.2.2.1
       have hr2 : w2.heap[rb]? = some (.cells #[.pointer (some ⟨R, 0, none⟩)] 167 (0, 0)) := (R2.out.2.block rb hlt2 (by simp; exact fun e => n2 e.symm)).trans HJ.out.1
       have hp4 := (ho4.block pb (by have := (Array.getElem?_eq_some_iff.1 hp2).1; simp; omega) hpn).trans (blk_grown G3.out hp2)
       have hr4 := (ho4.block rb (by have := (Array.getElem?_eq_some_iff.1 hr2).1; simp; omega) hrn).trans (blk_grown G3.out hr2)
       have y4 : w4.cell? ⟨pb, 7, none⟩ = some (.slice a n cap) := by rw [cell_of_row _ _ 7 _ _ _ hp4]; simp [hix]
       have z4 : w4.frozen? ⟨pb, 7, none⟩ = false := frozen_of_row _ _ _ _ _ hp4
       have E4 := Lib.hid (And.intro hk4 (And.intro ho4 (And.intro hb4 (And.intro hp4 hr4))))
       clear hk4 ho4 hb4 hp4 hr4 hp2 hr2)
    | fail)
  all_goals
    go_wp2_with fail
    go_end0
    have hput := LsJ.put (sz := 3) (xs := xs) (news := [.int .i64 vk, .int .i64 vn, .string vs]) ⟨HJ.out.1, HJ.out.2.1, HJ.out.2.2.1, HJ.out.2.2.2.1⟩ NN.out R2.out G3.out E4.out
    refine ⟨rfl, hput.1, ?_⟩
    have h5 := hput.2
    rw [List.length_append, List.flatMap_append, Hacc.out, Hal.out]
    exact h5
set_option maxRecDepth 100000 in
set_option maxHeartbeats 3200000 in
theorem pitem1_any (R b deep pb rb : Nat) (st : RS) (cs : Array Value) (Tp : TypeId) (w0 W : World) (acc : List Itm) (h : RdA R b deep st W) (hj : LsJ 3 w0 pb 0 rb R cs Tp W acc.length (acc.flatMap Itm.c)) (hix : 0 < cs.size) (hl : acc.length ≤ 1000) (hR : R < w0.heap.size) (hb : b < pb) (hE : 12 < pb) (hpb : pb < w0.heap.size) (hrb : rb < w0.heap.size) (n1 : R ≠ pb) (n2 : R ≠ rb) (n3 : pb ≠ rb) :
    Calls Tryz.prog 85 #[.pointer (some ⟨pb, 0, none⟩), .pointer (some ⟨rb, 0, none⟩)] W fun e w' => e = .returned (.tuple #[]) ∧ RdA R b deep (itemL st).1 w' ∧ LsJ 3 w0 pb 0 rb R cs Tp w' (acc ++ [(itemL st).2]).length ((acc ++ [(itemL st).2]).flatMap Itm.c) := by
  have HL := Lib.hid (fun W2 (hW : W.grownBy W2 none) => pitem_any R b deep st W2 (h.keep hW))
  obtain ⟨a, cap, hB, hw, hk⟩ := hj.blk
  have HJ := Lib.hid (And.intro hj.rblk (And.intro hj.only (And.intro hB (And.intro hk h))))
  have HWn := Lib.hid hw
  have NN := Lib.hid (And.intro hR (And.intro hb (And.intro hE (And.intro hpb (And.intro hrb (And.intro n1 (And.intro n2 n3)))))))
  have HL1 := Lib.hid hl
  have c0 : W.cell? ⟨pb, 0, none⟩ = some (.slice a acc.length cap) := by rw [cell_of_row _ _ 0 _ _ _ hB]; simp [hix]
  have f0 : W.frozen? ⟨pb, 0, none⟩ = false := frozen_of_row _ _ _ _ _ hB
  have r0 : W.cell? ⟨rb, 0, none⟩ = some (.pointer (some ⟨R, 0, none⟩)) := by rw [cell_of_row _ _ 0 _ _ _ hj.rblk]; simp
  obtain ⟨y, hy⟩ : ∃ y, y = itemL st := ⟨_, rfl⟩
  rw [← hy] at HL ⊢
  obtain ⟨s1, ag, co, po⟩ := y
  simp only [Itm.c] at HL
  simp only
  generalize hacc : acc.flatMap Itm.c = xs at *
  have Hacc := Lib.hid hacc
  generalize hal : acc.length = n at *
  have Hal := Lib.hid hal
  have hlt1 := (Array.getElem?_eq_some_iff.1 hB).1
  have hlt2 := (Array.getElem?_eq_some_iff.1 hj.rblk).1
  clear h hj hB hw hk hy hacc hal hl hR hb hE hpb hrb
  go_enter Tryz.func85, Tryz.ntmps85
  go_wp2_with fail
  go_region_law (first
    | (go_simp; go_at_call 86; (with_reducible refine (HL.out _ (grown_drewT (grown_reflT W none))).mono ?_); rintro e w2 ⟨rfl, hr⟩; have c2 := hr.2.cell (show W.drew.cell? ⟨pb, 0, none⟩ = some (.slice a n cap) from c0) (by simp; exact fun e => n1 e.symm); have l2 : pb < w2.heap.size := Nat.lt_of_lt_of_le hlt1 hr.2.size; have R2 := Lib.hid hr; clear hr)
    | (refine step_append_win (by rfl) (.tmp 3) (.tmp 6) itm_el (by rfl) ((HWn.out.keepG (grown_drewT (grown_reflT W none))).keep ((Only.of_grown R2.out.2).grown (World.grownBy_alloc w2 _ none) (fun j hj => by cases hj)) (fun k hk' e => by cases e; have := HJ.out.2.2.2.1 R hk'; have := NN.out.1; omega)) (Nat.le_trans HL1.out (by decide)) (by rfl) ⟨w2.heap.size, 0, none⟩ 1 (by rfl) [.int .i64 ag, .string co, .int .i64 po] rfl (World.news_of_block (heap_alloc_new w2 _)) (by intro u hu; simp only [List.mem_cons, List.not_mem_nil, or_false] at hu; rcases hu with rfl | rfl | rfl <;> rfl) ?_
       intro a' cap' w4 hk4 ho4 hb4
       have G3 := Lib.hid (World.grownBy_alloc w2 (.cells #[.int .i64 ag, .string co, .int .i64 po] 81) none)
       have hpn : ¬ bk a pb := fun e => by have := HJ.out.2.2.2.1 pb e; have := NN.out.2.2.2.1; omega
       have hrn : ¬ bk a rb := fun e => by have := HJ.out.2.2.2.1 rb e; have := NN.out.2.2.2.2.1; omega
       have hRn : ¬ bk a R := fun e => by have := HJ.out.2.2.2.1 R e; have := NN.out.1; omega
       have hp2 : w2.heap[pb]? = some (.cells (cs.setIfInBounds 0 (.slice a n cap)) Tp (0, 0)) := (R2.out.2.block pb hlt1 (by simp; exact fun e => n1 e.symm)).trans HJ.out.2.2.1
       have hr2 : w2.heap[rb]? = some (.cells #[.pointer (some ⟨R, 0, none⟩)] 167 (0, 0)) := (R2.out.2.block rb hlt2 (by simp; exact fun e => n2 e.symm)).trans HJ.out.1
       have hp4 := (ho4.block pb (by have := (Array.getElem?_eq_some_iff.1 hp2).1; simp; omega) hpn).trans (blk_grown G3.out hp2)
       have hr4 := (ho4.block rb (by have := (Array.getElem?_eq_some_iff.1 hr2).1; simp; omega) hrn).trans (blk_grown G3.out hr2)
       have y4 : w4.cell? ⟨pb, 0, none⟩ = some (.slice a n cap) := by rw [cell_of_row _ _ 0 _ _ _ hp4]; simp [hix]
       have z4 : w4.frozen? ⟨pb, 0, none⟩ = false := frozen_of_row _ _ _ _ _ hp4
       have E4 := Lib.hid (And.intro hk4 (And.intro ho4 (And.intro hb4 (And.intro hp4 hr4))))
       clear hk4 ho4 hb4 hp4 hr4 hp2 hr2)
    | fail)
  all_goals
    go_wp2_with fail
    go_end0
    have hput := LsJ.put (sz := 3) (xs := xs) (news := [.int .i64 ag, .string co, .int .i64 po]) ⟨HJ.out.1, HJ.out.2.1, HJ.out.2.2.1, HJ.out.2.2.2.1⟩ NN.out R2.out G3.out E4.out
    refine ⟨rfl, hput.1, ?_⟩
    have h5 := hput.2
    rw [List.length_append, List.flatMap_append, Hacc.out, Hal.out]
    exact h5
set_option maxRecDepth 100000 in
set_option maxHeartbeats 3200000 in
theorem pname1_any (R b deep pb rb : Nat) (st : RS) (cs : Array Value) (Tp : TypeId) (w0 W : World) (acc : List Itm) (h : RdA R b deep st W) (hj : LsJ 3 w0 pb 13 rb R cs Tp W acc.length (acc.flatMap Itm.c)) (hix : 13 < cs.size) (hl : acc.length ≤ 1000) (hR : R < w0.heap.size) (hb : b < pb) (hE : 12 < pb) (hpb : pb < w0.heap.size) (hrb : rb < w0.heap.size) (n1 : R ≠ pb) (n2 : R ≠ rb) (n3 : pb ≠ rb) :
    Calls Tryz.prog 89 #[.pointer (some ⟨pb, 0, none⟩), .pointer (some ⟨rb, 0, none⟩)] W fun e w' => e = .returned (.tuple #[]) ∧ RdA R b deep (columnL st).1 w' ∧ LsJ 3 w0 pb 13 rb R cs Tp w' (acc ++ [(columnL st).2]).length ((acc ++ [(columnL st).2]).flatMap Itm.c) := by
  have HL := Lib.hid (fun W2 (hW : W.grownBy W2 none) => pcolumn_any R b deep st W2 (h.keep hW))
  obtain ⟨a, cap, hB, hw, hk⟩ := hj.blk
  have HJ := Lib.hid (And.intro hj.rblk (And.intro hj.only (And.intro hB (And.intro hk h))))
  have HWn := Lib.hid hw
  have NN := Lib.hid (And.intro hR (And.intro hb (And.intro hE (And.intro hpb (And.intro hrb (And.intro n1 (And.intro n2 n3)))))))
  have HL1 := Lib.hid hl
  have c0 : W.cell? ⟨pb, 13, none⟩ = some (.slice a acc.length cap) := by rw [cell_of_row _ _ 13 _ _ _ hB]; simp [hix]
  have f0 : W.frozen? ⟨pb, 13, none⟩ = false := frozen_of_row _ _ _ _ _ hB
  have r0 : W.cell? ⟨rb, 0, none⟩ = some (.pointer (some ⟨R, 0, none⟩)) := by rw [cell_of_row _ _ 0 _ _ _ hj.rblk]; simp
  obtain ⟨y, hy⟩ : ∃ y, y = columnL st := ⟨_, rfl⟩
  rw [← hy] at HL ⊢
  obtain ⟨s1, ag, co, po⟩ := y
  simp only [Itm.c] at HL
  simp only
  generalize hacc : acc.flatMap Itm.c = xs at *
  have Hacc := Lib.hid hacc
  generalize hal : acc.length = n at *
  have Hal := Lib.hid hal
  have hlt1 := (Array.getElem?_eq_some_iff.1 hB).1
  have hlt2 := (Array.getElem?_eq_some_iff.1 hj.rblk).1
  clear h hj hB hw hk hy hacc hal hl hR hb hE hpb hrb
  go_enter Tryz.func89, Tryz.ntmps89
  go_wp2_with fail
  go_region_law (first
    | (go_simp; go_at_call 90; (with_reducible refine (HL.out _ (grown_drewT (grown_reflT W none))).mono ?_); rintro e w2 ⟨rfl, hr⟩; have c2 := hr.2.cell (show W.drew.cell? ⟨pb, 13, none⟩ = some (.slice a n cap) from c0) (by simp; exact fun e => n1 e.symm); have l2 : pb < w2.heap.size := Nat.lt_of_lt_of_le hlt1 hr.2.size; have R2 := Lib.hid hr; clear hr)
    | (refine step_append_win (by rfl) (.tmp 3) (.tmp 6) itm_el (by rfl) ((HWn.out.keepG (grown_drewT (grown_reflT W none))).keep ((Only.of_grown R2.out.2).grown (World.grownBy_alloc w2 _ none) (fun j hj => by cases hj)) (fun k hk' e => by cases e; have := HJ.out.2.2.2.1 R hk'; have := NN.out.1; omega)) (Nat.le_trans HL1.out (by decide)) (by rfl) ⟨w2.heap.size, 0, none⟩ 1 (by rfl) [.int .i64 ag, .string co, .int .i64 po] rfl (World.news_of_block (heap_alloc_new w2 _)) (by intro u hu; simp only [List.mem_cons, List.not_mem_nil, or_false] at hu; rcases hu with rfl | rfl | rfl <;> rfl) ?_
       intro a' cap' w4 hk4 ho4 hb4
       have G3 := Lib.hid (World.grownBy_alloc w2 (.cells #[.int .i64 ag, .string co, .int .i64 po] 81) none)
       have hpn : ¬ bk a pb := fun e => by have := HJ.out.2.2.2.1 pb e; have := NN.out.2.2.2.1; omega
       have hrn : ¬ bk a rb := fun e => by have := HJ.out.2.2.2.1 rb e; have := NN.out.2.2.2.2.1; omega
       have hRn : ¬ bk a R := fun e => by have := HJ.out.2.2.2.1 R e; have := NN.out.1; omega
       have hp2 : w2.heap[pb]? = some (.cells (cs.setIfInBounds 13 (.slice a n cap)) Tp (0, 0)) := (R2.out.2.block pb hlt1 (by simp; exact fun e => n1 e.symm)).trans HJ.out.2.2.1
       have hr2 : w2.heap[rb]? = some (.cells #[.pointer (some ⟨R, 0, none⟩)] 167 (0, 0)) := (R2.out.2.block rb hlt2 (by simp; exact fun e => n2 e.symm)).trans HJ.out.1
       have hp4 := (ho4.block pb (by have := (Array.getElem?_eq_some_iff.1 hp2).1; simp; omega) hpn).trans (blk_grown G3.out hp2)
       have hr4 := (ho4.block rb (by have := (Array.getElem?_eq_some_iff.1 hr2).1; simp; omega) hrn).trans (blk_grown G3.out hr2)
       have y4 : w4.cell? ⟨pb, 13, none⟩ = some (.slice a n cap) := by rw [cell_of_row _ _ 13 _ _ _ hp4]; simp [hix]
       have z4 : w4.frozen? ⟨pb, 13, none⟩ = false := frozen_of_row _ _ _ _ _ hp4
       have E4 := Lib.hid (And.intro hk4 (And.intro ho4 (And.intro hb4 (And.intro hp4 hr4))))
       clear hk4 ho4 hb4 hp4 hr4 hp2 hr2)
    | fail)
  all_goals
    go_wp2_with fail
    go_end0
    have hput := LsJ.put (sz := 3) (xs := xs) (news := [.int .i64 ag, .string co, .int .i64 po]) ⟨HJ.out.1, HJ.out.2.1, HJ.out.2.2.1, HJ.out.2.2.2.1⟩ NN.out R2.out G3.out E4.out
    refine ⟨rfl, hput.1, ?_⟩
    have h5 := hput.2
    rw [List.length_append, List.flatMap_append, Hacc.out, Hal.out]
    exact h5
set_option maxRecDepth 100000 in
set_option maxHeartbeats 3200000 in
theorem pkey1_any (R b deep pb rb : Nat) (st : RS) (cs : Array Value) (Tp : TypeId) (w0 W : World) (acc : List Kyo) (h : RdA R b deep st W) (hj : LsJ 4 w0 pb 14 rb R cs Tp W acc.length (acc.flatMap Kyo.c)) (hix : 14 < cs.size) (hl : acc.length ≤ 1000) (hR : R < w0.heap.size) (hb : b < pb) (hE : 12 < pb) (hpb : pb < w0.heap.size) (hrb : rb < w0.heap.size) (n1 : R ≠ pb) (n2 : R ≠ rb) (n3 : pb ≠ rb) :
    Calls Tryz.prog 91 #[.pointer (some ⟨pb, 0, none⟩), .pointer (some ⟨rb, 0, none⟩)] W fun e w' => e = .returned (.tuple #[]) ∧ RdA R b deep (keyL st).1 w' ∧ LsJ 4 w0 pb 14 rb R cs Tp w' (acc ++ [(keyL st).2]).length ((acc ++ [(keyL st).2]).flatMap Kyo.c) := by
  have HL := Lib.hid (fun W2 (hW : W.grownBy W2 none) => pkey_any R b deep st W2 (h.keep hW))
  obtain ⟨a, cap, hB, hw, hk⟩ := hj.blk
  have HJ := Lib.hid (And.intro hj.rblk (And.intro hj.only (And.intro hB (And.intro hk h))))
  have HWn := Lib.hid hw
  have NN := Lib.hid (And.intro hR (And.intro hb (And.intro hE (And.intro hpb (And.intro hrb (And.intro n1 (And.intro n2 n3)))))))
  have HL1 := Lib.hid hl
  have c0 : W.cell? ⟨pb, 14, none⟩ = some (.slice a acc.length cap) := by rw [cell_of_row _ _ 14 _ _ _ hB]; simp [hix]
  have f0 : W.frozen? ⟨pb, 14, none⟩ = false := frozen_of_row _ _ _ _ _ hB
  have r0 : W.cell? ⟨rb, 0, none⟩ = some (.pointer (some ⟨R, 0, none⟩)) := by rw [cell_of_row _ _ 0 _ _ _ hj.rblk]; simp
  obtain ⟨y, hy⟩ : ∃ y, y = keyL st := ⟨_, rfl⟩
  rw [← hy] at HL ⊢
  obtain ⟨s1, ⟨ag, co, po⟩, ds⟩ := y
  simp only [Kyo.c] at HL
  simp only
  generalize hacc : acc.flatMap Kyo.c = xs at *
  have Hacc := Lib.hid hacc
  generalize hal : acc.length = n at *
  have Hal := Lib.hid hal
  have hlt1 := (Array.getElem?_eq_some_iff.1 hB).1
  have hlt2 := (Array.getElem?_eq_some_iff.1 hj.rblk).1
  clear h hj hB hw hk hy hacc hal hl hR hb hE hpb hrb
  go_enter Tryz.func91, Tryz.ntmps91
  go_wp2_with fail
  go_region_law (first
    | (go_simp; go_at_call 92; (with_reducible refine (HL.out _ (grown_drewT (grown_reflT W none))).mono ?_); rintro e w2 ⟨rfl, hr⟩; have c2 := hr.2.cell (show W.drew.cell? ⟨pb, 14, none⟩ = some (.slice a n cap) from c0) (by simp; exact fun e => n1 e.symm); have l2 : pb < w2.heap.size := Nat.lt_of_lt_of_le hlt1 hr.2.size; have R2 := Lib.hid hr; clear hr)
    | (refine step_append_win (by rfl) (.tmp 3) (.tmp 6) key_el (by rfl) ((HWn.out.keepG (grown_drewT (grown_reflT W none))).keep ((Only.of_grown R2.out.2).grown (World.grownBy_alloc w2 _ none) (fun j hj => by cases hj)) (fun k hk' e => by cases e; have := HJ.out.2.2.2.1 R hk'; have := NN.out.1; omega)) (Nat.le_trans HL1.out (by decide)) (by rfl) ⟨w2.heap.size, 0, none⟩ 1 (by rfl) [.int .i64 ag, .string co, .int .i64 po, .bool ds] rfl (World.news_of_block (heap_alloc_new w2 _)) (by intro u hu; simp only [List.mem_cons, List.not_mem_nil, or_false] at hu; rcases hu with rfl | rfl | rfl | rfl <;> rfl) ?_
       intro a' cap' w4 hk4 ho4 hb4
       have G3 := Lib.hid (World.grownBy_alloc w2 (.cells #[.int .i64 ag, .string co, .int .i64 po, .bool ds] 94) none)
       have hpn : ¬ bk a pb := fun e => by have := HJ.out.2.2.2.1 pb e; have := NN.out.2.2.2.1; omega
       have hrn : ¬ bk a rb := fun e => by have := HJ.out.2.2.2.1 rb e; have := NN.out.2.2.2.2.1; omega
       have hRn : ¬ bk a R := fun e => by have := HJ.out.2.2.2.1 R e; have := NN.out.1; omega
       have hp2 : w2.heap[pb]? = some (.cells (cs.setIfInBounds 14 (.slice a n cap)) Tp (0, 0)) := (R2.out.2.block pb hlt1 (by simp; exact fun e => n1 e.symm)).trans HJ.out.2.2.1
       have hr2 : w2.heap[rb]? = some (.cells #[.pointer (some ⟨R, 0, none⟩)] 167 (0, 0)) := (R2.out.2.block rb hlt2 (by simp; exact fun e => n2 e.symm)).trans HJ.out.1
       have hp4 := (ho4.block pb (by have := (Array.getElem?_eq_some_iff.1 hp2).1; simp; omega) hpn).trans (blk_grown G3.out hp2)
       have hr4 := (ho4.block rb (by have := (Array.getElem?_eq_some_iff.1 hr2).1; simp; omega) hrn).trans (blk_grown G3.out hr2)
       have y4 : w4.cell? ⟨pb, 14, none⟩ = some (.slice a n cap) := by rw [cell_of_row _ _ 14 _ _ _ hp4]; simp [hix]
       have z4 : w4.frozen? ⟨pb, 14, none⟩ = false := frozen_of_row _ _ _ _ _ hp4
       have E4 := Lib.hid (And.intro hk4 (And.intro ho4 (And.intro hb4 (And.intro hp4 hr4))))
       clear hk4 ho4 hb4 hp4 hr4 hp2 hr2)
    | fail)
  all_goals
    go_wp2_with fail
    go_end0
    have hput := LsJ.put (sz := 4) (xs := xs) (news := [.int .i64 ag, .string co, .int .i64 po, .bool ds]) ⟨HJ.out.1, HJ.out.2.1, HJ.out.2.2.1, HJ.out.2.2.2.1⟩ NN.out R2.out G3.out E4.out
    refine ⟨rfl, hput.1, ?_⟩
    have h5 := hput.2
    rw [List.length_append, List.flatMap_append, Hacc.out, Hal.out]
    exact h5
end Go.Proofs.YtppigamibgefaaaGreatDoor
namespace Go.Proofs.YtppigamibgefaaaGreatDoor
open Go.RowKit

/-- What a test answers. -/
def BoolIs (P : Prop) (e : Ending) : Prop := ∃ b, e = .returned (.bool b) ∧ (b = true ↔ P)
theorem cells3 {w : World} {g : Nat} {v0 v1 v2 : Value} {T : TypeId} (h : w.heap[g]? = some (.cells #[v0, v1, v2] T (0, 0))) : w.cell? ⟨g, 0, none⟩ = some v0 ∧ w.cell? ⟨g, 1, none⟩ = some v1 ∧ w.cell? ⟨g, 2, none⟩ = some v2 :=
  ⟨by rw [cell_of_row _ _ 0 _ _ _ h]; rfl, by rw [cell_of_row _ _ 1 _ _ _ h]; rfl, by rw [cell_of_row _ _ 2 _ _ _ h]; rfl⟩
theorem cells4 {w : World} {g : Nat} {v0 v1 v2 v3 : Value} {T : TypeId} (h : w.heap[g]? = some (.cells #[v0, v1, v2, v3] T (0, 0))) : w.cell? ⟨g, 0, none⟩ = some v0 ∧ w.cell? ⟨g, 1, none⟩ = some v1 ∧ w.cell? ⟨g, 2, none⟩ = some v2 ∧ w.cell? ⟨g, 3, none⟩ = some v3 :=
  ⟨by rw [cell_of_row _ _ 0 _ _ _ h]; rfl, by rw [cell_of_row _ _ 1 _ _ _ h]; rfl, by rw [cell_of_row _ _ 2 _ _ _ h]; rfl, by rw [cell_of_row _ _ 3 _ _ _ h]; rfl⟩
theorem cells10 {w : World} {g : Nat} {v0 v1 v2 v3 v4 v5 v6 v7 v8 v9 : Value} {T : TypeId} (h : w.heap[g]? = some (.cells #[v0, v1, v2, v3, v4, v5, v6, v7, v8, v9] T (0, 0))) : w.cell? ⟨g, 0, none⟩ = some v0 ∧ w.cell? ⟨g, 1, none⟩ = some v1 ∧ w.cell? ⟨g, 2, none⟩ = some v2 ∧ w.cell? ⟨g, 3, none⟩ = some v3 ∧ w.cell? ⟨g, 4, none⟩ = some v4 ∧ w.cell? ⟨g, 5, none⟩ = some v5 ∧ w.cell? ⟨g, 6, none⟩ = some v6 ∧ w.cell? ⟨g, 7, none⟩ = some v7 ∧ w.cell? ⟨g, 8, none⟩ = some v8 ∧ w.cell? ⟨g, 9, none⟩ = some v9 :=
  ⟨by rw [cell_of_row _ _ 0 _ _ _ h]; rfl, by rw [cell_of_row _ _ 1 _ _ _ h]; rfl, by rw [cell_of_row _ _ 2 _ _ _ h]; rfl, by rw [cell_of_row _ _ 3 _ _ _ h]; rfl, by rw [cell_of_row _ _ 4 _ _ _ h]; rfl, by rw [cell_of_row _ _ 5 _ _ _ h]; rfl, by rw [cell_of_row _ _ 6 _ _ _ h]; rfl, by rw [cell_of_row _ _ 7 _ _ _ h]; rfl, by rw [cell_of_row _ _ 8 _ _ _ h]; rfl, by rw [cell_of_row _ _ 9 _ _ _ h]; rfl⟩
theorem nat_eqf {a b : Nat} (h : ¬ a = b) : ((a : Int) == (b : Int)) = false := by rw [beq_eq_false_iff_ne]; omega
theorem int_eqf {a b : Int} (h : ¬ a = b) : (a == b) = false := by rw [beq_eq_false_iff_ne]; exact h
/-- Two items are the same but for places. -/
def Itm.like (x y : Itm) : Prop := x.agg = y.agg ∧ x.col = y.col
def Kyo.like (x y : Kyo) : Prop := x.desc = y.desc ∧ Itm.like x.item y.item
set_option maxHeartbeats 1600000 in
theorem sameItem_any (x y : Itm) (w : World) : Calls Tryz.prog 36 #[.agg x.c.toArray, .agg y.c.toArray] w fun e w' => BoolIs (Itm.like x y) e ∧ w.grownBy w' none := by
  obtain ⟨a, c, p⟩ := x
  obtain ⟨a', c', p'⟩ := y
  show Calls Tryz.prog 36 #[.agg #[.int .i64 a, .string c, .int .i64 p], .agg #[.int .i64 a', .string c', .int .i64 p']] w _
  have B1 := heap_alloc_new w (.cells #[.int .i64 a, .string c, .int .i64 p] 81)
  have B2 := heap_alloc_new (w.alloc (.cells #[.int .i64 a, .string c, .int .i64 p] 81)) (.cells #[.int .i64 a', .string c', .int .i64 p'] 81)
  have hs1 : (w.alloc (.cells #[.int .i64 a, .string c, .int .i64 p] 81)).heap.size = w.heap.size + 1 := by simp
  rw [hs1] at B2
  have g1 := World.grownBy_alloc (w.alloc (.cells #[.int .i64 a, .string c, .int .i64 p] 81)) (.cells #[.int .i64 a', .string c', .int .i64 p'] 81) none
  have K0 := Lib.hid ((World.grownBy_alloc w (.cells #[.int .i64 a, .string c, .int .i64 p] 81) none).trans g1)
  obtain ⟨b0, b1, b2⟩ := cells3 (blk_grown g1 B1)
  obtain ⟨d0, d1, d2⟩ := cells3 B2
  clear B1 B2 g1 hs1
  by_cases h1 : a = a'
  · subst h1
    by_cases h2 : c = c'
    · subst h2
      go_enter Tryz.func36, Tryz.ntmps36
      go_wp2_with fail
      go_ret
      exact ⟨⟨true, rfl, by simp [Itm.like]⟩, K0.out⟩
    · have e2 := str_ne h2
      have H2 := Lib.hid h2
      clear h2
      go_enter Tryz.func36, Tryz.ntmps36
      go_wp2_with fail
      go_ret
      exact ⟨⟨false, rfl, by simp [Itm.like, H2.out]⟩, K0.out⟩
  · have e1 := nat_eqf h1
    have H2 := Lib.hid h1
    clear h1
    go_enter Tryz.func36, Tryz.ntmps36
    go_wp2_with fail
    go_ret
    exact ⟨⟨false, rfl, by simp [Itm.like, H2.out]⟩, K0.out⟩
set_option maxHeartbeats 1600000 in
theorem sameKey_any (x y : Kyo) (w : World) : Calls Tryz.prog 38 #[.agg x.c.toArray, .agg y.c.toArray] w fun e w' => BoolIs (Kyo.like x y) e ∧ w.grownBy w' none := by
  have HS := Lib.hid (fun W => sameItem_any x.item y.item W)
  obtain ⟨⟨a, c, p⟩, d⟩ := x
  obtain ⟨⟨a', c', p'⟩, d'⟩ := y
  have HS : Hid (∀ W, Calls Tryz.prog 36 #[.agg #[.int .i64 a, .string c, .int .i64 p], .agg #[.int .i64 a', .string c', .int .i64 p']] W fun e w' => BoolIs (Itm.like ⟨a, c, p⟩ ⟨a', c', p'⟩) e ∧ W.grownBy w' none) := HS
  show Calls Tryz.prog 38 #[.agg #[.int .i64 a, .string c, .int .i64 p, .bool d], .agg #[.int .i64 a', .string c', .int .i64 p', .bool d']] w _
  have B1 := heap_alloc_new w (.cells #[.int .i64 a, .string c, .int .i64 p, .bool d] 94)
  have B2 := heap_alloc_new (w.alloc (.cells #[.int .i64 a, .string c, .int .i64 p, .bool d] 94)) (.cells #[.int .i64 a', .string c', .int .i64 p', .bool d'] 94)
  have hs1 : (w.alloc (.cells #[.int .i64 a, .string c, .int .i64 p, .bool d] 94)).heap.size = w.heap.size + 1 := by simp
  rw [hs1] at B2
  have g1 := World.grownBy_alloc (w.alloc (.cells #[.int .i64 a, .string c, .int .i64 p, .bool d] 94)) (.cells #[.int .i64 a', .string c', .int .i64 p', .bool d'] 94) none
  have K0 := Lib.hid ((World.grownBy_alloc w (.cells #[.int .i64 a, .string c, .int .i64 p, .bool d] 94) none).trans g1)
  obtain ⟨b0, b1, b2, b3⟩ := cells4 (blk_grown g1 B1)
  obtain ⟨d0, d1, d2, d3⟩ := cells4 B2
  clear B1 B2 g1 hs1
  by_cases h1 : d = d'
  · subst h1
    go_enter Tryz.func38, Tryz.ntmps38
    go_wp2_with fail
    refine (HS.out _).mono ?_
    rintro e w2 ⟨⟨b, rfl, hb⟩, hg⟩
    have K2 := Lib.hid (K0.out.trans hg)
    have HB := Lib.hid hb
    clear hb hg
    go_wp2_with fail
    go_ret
    exact ⟨⟨b, rfl, by simp [Kyo.like, HB.out]⟩, K2.out⟩
  · have e1 : (d == d') = false := by simpa using h1
    have H2 := Lib.hid h1
    clear h1
    go_enter Tryz.func38, Tryz.ntmps38
    go_wp2_with fail
    go_ret
    exact ⟨⟨false, rfl, by simp [Kyo.like, H2.out]⟩, K0.out⟩
set_option maxHeartbeats 800000 in
theorem equalVs_any (a a' : Option Addr) (cap cap' : Nat) (l m : List Vl) (w : World) (h : RowAt w a l) (h' : RowAt w a' m) :
    Calls Tryz.prog 66 #[.slice a l.length cap, .slice a' m.length cap'] w fun e w' => e = .returned (.bool (rowsOrd l m == 0)) ∧ Below w.heap.size w w' := by
  by_cases hll : l.length = m.length
  · have hm := h.1
    have H := Lib.hid h
    have H' := Lib.hid h'
    clear h h'
    rw [← hll]
    generalize hlen : l.length = len at *
    have Hlen := Lib.hid hlen
    have Hlen' := Lib.hid hll.symm
    clear hlen hll
    go_enter Tryz.func66, Tryz.ntmps66
    go_wp2
    go_loopw [13] (fun i wr => ∃ k : Nat, k ≤ len ∧ i = .int .i64 k ∧ Hid (l.take k = m.take k) ∧ Below w.heap.size w wr) (fun i _ => len - (intOf i).toNat)
    case atStart => exact ⟨0, Nat.zero_le _, rfl, rfl, Below.refl _ _⟩
    case round =>
      obtain ⟨k, hk, rfl, htk, hbl⟩ := hrel
      by_cases hlt : k < len
      · obtain ⟨b, off, rfl, hbs, c0, c1, c2⟩ := (H.out.keep hbl).at (i := k) (by rw [Hlen.out]; exact hlt)
        obtain ⟨b', off', rfl, hbs', d0, d1, d2⟩ := (H'.out.keep hbl).at (i := k) (by rw [Hlen'.out]; exact hlt)
        generalize hx : l.getD k default = x at *
        have Hx := Lib.hid hx
        clear hx
        generalize hy : m.getD k default = y at *
        have Hy := Lib.hid hy
        clear hy
        obtain ⟨xk, xn, xs⟩ := x
        obtain ⟨yk, yn, ys⟩ := y
        simp only at c0 c1 c2 d0 d1 d2
        by_cases hne : (⟨xk, xn, xs⟩ : Vl) = ⟨yk, yn, ys⟩
        · obtain ⟨rfl, rfl, rfl⟩ := Vl.mk.inj hne
          clear hne
          go_wp2_with fail
          go_quiet (fail)
          go_wp2_with fail
          go_roundw
          case rel => exact ⟨k + 1, by omega, by go_num, take_go (by rw [Hlen.out]; exact hlt) (by rw [Hlen'.out]; exact hlt) htk.out (by rw [Hx.out, Hy.out]), below_drewN hbl _⟩
          case measure => simp [intOf]; omega
        · have HNE := Lib.hid hne
          clear hne
          by_cases h1 : xk = yk
          · subst h1
            by_cases h2 : xn = yn
            · subst h2
              have h3 : ¬ xs.toList = ys.toList := fun h => HNE.out (by rw [bytes_ext (a := xs) (b := ys) (by rw [← Lib.toList_data, ← Lib.toList_data, h])])
              go_wp2_with fail
              go_quiet (fail)
              go_wp2_with fail
              go_ret
              exact ⟨ret_bool (ne_ro (fun e => HNE.out (by rw [← Hx.out, ← Hy.out, e]))).symm, below_drewN hbl _⟩
            · go_wp2_with fail
              go_quiet (fail)
              go_wp2_with fail
              go_ret
              exact ⟨ret_bool (ne_ro (fun e => HNE.out (by rw [← Hx.out, ← Hy.out, e]))).symm, below_drewN hbl _⟩
          · go_wp2_with fail
            go_quiet (fail)
            go_wp2_with fail
            go_ret
            exact ⟨ret_bool (ne_ro (fun e => HNE.out (by rw [← Hx.out, ← Hy.out, e]))).symm, below_drewN hbl _⟩
      · obtain rfl : k = len := by omega
        go_wp2_with fail
        go_ret
        exact ⟨ret_bool (eq_ro (by have := htk.out; rwa [List.take_of_length_le (by rw [Hlen.out]; exact Nat.le_refl _), List.take_of_length_le (by rw [Hlen'.out]; exact Nat.le_refl _)] at this)).symm, hbl⟩
  · have hne : (rowsOrd l m == 0) = false := ne_ro (fun e => hll (by rw [e]))
    rw [hne]
    have hd : ((l.length : Int) != (m.length : Int)) = true := by rw [bne_iff_ne]; omega
    clear h h' hne hll
    generalize l.length = len at *
    generalize m.length = len' at *
    go_enter Tryz.func66, Tryz.ntmps66
    go_wp2_with fail
    go_ret
    exact ⟨rfl, Below.refl _ _⟩
end Go.Proofs.YtppigamibgefaaaGreatDoor
