import Derived.Test.YtfambadamebjjaaZs28
import Derived.Test.YtfambadamebjjaaZs13
set_option linter.unusedSimpArgs false
set_option linter.unusedVariables false
namespace Go.Proofs.Ytfambadamebjjaa
open Go.RowKit

theorem val_el : ElT 25 31 (.agg #[.int .i64 0, .int .i64 0, .string ⟨#[]⟩]) 3 32 := ⟨Try.underlying25, info_partsT val_infoT, by decide, by decide, by decide⟩
theorem itm_infoT : (Try.prog.info? 106).map (fun i => (i.zero, i.size, i.bytes)) = some (some (.agg #[.int .i64 0, .string ⟨#[]⟩, .int .i64 0]), 3, 32) := by kernel_rfl
theorem itm_el : ElT 27 106 (.agg #[.int .i64 0, .string ⟨#[]⟩, .int .i64 0]) 3 32 := ⟨Try.underlying27, info_partsT itm_infoT, by decide, by decide, by decide⟩
theorem key_infoT : (Try.prog.info? 123).map (fun i => (i.zero, i.size, i.bytes)) = some (some (.agg #[.int .i64 0, .string ⟨#[]⟩, .int .i64 0, .bool false]), 4, 40) := by kernel_rfl
theorem key_el : ElT 35 123 (.agg #[.int .i64 0, .string ⟨#[]⟩, .int .i64 0, .bool false]) 4 40 := ⟨Try.underlying35, info_partsT key_infoT, by decide, by decide, by decide⟩
end Go.Proofs.Ytfambadamebjjaa
namespace Go.Proofs.Ytfambadamebjjaa
open Go.RowKit
theorem fold_tenD {v0 v1 v2 v3 v4 v5 v6 v7 v8 v9 : Value} {cs : Array Value} (h : cs.size = 10) : Array.foldl (fun cs (x : Value × Nat) => cs.setIfInBounds x.snd x.fst) #[v0, v1, v2, v3, v4, v5, v6, v7, v8, v9] cs.zipIdx 0 10 = cs := by
 obtain ⟨a0, a1, a2, a3, a4, a5, a6, a7, a8, a9, e⟩ : ∃ a0 a1 a2 a3 a4 a5 a6 a7 a8 a9, cs = #[a0, a1, a2, a3, a4, a5, a6, a7, a8, a9] := ⟨_, _, _, _, _, _, _, _, _, _, (ten h).symm⟩
 subst e
 simp
set_option maxRecDepth 100000 in
set_option maxHeartbeats 3200000 in
theorem rnot_any (B : Nat) (x : Pm) (ask : Bool) (w : World) (hx : PmS (fun j => B ≤ j) w x) (hB : B ≤ w.heap.size) :
  Calls Try.prog 90 #[x.v, .bool ask] w fun e w' => (∃ y : Pm, e = .returned y.v ∧ y.e.e = (if ask then notP x.e 0 else x.e).e ∧ PmS (fun j => B ≤ j) w' y) ∧ w.grownBy w' none := by
 have HX := Lib.hid (And.intro hx hB)
 have h1 := x.c_size
 have h2 := x.c_all
 obtain ⟨q, hq⟩ : ∃ q : Nat, x.c.toArray[9]? = some (.int .i64 q) := by cases x; exact ⟨_, rfl⟩
 unfold Pm.v
 generalize hcs : x.c.toArray = cs at *
 have Hcs := Lib.hid hcs
 have GA := Lib.hid (World.grownBy_alloc w (.cells cs 34) none)
 have s1 : (w.alloc (.cells cs 34)).heap.size = w.heap.size + 1 := by simp
 have b1 := heap_alloc_new w (.cells cs 34)
 have b2 := heap_alloc_new (w.alloc (.cells cs 34)) (.cells z10 34)
 rw [s1] at b2
 have g2 := (World.grownBy_alloc w (.cells cs 34) none).trans (World.grownBy_alloc (w.alloc (.cells cs 34)) (.cells z10 34) none)
 have A2 := Lib.hid (blk_grown (World.grownBy_alloc (w.alloc (.cells cs 34)) (.cells z10 34) none) b1)
 have B2 := Lib.hid b2
 have G2 := Lib.hid g2
 have H1 := Lib.hid h1
 have H2 := Lib.hid h2
 have HQ := Lib.hid hq
 clear hcs hx hB b1 b2 g2 s1 h2 hq h1
 cases ask with
 | false =>
  go_enter Try.func90, Try.ntmps90
  go_upto_region 3 with fail
  change Code.wp _ _ _ _ ((w.alloc (.cells cs 34)).alloc (.cells z10 34))
  generalize (w.alloc (.cells cs 34)).alloc (.cells z10 34) = w2 at *
  go_wp2_with first
   | (refine wpList_load_row rfl 34 (.tmp 2) rfl w.heap.size rfl 34 cs (0, 0) _ A2.out Try.underlying34 rfl (by rw [H1.out]; exact pred_size) ?_)
   | (refine wpList_store_row rfl 34 (.tmp 4) (.tmp 11) rfl (w.heap.size + 1) cs rfl rfl 34 z10 B2.out (by rw [H1.out]; exact pred_size) (by rw [H1.out]; rfl) H2.out ?_)
  refine bodyPost_ret (results_pm rfl _ _ (w.heap.size + 1) x rfl (by rw [Hcs.out]; exact setRow_heap _ _ _ cs _ _ B2.out)) rfl ⟨⟨x, rfl, rfl, ?_⟩, grown_thenX G2.out (grown_setRow _ _ _) (fun j e => by cases e; exact Nat.le_succ _)⟩
  exact HX.out.1.keep (.of (grown_thenX G2.out (grown_setRow _ _ _) (fun j e => by cases e; exact Nat.le_succ _)))
 | true =>
  go_enter Try.func90, Try.ntmps90
  go_upto_region 2 with fail
  change Code.wp _ _ _ _ ((w.alloc (.cells cs 34)).alloc (.cells z10 34))
  generalize (w.alloc (.cells cs 34)).alloc (.cells z10 34) = w2 at *
  have q1 := (cell_of_row _ _ 9 _ _ _ A2.out).trans HQ.out
  have q2 : ∀ o : Obj, (w2.alloc o).cell? ⟨w.heap.size, 9, none⟩ = some (.int .i64 q) := fun o => (World.grownBy_alloc w2 o none).cell q1 (by simp)
  have h1 := H1.out
  clear HQ q1
  go_wp2_with first
   | (refine wpList_load_row rfl 34 (.tmp 2) rfl w.heap.size rfl 34 cs (0, 0) _ A2.out Try.underlying34 rfl (by rw [H1.out]; exact pred_size) ?_)
   | (refine wpList_store_row rfl 34 (.tmp 4) (.tmp 10) rfl (w.heap.size + 1) (Pm.mk 10 ⟨#[]⟩ 0 ⟨0, 0, ⟨#[]⟩⟩ ⟨#[]⟩ Option.none 0 [] (some ⟨w2.heap.size, 0, Option.none⟩) 1 [x] q).c.toArray rfl rfl 34 z10 (blk_grown (World.grownBy_alloc _ _ none) B2.out) (by rw [Pm.c_size]; exact pred_size) (by rw [Pm.c_size]; rfl) (Pm.c_all _) ?_)
  rw [fold_tenD h1]
  have g3 := World.grownBy_alloc w2 (.cells cs 34) none
  have b3 := heap_alloc_new w2 (.cells cs 34)
  have l2 : w.heap.size + 1 < w2.heap.size := (Array.getElem?_eq_some_iff.1 B2.out).1
  generalize w2.alloc (.cells cs 34) = w3 at *
  have gf := grown_thenX (G2.out.trans g3) (grown_setRow w3 (w.heap.size + 1) (Pm.mk 10 ⟨#[]⟩ 0 ⟨0, 0, ⟨#[]⟩⟩ ⟨#[]⟩ Option.none 0 [] (some ⟨w2.heap.size, 0, Option.none⟩) 1 [x] q).c.toArray) (fun j e => by cases e; exact Nat.le_succ _)
  refine bodyPost_ret (results_pm rfl _ _ (w.heap.size + 1) (Pm.mk 10 ⟨#[]⟩ 0 ⟨0, 0, ⟨#[]⟩⟩ ⟨#[]⟩ Option.none 0 [] (some ⟨w2.heap.size, 0, Option.none⟩) 1 [x] q) rfl (setRow_heap _ _ _ _ _ _ (blk_grown g3 B2.out))) rfl ⟨⟨(Pm.mk 10 ⟨#[]⟩ 0 ⟨0, 0, ⟨#[]⟩⟩ ⟨#[]⟩ Option.none 0 [] (some ⟨w2.heap.size, 0, Option.none⟩) 1 [x] q), rfl, rfl, ?_⟩, gf⟩
  refine ⟨RwS.nil _ _ _, Nat.le_refl _, one_cells (T := 34) (x := x) (by rw [Hcs.out]; exact (setRow_other _ _ _ _ (by omega)).trans b3) (by have := HX.out.2; omega), Nat.le_refl _, ?_, trivial⟩
  exact HX.out.1.keep (.of gf)
end Go.Proofs.Ytfambadamebjjaa
namespace Go.Proofs.Ytfambadamebjjaa
open Go.RowKit

end Go.Proofs.Ytfambadamebjjaa
namespace Go.Proofs.Ytfambadamebjjaa
open Go.RowKit

theorem flat_len {α : Type} (c : α → List Value) (n : Nat) (hc : ∀ x, (c x).length = n) (l : List α) : (l.flatMap c).length = l.length * n := by
 induction l with
 | nil => simp
 | cons x l ih => rw [List.flatMap_cons, List.length_append, ih, hc, List.length_cons, Nat.add_mul, Nat.one_mul, Nat.add_comm]
theorem flat_at {α : Type} [Inhabited α] (c : α → List Value) (n : Nat) (hc : ∀ x, (c x).length = n) (l : List α) : ∀ i, i < l.length → ∀ j u, (c (l.getD i default))[j]? = some u → (l.flatMap c)[i * n + j]? = some u := by
 induction l with
 | nil => intro i hi; simp at hi
 | cons x l ih =>
  intro i hi j u hj
  rw [List.flatMap_cons]
  cases i with
  | zero =>
   have hlt : j < (c x).length := (List.getElem?_eq_some_iff.1 hj).1
   rw [List.getElem?_append_left (by omega), Nat.zero_mul, Nat.zero_add]
   exact hj
  | succ i =>
   rw [List.getElem?_append_right (by rw [hc, Nat.add_mul]; omega), hc, show (i + 1) * n + j - n = i * n + j by rw [Nat.add_mul]; omega]
   exact ih i (by simpa using hi) j u hj
theorem CellsS.elem {α : Type} [Inhabited α] {S : Nat → Prop} {w : World} {a : Ptr} {l : List α} {c : α → List Value} {n : Nat} (hc : ∀ x, (c x).length = n) (hn : 0 < n) (h : CellsS S w a (l.flatMap c)) {i : Nat} (hi : i < l.length) :
  ∃ b off, a = some ⟨b, off, Option.none⟩ ∧ S b ∧ b < w.heap.size ∧ ∀ j u, (c (l.getD i default))[j]? = some u → w.cell? ⟨b, off + i * n + j, Option.none⟩ = some u := by
 rcases h with h | ⟨b, off, e, hS, hlt, hcs⟩
 ·have h1 := congrArg List.length h
  rw [flat_len c n hc, List.length_nil] at h1
  have := Nat.mul_pos (show 0 < l.length by omega) hn
  omega
 ·exact ⟨b, off, e, hS, hlt, fun j u hj => by rw [Nat.add_assoc]; exact hcs _ _ (flat_at c n hc l i hi j u hj)⟩
theorem Itm.c_len (x : Itm) : x.c.length = 3 := rfl
theorem Kyo.c_len (x : Kyo) : x.c.length = 4 := rfl
end Go.Proofs.Ytfambadamebjjaa
