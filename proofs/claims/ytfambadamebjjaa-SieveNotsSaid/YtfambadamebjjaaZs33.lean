import Derived.Test.YtfambadamebjjaaZs32
import Derived.Deep.Cut
import Derived.Test.YtfambadamebjjaaZs22
set_option linter.unusedSimpArgs false
set_option linter.unusedVariables false
namespace Go.Proofs.Ytfambadamebjjaa
open Go.RowKit

structure Qm where
 ia : Ptr
 ic : Nat
 items : List Itm
 all : Bool
 table : ByteArray
 cond : Pm
 ga : Ptr
 gc : Nat
 group : List Itm
 oa : Ptr
 oc : Nat
 order : List Kyo
 limit : Int
def Qm.l (y : Qm) : List Value := .slice y.ia y.items.length y.ic :: .bool y.all :: .string y.table :: (y.cond.c ++ [.slice y.ga y.group.length y.gc, .slice y.oa y.order.length y.oc, .int .i64 y.limit, .int .i64 0])
def Qm.c (y : Qm) : Array Value := y.l.toArray
def Qm.e (y : Qm) : Qry := ⟨y.items, y.all, y.table, y.cond.e, y.group, y.order, y.limit⟩
theorem Qm.c_size (y : Qm) : y.c.size = 17 := by simp [Qm.c, Qm.l, Pm.c_len]
theorem Qm.c_all (y : Qm) : y.c.all (·.oneCell') = true := all_oneCell_toArray (by
 intro u hu
 simp only [Qm.l, List.mem_cons, List.mem_append, List.not_mem_nil, or_false] at hu
 rcases hu with rfl | rfl | rfl | hu | rfl | rfl | rfl | rfl
 ·rfl
 ·rfl
 ·rfl
 ·exact Pm.c_one _ u hu
 ·rfl
 ·rfl
 ·rfl
 ·rfl)
def QmS (S : Nat → Prop) (w : World) (y : Qm) : Prop := (CellsS S w y.ia (y.items.flatMap Itm.c) ∧ y.items.length ≤ y.ic) ∧ PmS S w y.cond ∧ (CellsS S w y.ga (y.group.flatMap Itm.c) ∧ y.group.length ≤ y.gc) ∧ CellsS S w y.oa (y.order.flatMap Kyo.c) ∧ y.order.length ≤ y.oc
theorem QmS.keep {S : Nat → Prop} {w w' : World} {y : Qm} (h : QmS S w y) (hk : Stays S w w') : QmS S w' y :=
 ⟨⟨h.1.1.keep hk, h.1.2⟩, h.2.1.keep hk, ⟨h.2.2.1.1.keep hk, h.2.2.1.2⟩, h.2.2.2.1.keep hk, h.2.2.2.2⟩
theorem QmS.mono {S S' : Nat → Prop} {w : World} {y : Qm} (h : QmS S w y) (hs : ∀ b, b < w.heap.size → S b → S' b) : QmS S' w y :=
 ⟨⟨h.1.1.mono hs, h.1.2⟩, h.2.1.mono hs, ⟨h.2.2.1.1.mono hs, h.2.2.1.2⟩, h.2.2.2.1.mono hs, h.2.2.2.2⟩
theorem qm_items (y : Qm) (a : Ptr) (c : Nat) (l : List Itm) : y.c.setIfInBounds 0 (.slice a l.length c) = { y with ia := a, ic := c, items := l : Qm }.c := by
 obtain ⟨_, _, _, _, _, ⟨_, _, _, _, _, _, _, _, _, _, _, _⟩, _, _, _, _, _, _, _⟩ := y; rfl
theorem qm_all (y : Qm) (v : Bool) : y.c.setIfInBounds 1 (.bool v) = { y with all := v : Qm }.c := by
 obtain ⟨_, _, _, _, _, ⟨_, _, _, _, _, _, _, _, _, _, _, _⟩, _, _, _, _, _, _, _⟩ := y; rfl
theorem qm_table (y : Qm) (v : ByteArray) : y.c.setIfInBounds 2 (.string v) = { y with table := v : Qm }.c := by
 obtain ⟨_, _, _, _, _, ⟨_, _, _, _, _, _, _, _, _, _, _, _⟩, _, _, _, _, _, _, _⟩ := y; rfl
theorem qm_group (y : Qm) (a : Ptr) (c : Nat) (l : List Itm) : y.c.setIfInBounds 13 (.slice a l.length c) = { y with ga := a, gc := c, group := l : Qm }.c := by
 obtain ⟨_, _, _, _, _, ⟨_, _, _, _, _, _, _, _, _, _, _, _⟩, _, _, _, _, _, _, _⟩ := y; rfl
theorem qm_order (y : Qm) (a : Ptr) (c : Nat) (l : List Kyo) : y.c.setIfInBounds 14 (.slice a l.length c) = { y with oa := a, oc := c, order := l : Qm }.c := by
 obtain ⟨_, _, _, _, _, ⟨_, _, _, _, _, _, _, _, _, _, _, _⟩, _, _, _, _, _, _, _⟩ := y; rfl
theorem qm_limit (y : Qm) (v : Int) : y.c.setIfInBounds 15 (.int .i64 v) = { y with limit := v : Qm }.c := by
 obtain ⟨_, _, _, _, _, ⟨_, _, _, _, _, _, _, _, _, _, _, _⟩, _, _, _, _, _, _, _⟩ := y; rfl
def Qm.z (n : Int) : Qm := ⟨Option.none, 0, [], false, ⟨#[]⟩, Pm.none, Option.none, 0, [], Option.none, 0, [], n⟩
theorem win_cells {sz : Nat} {S : Nat → Prop} {w : World} {a : Ptr} {cap n : Nat} {xs : List Value} (h : Win sz w a cap n xs) (hS : ∀ k, bk a k → S k) : CellsS S w a xs := by
 rcases h.mem with e | ⟨g, off, e, hc, _, _⟩
 ·have h1 := h.le
  have h2 := h.len
  obtain rfl : n = 0 := by omega
  exact .inl (List.eq_nil_of_length_eq_zero (by omega))
 ·subst e
  exact .inr ⟨g, off, rfl, hS g rfl, h.lt g rfl, hc⟩
end Go.Proofs.Ytfambadamebjjaa
namespace Go.Proofs.Ytfambadamebjjaa
open Go.RowKit

theorem Qm.c1' (y : Qm) : y.c[1]? = some (.bool y.all) := rfl
theorem Qm.c2' (y : Qm) : y.c[2]? = some (.string y.table) := rfl
theorem Qm.c15' (y : Qm) : y.c[15]? = some (.int .i64 y.limit) := by
 obtain ⟨_, _, _, _, _, ⟨_, _, _, _, _, _, _, _, _, _, _, _⟩, _, _, _, _, _, _, _⟩ := y; rfl
def setL (cs : Array Value) (o : Nat) : List Value → Array Value
 | [] => cs
 | v :: vs => setL (cs.setIfInBounds o v) (o + 1) vs
theorem heap_setCells {b : Nat} {T : TypeId} : ∀ (vs : List Value) (o : Nat) (w : World) (cs : Array Value), w.heap[b]? = some (.cells cs T (0, 0)) → (w.setCells b o vs).heap[b]? = some (.cells (setL cs o vs) T (0, 0))
 | [], _, _, _, h => h
 | v :: vs, o, w, _, h => heap_setCells vs (o + 1) (w.setCell ⟨b, o, none⟩ v) _ (heap_setCell_same _ _ _ _ _ v h)
theorem grown_setCells (b : Nat) (vs : List Value) (o : Nat) (w : World) : w.grownBy (w.setCells b o vs) (some b) := by
 have h := only_setCells b vs o w
 exact ⟨h.os, h.tape, h.output, h.size, fun k hk hne => h.block k hk (fun e => hne (by rw [e]))⟩
theorem qm_cond (y : Qm) (x : Pm) : setL y.c 3 x.c = { y with cond := x : Qm }.c := by
 obtain ⟨_, _, _, _, _, ⟨_, _, _, _, _, _, _, _, _, _, _, _⟩, _, _, _, _, _, _, _⟩ := y
 obtain ⟨_, _, _, _, _, _, _, _, _, _, _, _⟩ := x
 simp [setL, Qm.c, Qm.l, Pm.c]
theorem query_size : (Try.prog.info? 37).map (·.size) = some 17 := by kernel_rfl
end Go.Proofs.Ytfambadamebjjaa
namespace Go.Proofs.Ytfambadamebjjaa
open Go.RowKit

theorem ne_nat {c : Nat} (h : c ≠ 0) : ((c : Int) != 0) = true := by
 rw [bne_iff_ne]; omega
theorem cells17 {w : World} {g : Nat} {v0 v1 v2 v3 v4 v5 v6 v7 v8 v9 v10 v11 v12 v13 v14 v15 v16 : Value} {T : TypeId} (h : w.heap[g]? = some (.cells #[v0, v1, v2, v3, v4, v5, v6, v7, v8, v9, v10, v11, v12, v13, v14, v15, v16] T (0, 0))) : w.cell? ⟨g, 0, none⟩ = some v0 ∧ w.cell? ⟨g, 1, none⟩ = some v1 ∧ w.cell? ⟨g, 2, none⟩ = some v2 ∧ w.cell? ⟨g, 3, none⟩ = some v3 ∧ w.cell? ⟨g, 4, none⟩ = some v4 ∧ w.cell? ⟨g, 5, none⟩ = some v5 ∧ w.cell? ⟨g, 6, none⟩ = some v6 ∧ w.cell? ⟨g, 7, none⟩ = some v7 ∧ w.cell? ⟨g, 8, none⟩ = some v8 ∧ w.cell? ⟨g, 9, none⟩ = some v9 ∧ w.cell? ⟨g, 10, none⟩ = some v10 ∧ w.cell? ⟨g, 11, none⟩ = some v11 ∧ w.cell? ⟨g, 12, none⟩ = some v12 ∧ w.cell? ⟨g, 13, none⟩ = some v13 ∧ w.cell? ⟨g, 14, none⟩ = some v14 ∧ w.cell? ⟨g, 15, none⟩ = some v15 ∧ w.cell? ⟨g, 16, none⟩ = some v16 :=
 ⟨by rw [cell_of_row _ _ 0 _ _ _ h]; rfl, by rw [cell_of_row _ _ 1 _ _ _ h]; rfl, by rw [cell_of_row _ _ 2 _ _ _ h]; rfl, by rw [cell_of_row _ _ 3 _ _ _ h]; rfl, by rw [cell_of_row _ _ 4 _ _ _ h]; rfl, by rw [cell_of_row _ _ 5 _ _ _ h]; rfl, by rw [cell_of_row _ _ 6 _ _ _ h]; rfl, by rw [cell_of_row _ _ 7 _ _ _ h]; rfl, by rw [cell_of_row _ _ 8 _ _ _ h]; rfl, by rw [cell_of_row _ _ 9 _ _ _ h]; rfl, by rw [cell_of_row _ _ 10 _ _ _ h]; rfl, by rw [cell_of_row _ _ 11 _ _ _ h]; rfl, by rw [cell_of_row _ _ 12 _ _ _ h]; rfl, by rw [cell_of_row _ _ 13 _ _ _ h]; rfl, by rw [cell_of_row _ _ 14 _ _ _ h]; rfl, by rw [cell_of_row _ _ 15 _ _ _ h]; rfl, by rw [cell_of_row _ _ 16 _ _ _ h]; rfl⟩
theorem results_qm2 {fn : Func} {p u : Tmp} (h : fn.results = #[.cell p 37, .tmp u]) (tmps : Array Value) (w : World) (g : Nat) (y : Qm) (hp : tmps.getD p undef = .pointer (some ⟨g, 0, Option.none⟩)) (hg : w.heap[g]? = some (.cells y.c 37 (0, 0))) :
  (results fn tmps).run Try.prog w = .ok (.tuple #[.agg y.c, tmps.getD u undef]) w := by
 have hp' : tmps[p]?.getD undef = .pointer (some ⟨g, 0, Option.none⟩) := by simpa using hp
 simp [results, h, hp', asAddr, run_loadVar_row w g 37 37 y.c (0, 0) _ hg Try.underlying37 rfl (by rw [Qm.c_size]; exact query_size)]
theorem results_qm3 {fn : Func} {p u v : Tmp} (h : fn.results = #[.cell p 37, .tmp u, .tmp v]) (tmps : Array Value) (w : World) (g : Nat) (y : Qm) (hp : tmps.getD p undef = .pointer (some ⟨g, 0, Option.none⟩)) (hg : w.heap[g]? = some (.cells y.c 37 (0, 0))) :
  (results fn tmps).run Try.prog w = .ok (.tuple #[.agg y.c, tmps.getD u undef, tmps.getD v undef]) w := by
 have hp' : tmps[p]?.getD undef = .pointer (some ⟨g, 0, Option.none⟩) := by simpa using hp
 simp [results, h, hp', asAddr, run_loadVar_row w g 37 37 y.c (0, 0) _ hg Try.underlying37 rfl (by rw [Qm.c_size]; exact query_size)]
end Go.Proofs.Ytfambadamebjjaa
namespace Go.Proofs.Ytfambadamebjjaa
open Go.RowKit

end Go.Proofs.Ytfambadamebjjaa
