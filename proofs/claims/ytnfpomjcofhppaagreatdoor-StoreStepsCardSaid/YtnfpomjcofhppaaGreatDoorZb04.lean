/- What a run leaves in memory: blocks that are new, cells that stay; rows of values in memory; the contract of the document's GoodRow and Int. Tables in memory; contracts of slices.IndexFunc at tables, of tableOf, and of twice where no name comes twice. Contracts of what compares rows: the program's, by the library's slices.CompareFunc and slices.Equal, and the document's. -/
import Derived.Test.YtnfpomjcofhppaaGreatDoorZb03
import Derived.Deep.DeepCutAuto
import Derived.Lib.Hide
import Derived.BigQuiet
import Derived.Deep.RegionHeld3
namespace Go.Proofs.YtnfpomjcofhppaaGreatDoor
open Go.RowKit

/-- Three cells of a new block, behind a call that touched nothing old. -/
theorem kept3 {W w1 : World} {b : Nat} {v0 v1 v2 : Value} {T : TypeId} (hb : Below W.heap.size W w1) (hB : b < W.heap.size) (hcs : W.heap[b]? = some (.cells #[v0, v1, v2] T (0, 0))) :
    w1.cell? ⟨b, 0, none⟩ = some v0 ∧ w1.cell? ⟨b, 1, none⟩ = some v1 ∧ w1.cell? ⟨b, 2, none⟩ = some v2 ∧ w1.frozen? ⟨b, 0, none⟩ = false ∧ w1.frozen? ⟨b, 1, none⟩ = false ∧ w1.frozen? ⟨b, 2, none⟩ = false := by
  have e := (hb.block b hB).trans hcs
  simp [World.cell?, World.frozen?, e]
theorem heap_new (w : World) (o : Obj) : (w.alloc o).heap[w.heap.size]? = some o := by
  show (w.heap.push o)[w.heap.size]? = _
  simp
theorem heap_new3 (w : World) (o1 o2 o3 : Obj) : (((w.alloc o1).alloc o2).alloc o3).heap[w.heap.size + 1 + 1]? = some o3 := by
  simpa using heap_new ((w.alloc o1).alloc o2) o3

theorem heap_new3a (w : World) (o1 o2 o3 : Obj) : (((w.alloc o1).alloc o2).alloc o3).heap[w.heap.size]? = some o1 := by
  rw [Below.heap_alloc _ _ _ (by simp; omega), Below.heap_alloc _ _ _ (by simp)]
  exact heap_new w o1
theorem heap_new3b (w : World) (o1 o2 o3 : Obj) : (((w.alloc o1).alloc o2).alloc o3).heap[w.heap.size + 1]? = some o2 := by
  rw [Below.heap_alloc _ _ _ (by simp)]
  simpa using heap_new (w.alloc o1) o2

theorem below3 (w : World) (o1 o2 o3 : Obj) : Below w.heap.size w (((w.alloc o1).alloc o2).alloc o3) := (((Below.refl _ _).alloc (Nat.le_refl _) _).alloc (by simp) _).alloc (by simp; omega) _

theorem below_store3 {B b : Nat} {w w1 : World} (h : Below B w w1) (hb : B ≤ b) (u0 u1 u2 : Value) : Below B w (((w1.setCell ⟨b, 0, none⟩ u0).setCell ⟨b, 1, none⟩ u1).setCell ⟨b, 2, none⟩ u2) :=
  ((h.setCell (p := ⟨b, 0, none⟩) hb u0).setCell (p := ⟨b, 1, none⟩) hb u1).setCell (p := ⟨b, 2, none⟩) hb u2
theorem cells1 {w w1 : World} {v0 v1 v2 : Value} {T : TypeId} (hb : Below (w.alloc (.cells #[v0, v1, v2] T)).heap.size (w.alloc (.cells #[v0, v1, v2] T)) w1) :
    w1.cell? ⟨w.heap.size, 0, none⟩ = some v0 ∧ w1.cell? ⟨w.heap.size, 1, none⟩ = some v1 ∧ w1.cell? ⟨w.heap.size, 2, none⟩ = some v2 ∧ w.heap.size + 1 ≤ w1.heap.size ∧ Below w.heap.size w w1 := by
  obtain ⟨k0, k1, k2, _⟩ := kept3 (b := w.heap.size) hb (by simp) (heap_new _ _)
  have := hb.size
  simp only [World.size_alloc] at this
  exact ⟨k0, k1, k2, this, ((Below.refl _ _).alloc (Nat.le_refl _) _).trans (hb.mono (by simp))⟩

theorem cells1d {w w1 : World} {v0 v1 v2 : Value} {T : TypeId} (hb : Below (w.alloc (.cells #[v0, v1, v2] T)).drew.heap.size (w.alloc (.cells #[v0, v1, v2] T)).drew w1) :
    w1.cell? ⟨w.heap.size, 0, none⟩ = some v0 ∧ w1.cell? ⟨w.heap.size, 1, none⟩ = some v1 ∧ w1.cell? ⟨w.heap.size, 2, none⟩ = some v2 ∧ w.heap.size + 1 ≤ w1.heap.size ∧ Below w.heap.size w w1 :=
  cells1 (T := T) ((Below.refl _ _).drew.trans hb)

theorem cells2 {w w1 w2 : World} {b : Nat} {v0 v1 v2 : Value} (hs : b + 1 ≤ w1.heap.size) (h : w1.cell? ⟨b, 0, none⟩ = some v0 ∧ w1.cell? ⟨b, 1, none⟩ = some v1 ∧ w1.cell? ⟨b, 2, none⟩ = some v2) (hw : Below b w w1) (hb : Below w1.heap.size w1 w2) :
    w2.cell? ⟨b, 0, none⟩ = some v0 ∧ w2.cell? ⟨b, 1, none⟩ = some v1 ∧ w2.cell? ⟨b, 2, none⟩ = some v2 ∧ b + 1 ≤ w2.heap.size ∧ Below b w w2 := by
  have := hb.size
  exact ⟨(hb.cell (p := ⟨b, 0, none⟩) hs).trans h.1, (hb.cell (p := ⟨b, 1, none⟩) hs).trans h.2.1, (hb.cell (p := ⟨b, 2, none⟩) hs).trans h.2.2, by omega, hw.trans (hb.mono (by omega))⟩

/-- How far a run has come: nothing old has turned, and c blocks at least are new. -/
def Ran (w : World) (c : Nat) (w1 : World) : Prop := Below w.heap.size w w1 ∧ w.heap.size + c ≤ w1.heap.size
theorem Ran.step {w w1 w2 : World} {c : Nat} (h : Ran w c w1) (hb : Below w1.heap.size w1 w2) : Ran w c w2 :=
  ⟨h.1.trans (hb.mono (by have := h.2; omega)), by have := h.2; have := hb.size; omega⟩
theorem Ran.cell {w w1 w2 : World} {c : Nat} (h : Ran w c w1) (hb : Below w1.heap.size w1 w2) {b o : Nat} (hlt : b < w.heap.size + c) {v : Option Value} (hv : w1.cell? ⟨b, o, none⟩ = v) : w2.cell? ⟨b, o, none⟩ = v :=
  (hb.cell (p := ⟨b, o, none⟩) (by have := h.2; show b < _; omega)).trans hv

theorem keep9 {w w1 w2 : World} {v0 v1 v2 u0 u1 u2 x0 x1 x2 : Value}
    (K : Ran w 3 w1 ∧ w1.cell? ⟨w.heap.size, 0, none⟩ = some v0 ∧ w1.cell? ⟨w.heap.size, 1, none⟩ = some v1 ∧ w1.cell? ⟨w.heap.size, 2, none⟩ = some v2 ∧ w1.cell? ⟨w.heap.size + 1, 0, none⟩ = some u0 ∧ w1.cell? ⟨w.heap.size + 1, 1, none⟩ = some u1 ∧ w1.cell? ⟨w.heap.size + 1, 2, none⟩ = some u2 ∧ w1.cell? ⟨w.heap.size + 1 + 1, 0, none⟩ = some x0 ∧ w1.cell? ⟨w.heap.size + 1 + 1, 1, none⟩ = some x1 ∧ w1.cell? ⟨w.heap.size + 1 + 1, 2, none⟩ = some x2)
    (hb : Below w1.heap.size w1 w2) :
    Ran w 3 w2 ∧ w2.cell? ⟨w.heap.size, 0, none⟩ = some v0 ∧ w2.cell? ⟨w.heap.size, 1, none⟩ = some v1 ∧ w2.cell? ⟨w.heap.size, 2, none⟩ = some v2 ∧ w2.cell? ⟨w.heap.size + 1, 0, none⟩ = some u0 ∧ w2.cell? ⟨w.heap.size + 1, 1, none⟩ = some u1 ∧ w2.cell? ⟨w.heap.size + 1, 2, none⟩ = some u2 ∧ w2.cell? ⟨w.heap.size + 1 + 1, 0, none⟩ = some x0 ∧ w2.cell? ⟨w.heap.size + 1 + 1, 1, none⟩ = some x1 ∧ w2.cell? ⟨w.heap.size + 1 + 1, 2, none⟩ = some x2 := by
  obtain ⟨r, a0, a1, a2, b0, b1, b2, c0, c1, c2⟩ := K
  exact ⟨r.step hb, r.cell hb (by omega) a0, r.cell hb (by omega) a1, r.cell hb (by omega) a2, r.cell hb (by omega) b0, r.cell hb (by omega) b1, r.cell hb (by omega) b2, r.cell hb (by omega) c0, r.cell hb (by omega) c1, r.cell hb (by omega) c2⟩
theorem start9 (w : World) (v0 v1 v2 u0 u1 u2 x0 x1 x2 : Value) (T : TypeId) {W : World} (hW : W = ((w.alloc (.cells #[v0, v1, v2] T)).alloc (.cells #[u0, u1, u2] T)).alloc (.cells #[x0, x1, x2] T)) :
    Ran w 3 W ∧ W.cell? ⟨w.heap.size, 0, none⟩ = some v0 ∧ W.cell? ⟨w.heap.size, 1, none⟩ = some v1 ∧ W.cell? ⟨w.heap.size, 2, none⟩ = some v2 ∧ W.cell? ⟨w.heap.size + 1, 0, none⟩ = some u0 ∧ W.cell? ⟨w.heap.size + 1, 1, none⟩ = some u1 ∧ W.cell? ⟨w.heap.size + 1, 2, none⟩ = some u2 ∧ W.cell? ⟨w.heap.size + 1 + 1, 0, none⟩ = some x0 ∧ W.cell? ⟨w.heap.size + 1 + 1, 1, none⟩ = some x1 ∧ W.cell? ⟨w.heap.size + 1 + 1, 2, none⟩ = some x2 := by
  subst hW
  refine ⟨⟨below3 _ _ _ _, by simp⟩, ?_⟩
  have e0 := heap_new3a w (.cells #[v0, v1, v2] T) (.cells #[u0, u1, u2] T) (.cells #[x0, x1, x2] T)
  have e1 := heap_new3b w (.cells #[v0, v1, v2] T) (.cells #[u0, u1, u2] T) (.cells #[x0, x1, x2] T)
  have e2 := heap_new3 w (.cells #[v0, v1, v2] T) (.cells #[u0, u1, u2] T) (.cells #[x0, x1, x2] T)
  simp only [World.cell?, e0, e1, e2]
  simp

/-- value.Compare's answer under one name. -/
theorem cmpC_any (ak an : Int) (sa : ByteArray) (bk bn : Int) (sb : ByteArray) (w : World) :
    Calls Tryz.prog 94 #[.agg #[.int .i64 ak, .int .i64 an, .string sa], .agg #[.int .i64 bk, .int .i64 bn, .string sb]] w fun e w' => e = .returned (.int .i64 (ordC ak an sa bk bn sb)) ∧ Below w.heap.size w w' := compare_any ak an sa bk bn sb w

theorem keep6 {w w1 w2 : World} {v0 v1 v2 u0 u1 u2 : Value}
    (K : Ran w 2 w1 ∧ w1.cell? ⟨w.heap.size, 0, none⟩ = some v0 ∧ w1.cell? ⟨w.heap.size, 1, none⟩ = some v1 ∧ w1.cell? ⟨w.heap.size, 2, none⟩ = some v2 ∧ w1.cell? ⟨w.heap.size + 1, 0, none⟩ = some u0 ∧ w1.cell? ⟨w.heap.size + 1, 1, none⟩ = some u1 ∧ w1.cell? ⟨w.heap.size + 1, 2, none⟩ = some u2)
    (hb : Below w1.heap.size w1 w2) :
    Ran w 2 w2 ∧ w2.cell? ⟨w.heap.size, 0, none⟩ = some v0 ∧ w2.cell? ⟨w.heap.size, 1, none⟩ = some v1 ∧ w2.cell? ⟨w.heap.size, 2, none⟩ = some v2 ∧ w2.cell? ⟨w.heap.size + 1, 0, none⟩ = some u0 ∧ w2.cell? ⟨w.heap.size + 1, 1, none⟩ = some u1 ∧ w2.cell? ⟨w.heap.size + 1, 2, none⟩ = some u2 := by
  obtain ⟨r, a0, a1, a2, b0, b1, b2⟩ := K
  exact ⟨r.step hb, r.cell hb (by omega) a0, r.cell hb (by omega) a1, r.cell hb (by omega) a2, r.cell hb (by omega) b0, r.cell hb (by omega) b1, r.cell hb (by omega) b2⟩
theorem start6 (w : World) (v0 v1 v2 u0 u1 u2 : Value) (T : TypeId) :
    Ran w 2 ((w.alloc (.cells #[v0, v1, v2] T)).alloc (.cells #[u0, u1, u2] T)) ∧ ((w.alloc (.cells #[v0, v1, v2] T)).alloc (.cells #[u0, u1, u2] T)).cell? ⟨w.heap.size, 0, none⟩ = some v0 ∧ ((w.alloc (.cells #[v0, v1, v2] T)).alloc (.cells #[u0, u1, u2] T)).cell? ⟨w.heap.size, 1, none⟩ = some v1 ∧ ((w.alloc (.cells #[v0, v1, v2] T)).alloc (.cells #[u0, u1, u2] T)).cell? ⟨w.heap.size, 2, none⟩ = some v2 ∧ ((w.alloc (.cells #[v0, v1, v2] T)).alloc (.cells #[u0, u1, u2] T)).cell? ⟨w.heap.size + 1, 0, none⟩ = some u0 ∧ ((w.alloc (.cells #[v0, v1, v2] T)).alloc (.cells #[u0, u1, u2] T)).cell? ⟨w.heap.size + 1, 1, none⟩ = some u1 ∧ ((w.alloc (.cells #[v0, v1, v2] T)).alloc (.cells #[u0, u1, u2] T)).cell? ⟨w.heap.size + 1, 2, none⟩ = some u2 := by
  refine ⟨⟨below2 _ _ _, by simp⟩, ?_⟩
  have e0 : ((w.alloc (.cells #[v0, v1, v2] T)).alloc (.cells #[u0, u1, u2] T)).heap[w.heap.size]? = some (.cells #[v0, v1, v2] T) := by
    rw [Below.heap_alloc _ _ _ (by simp)]
    exact heap_new w _
  have e1 : ((w.alloc (.cells #[v0, v1, v2] T)).alloc (.cells #[u0, u1, u2] T)).heap[w.heap.size + 1]? = some (.cells #[u0, u1, u2] T) := by
    simpa using heap_new (w.alloc (.cells #[v0, v1, v2] T)) (.cells #[u0, u1, u2] T)
  simp only [World.cell?, e0, e1]
  simp
theorem keep3 {w w1 w2 : World} {v0 v1 v2 : Value}
    (K : Ran w 1 w1 ∧ w1.cell? ⟨w.heap.size, 0, none⟩ = some v0 ∧ w1.cell? ⟨w.heap.size, 1, none⟩ = some v1 ∧ w1.cell? ⟨w.heap.size, 2, none⟩ = some v2)
    (hb : Below w1.heap.size w1 w2) :
    Ran w 1 w2 ∧ w2.cell? ⟨w.heap.size, 0, none⟩ = some v0 ∧ w2.cell? ⟨w.heap.size, 1, none⟩ = some v1 ∧ w2.cell? ⟨w.heap.size, 2, none⟩ = some v2 := by
  obtain ⟨r, a0, a1, a2⟩ := K
  exact ⟨r.step hb, r.cell hb (by omega) a0, r.cell hb (by omega) a1, r.cell hb (by omega) a2⟩
theorem start3 (w : World) (v0 v1 v2 : Value) (T : TypeId) :
    Ran w 1 (w.alloc (.cells #[v0, v1, v2] T)) ∧ (w.alloc (.cells #[v0, v1, v2] T)).cell? ⟨w.heap.size, 0, none⟩ = some v0 ∧ (w.alloc (.cells #[v0, v1, v2] T)).cell? ⟨w.heap.size, 1, none⟩ = some v1 ∧ (w.alloc (.cells #[v0, v1, v2] T)).cell? ⟨w.heap.size, 2, none⟩ = some v2 := by
  refine ⟨⟨(Below.refl _ _).alloc (Nat.le_refl _) _, by simp⟩, ?_⟩
  simp only [World.cell?, heap_new]
  simp
/-- An int as a value. -/
def vi (n : Int) : Value := .agg #[.int .i64 2, .int .i64 n, .string ⟨#[]⟩]

set_option maxHeartbeats 400000 in
theorem refInt_any (n : Int) (w : World) :
    Calls Tryz.prog 20 #[.int .i64 n] w fun e w' => e = .returned (vi n) ∧ w.alloc (.cells #[.int .i64 2, .int .i64 n, .string ⟨#[]⟩] 74) = w' := by
  go_enter Tryz.func20, Tryz.ntmps20
  go_wp2
  exact bodyPost_ret (v := vi n) (by simp [results, Tryz.results20, go_sem, vi]) rfl ⟨rfl, rfl⟩

/-- A value by its three cells. -/
structure Vl where
  k : Int
  n : Int
  s : ByteArray
instance : Inhabited Vl := ⟨⟨0, 0, ⟨#[]⟩⟩⟩
def Vl.good (x : Vl) : Bool := goodB x.k x.n x.s
def Vl.ord (x y : Vl) : Int := ordC x.k x.n x.s y.k y.n y.s

/-- The slice at a of len values reads as l in w: nil and empty, or a row of cells that was there. -/
def RowAt (w : World) (a : Option Addr) (l : List Vl) : Prop :=
  l.length ≤ 9223372036854775807 ∧ (∀ x ∈ l, x.s.size ≤ maxLen) ∧ (l = [] ∨ ∃ b off, a = some ⟨b, off, none⟩ ∧ b < w.heap.size ∧ ∀ i, i < l.length → w.cell? ⟨b, off + i * 3, none⟩ = some (.int .i64 (l.getD i default).k) ∧ w.cell? ⟨b, off + i * 3 + 1, none⟩ = some (.int .i64 (l.getD i default).n) ∧ w.cell? ⟨b, off + i * 3 + 2, none⟩ = some (.string (l.getD i default).s))

theorem RowAt.keep {w w' : World} {a : Option Addr} {l : List Vl} (h : RowAt w a l) (hb : Below w.heap.size w w') : RowAt w' a l := by
  obtain ⟨h1, h2, h3⟩ := h
  refine ⟨h1, h2, ?_⟩
  rcases h3 with h3 | ⟨b, off, e, hlt, hc⟩
  · exact .inl h3
  · have := hb.size
    exact .inr ⟨b, off, e, by omega, fun i hi => ⟨(hb.cell (p := ⟨b, _, none⟩) hlt).trans (hc i hi).1, (hb.cell (p := ⟨b, _, none⟩) hlt).trans (hc i hi).2.1, (hb.cell (p := ⟨b, _, none⟩) hlt).trans (hc i hi).2.2⟩⟩
theorem RowAt.at {w : World} {a : Option Addr} {l : List Vl} (h : RowAt w a l) {i : Nat} (hi : i < l.length) : ∃ b off, a = some ⟨b, off, none⟩ ∧ b < w.heap.size ∧ w.cell? ⟨b, off + i * 3, none⟩ = some (.int .i64 (l.getD i default).k) ∧ w.cell? ⟨b, off + i * 3 + 1, none⟩ = some (.int .i64 (l.getD i default).n) ∧ w.cell? ⟨b, off + i * 3 + 2, none⟩ = some (.string (l.getD i default).s) := by
  rcases h.2.2 with h3 | ⟨b, off, e, hlt, hc⟩
  · rw [h3] at hi; simp at hi
  · exact ⟨b, off, e, hlt, hc i hi⟩

theorem all_stop {l : List Vl} {k : Nat} (h : k < l.length) (hf : (l.getD k default).good = false) : l.all Vl.good = false := by
  rw [List.all_eq_false]
  refine ⟨l.getD k default, ?_, by rw [hf]; simp⟩
  simp [List.getD, h]
theorem all_go {l : List Vl} {k : Nat} (h : k < l.length) (ha : (l.take k).all Vl.good = true) (hf : (l.getD k default).good = true) : (l.take (k + 1)).all Vl.good = true := by
  rw [List.take_succ_eq_append_getElem h, List.all_append, ha]
  simp only [List.getD, List.getElem?_eq_getElem h, Option.getD_some] at hf
  simp [hf]

/-- The order of two rows. -/
def rowsOrd : List Vl → List Vl → Int
  | [], [] => 0
  | [], _ :: _ => -1
  | _ :: _, [] => 1
  | x :: l, y :: m => if x.ord y ≠ 0 then x.ord y else rowsOrd l m
theorem drop_getD {l : List Vl} {k : Nat} (h : k < l.length) : l.drop k = l.getD k default :: l.drop (k + 1) := by
  rw [List.drop_eq_getElem_cons h]; simp [List.getD, h]
theorem ro_step {l m : List Vl} {k : Nat} (h : k < l.length) (h' : k < m.length) : rowsOrd (l.drop k) (m.drop k) = if (l.getD k default).ord (m.getD k default) ≠ 0 then (l.getD k default).ord (m.getD k default) else rowsOrd (l.drop (k + 1)) (m.drop (k + 1)) := by
  rw [drop_getD h, drop_getD h']; rfl
theorem ro_end {l m : List Vl} {k : Nat} (h : ¬ (k < l.length ∧ k < m.length)) (hk : k ≤ l.length) (hk' : k ≤ m.length) : rowsOrd (l.drop k) (m.drop k) = cmp3 (l.length : Int) (m.length : Int) := by
  unfold cmp3
  by_cases h1 : k < l.length
  · rw [drop_getD h1, List.drop_of_length_le (l := m) (by omega), if_neg (by omega), if_pos (by omega)]; rfl
  · by_cases h2 : k < m.length
    · rw [drop_getD h2, List.drop_of_length_le (l := l) (by omega), if_pos (by omega)]; rfl
    · rw [List.drop_of_length_le (l := l) (by omega), List.drop_of_length_le (l := m) (by omega), if_neg (by omega), if_neg (by omega)]; rfl
theorem Vl.ord_zero {x y : Vl} : x.ord y = 0 ↔ x = y := by
  unfold Vl.ord
  rw [ordC_zero]
  cases x; cases y; simp
theorem ro_range : ∀ l m : List Vl, -1 ≤ rowsOrd l m ∧ rowsOrd l m ≤ 1
  | [], [] => by simp [rowsOrd]
  | [], _ :: _ => by simp [rowsOrd]
  | _ :: _, [] => by simp [rowsOrd]
  | x :: l, y :: m => by
    have ih := ro_range l m
    have h := ordC_range x.k x.n x.s y.k y.n y.s
    simp only [rowsOrd]
    split
    · exact h
    · exact ih
theorem ro_turn : ∀ l m : List Vl, rowsOrd m l = - rowsOrd l m
  | [], [] => by simp [rowsOrd]
  | [], _ :: _ => by simp [rowsOrd]
  | _ :: _, [] => by simp [rowsOrd]
  | x :: l, y :: m => by
    have ih := ro_turn l m
    have h : y.ord x = - x.ord y := ordC_turn x.k x.n x.s y.k y.n y.s
    simp only [rowsOrd]
    rw [h, ih]
    by_cases hz : x.ord y = 0
    · rw [if_neg (by omega), if_neg (by omega)]
    · rw [if_pos (by omega), if_pos hz]
theorem ro_zero : ∀ l m : List Vl, rowsOrd l m = 0 ↔ l = m
  | [], [] => by simp [rowsOrd]
  | [], _ :: _ => by simp [rowsOrd]
  | _ :: _, [] => by simp [rowsOrd]
  | x :: l, y :: m => by
    have ih := ro_zero l m
    simp only [rowsOrd, List.cons.injEq]
    by_cases hz : x.ord y = 0
    · rw [if_neg (by omega), ih, Vl.ord_zero.1 hz]; simp
    · rw [if_pos hz]
      exact ⟨fun h => absurd h hz, fun h => absurd (Vl.ord_zero.2 h.1) hz⟩
end Go.Proofs.YtnfpomjcofhppaaGreatDoor
namespace Go.Proofs.YtnfpomjcofhppaaGreatDoor
open Go.RowKit

/-- A table: its name, its columns' slice and what that reads as, its keys. -/
structure Tb where
  n : ByteArray
  a : Option Addr
  cap : Nat
  l : List Cl
  k : Int
instance : Inhabited Tb := ⟨⟨⟨#[]⟩, none, 0, [], 0⟩⟩
def Tb.v (t : Tb) : Value := .agg #[.string t.n, .slice t.a t.l.length t.cap, .int .i64 t.k]
/-- A slice of tables that lies in memory, each with its columns. -/
def TabsAt (B : Nat) (w : World) (a : Option Addr) (l : List Tb) : Prop :=
  l.length ≤ 9223372036854775807 ∧ (∀ t ∈ l, ColsAt B w t.a t.l) ∧ (l = [] ∨ ∃ b off, a = some ⟨b, off, none⟩ ∧ b < B ∧ ∀ i, i < l.length → w.cell? ⟨b, off + i * 3, none⟩ = some (.string (l.getD i default).n) ∧ w.cell? ⟨b, off + i * 3 + 1, none⟩ = some (.slice (l.getD i default).a (l.getD i default).l.length (l.getD i default).cap) ∧ w.cell? ⟨b, off + i * 3 + 2, none⟩ = some (.int .i64 (l.getD i default).k))
theorem TabsAt.keep {B : Nat} {w w' : World} {a : Option Addr} {l : List Tb} (h : TabsAt B w a l) {row : Option Nat} (hg : w.grownBy w' row) (hr : ∀ k, row = some k → B ≤ k) : TabsAt B w' a l := by
  refine ⟨h.1, fun t ht => (h.2.1 t ht).keep hg hr, h.2.2.imp id fun ⟨b, off, e, hlt, hc⟩ => ⟨b, off, e, hlt, fun i hi => ?_⟩⟩
  have hb : some b ≠ row := fun e => by have := hr b e.symm; omega
  exact ⟨hg.cell (hc i hi).1 hb, hg.cell (hc i hi).2.1 hb, hg.cell (hc i hi).2.2 hb⟩
theorem TabsAt.at {B : Nat} {w : World} {a : Option Addr} {l : List Tb} (h : TabsAt B w a l) {i : Nat} (hi : i < l.length) : ∃ b off, a = some ⟨b, off, none⟩ ∧ b < B ∧ w.cell? ⟨b, off + i * 3, none⟩ = some (.string (l.getD i default).n) ∧ w.cell? ⟨b, off + i * 3 + 1, none⟩ = some (.slice (l.getD i default).a (l.getD i default).l.length (l.getD i default).cap) ∧ w.cell? ⟨b, off + i * 3 + 2, none⟩ = some (.int .i64 (l.getD i default).k) := by
  rcases h.2.2 with h | ⟨b, off, e, hlt, hc⟩
  · rw [h] at hi; simp at hi
  · exact ⟨b, off, e, hlt, hc i hi⟩
/-- The closure of tableOf: is it the table's name? -/
theorem tabIs_any (N M : ByteArray) (a : Option Addr) (m cap : Nat) (k : Int) (g : Nat) (w : World) (hc : w.cell? ⟨g, 0, none⟩ = some (.string M)) :
    Calls Tryz.prog 101 #[.agg #[.string N, .slice a m cap, .int .i64 k], .pointer (some ⟨g, 0, none⟩)] w fun e w' => e = .returned (.bool (N.toList == M.toList)) ∧ w.grownBy w' none := by
  have hc2 : ∀ o, (w.alloc o).cell? ⟨g, 0, none⟩ = some (.string M) := fun o => (World.grownBy_alloc w o none).cell hc (by simp)
  go_enter Tryz.func101, Tryz.ntmps101
  go_wp2_with fail
  go_ret
  exact ⟨rfl, World.grownBy_alloc _ _ _⟩
/-- The first table of a name. -/
def tabIx (M : ByteArray) (l : List Tb) (k : Nat) : Prop := ∀ i, i < k → ((l.getD i default).n.toList == M.toList) = false
def TxIs (M : ByteArray) (l : List Tb) (r : Int) : Prop := (r = -1 ∧ tabIx M l l.length) ∨ (∃ k : Nat, r = k ∧ k < l.length ∧ ((l.getD k default).n.toList == M.toList) = true ∧ tabIx M l k)
set_option maxHeartbeats 1600000 in
theorem indexTab_any (a : Option Addr) (cap : Nat) (l : List Tb) (M : ByteArray) (g : Nat) (w : World) (h : TabsAt w.heap.size w a l) (hc : w.cell? ⟨g, 0, none⟩ = some (.string M)) :
    Calls Tryz.prog 50 #[.slice a l.length cap, .func (.func 101) #[] #[.pointer (some ⟨g, 0, none⟩)]] w fun e w' => (∃ r, e = .returned (.int .i64 r) ∧ TxIs M l r) ∧ w.grownBy w' none := by
  have H := Lib.hid h
  have HC := Lib.hid (fun (W : World) (hW : w.grownBy W none) (N : ByteArray) (a : Option Addr) (m cap : Nat) (k : Int) => tabIs_any N M a m cap k g W (hW.cell hc (by simp)))
  have hlen := h.1
  obtain ⟨n, hn⟩ : ∃ n, n = l.length := ⟨_, rfl⟩
  have Hn := Lib.hid hn
  rw [← hn] at hlen ⊢
  clear h hc hn
  go_enter Tryz.func50, Tryz.ntmps50
  go_wp2_with fail
  go_loopw [8] (fun i wr => ∃ (k : Nat), i = .int .i64 k ∧ k ≤ n ∧ Hid (tabIx M l k) ∧ Hid (w.grownBy wr none)) (fun i _ => n - (intOf i).toNat)
  case atStart => exact ⟨0, rfl, by omega, Lib.hid (fun i hi => by omega), Lib.hid (grown_refl6 _ _)⟩
  case round =>
    obtain ⟨k, rfl, hk, E, K⟩ := hrel
    by_cases hlt : k < n
    · obtain ⟨b, off, rfl, _, c0, c1, c2⟩ := (H.out.keep K.out (by simp)).at (i := k) (by rw [← Hn.out]; exact hlt)
      obtain ⟨x, hx⟩ : ∃ x, x = l.getD k default := ⟨_, rfl⟩
      rw [← hx] at c0 c1 c2
      have Hx := Lib.hid hx
      obtain ⟨xn, xa, xc, xl, xk⟩ := x
      generalize hxl : xl.length = xm at *
      simp only at c0 c1 c2
      clear hx
      have HC1 := Lib.hid (HC.out wr K.out xn xa xm xc xk)
      by_cases hm : (xn.toList == M.toList) = true
      · have HM := Lib.hid (show ((l.getD k default).n.toList == M.toList) = true by rw [← Hx.out]; exact hm)
        rw [hm] at HC1
        clear hm
        go_wp2_with fail
        refine HC1.out.mono ?_
        rintro e w2 ⟨rfl, hg⟩
        have K2 := Lib.hid (K.out.trans hg)
        clear hg
        go_wp2_with fail
        go_ret
        exact ⟨⟨k, rfl, .inr ⟨k, rfl, by rw [← Hn.out]; exact hlt, HM.out, E.out⟩⟩, K2.out⟩
      · have hm' : (xn.toList == M.toList) = false := by simpa using hm
        have E2 : Hid (tabIx M l (k + 1)) := Lib.hid fun i hi => by
          by_cases e : i = k
          · rw [e, ← Hx.out]; exact hm'
          · exact E.out i (by omega)
        rw [hm'] at HC1
        clear hm hm'
        go_wp2_with fail
        refine HC1.out.mono ?_
        rintro e w2 ⟨rfl, hg⟩
        have K2 := Lib.hid (K.out.trans hg)
        clear hg
        go_wp2_with fail
        go_roundw
        case rel => exact ⟨k + 1, by go_num, by omega, E2, K2⟩
        case measure => simp [intOf]; omega
    · obtain rfl : k = n := by omega
      go_wp2_with fail
      go_ret
      exact ⟨⟨-1, rfl, .inl ⟨rfl, by rw [← Hn.out]; exact E.out⟩⟩, K.out⟩
theorem ColsAt.mono {B B' : Nat} {w : World} {a : Option Addr} {l : List Cl} (h : ColsAt B w a l) (hB : B ≤ B') : ColsAt B' w a l := ⟨h.1, h.2.imp id fun ⟨b, off, e, hlt, hc⟩ => ⟨b, off, e, by omega, hc⟩⟩
theorem TabsAt.mono {B B' : Nat} {w : World} {a : Option Addr} {l : List Tb} (h : TabsAt B w a l) (hB : B ≤ B') : TabsAt B' w a l := ⟨h.1, fun t ht => (h.2.1 t ht).mono hB, h.2.2.imp id fun ⟨b, off, e, hlt, hc⟩ => ⟨b, off, e, by omega, hc⟩⟩
set_option maxHeartbeats 1600000 in
theorem tableOf_any (a : Option Addr) (cap : Nat) (l : List Tb) (M : ByteArray) (w : World) (h : TabsAt w.heap.size w a l) :
    Calls Tryz.prog 87 #[.slice a l.length cap, .string M] w fun e w' => (∃ r, e = .returned (.int .i64 r) ∧ TxIs M l r) ∧ w.grownBy w' none := by
  have hb : ∀ T, (w.alloc (.cells #[.string M] T)).cell? ⟨w.heap.size, 0, none⟩ = some (.string M) := fun T => cell_of_row _ _ 0 _ _ _ (heap_alloc_new w _)
  have HI := Lib.hid (fun T => indexTab_any a cap l M w.heap.size (w.alloc (.cells #[.string M] T)) ((h.keep (World.grownBy_alloc w _ none) (by simp)).mono (by simp)) (hb T))
  generalize l.length = n at *
  clear h
  go_enter Tryz.func87, Tryz.ntmps87
  go_wp2_with fail
  refine (HI.out _).mono ?_
  rintro e w2 ⟨⟨r, rfl, hr⟩, hg⟩
  have HR := Lib.hid hr
  have K2 := Lib.hid ((World.grownBy_alloc w _ none).trans hg)
  clear hg hr
  go_wp2_with fail
  go_ret
  exact ⟨⟨r, rfl, HR.out⟩, K2.out⟩
end Go.Proofs.YtnfpomjcofhppaaGreatDoor
namespace Go.Proofs.YtnfpomjcofhppaaGreatDoor
open Go.RowKit

/-- value.Compare at two values of rows. -/
theorem cmpV_any (x y : Vl) (w : World) :
    Calls Tryz.prog 94 #[.agg #[.int .i64 x.k, .int .i64 x.n, .string x.s], .agg #[.int .i64 y.k, .int .i64 y.n, .string y.s]] w fun e w' => e = .returned (.int .i64 (x.ord y)) ∧ Below w.heap.size w w' := compare_any x.k x.n x.s y.k y.n y.s w

theorem size_of_mem {w : World} {a : Option Addr} {l : List Vl} (h : RowAt w a l) {k : Nat} (hk : k < l.length) : (l.getD k default).s.size ≤ maxLen :=
  h.2.1 _ (by simp [List.getD, hk])

theorem ro_go {l m : List Vl} {k : Nat} (hro : rowsOrd l m = rowsOrd (l.drop k) (m.drop k)) (h : k < l.length) (h' : k < m.length) (hz : (l.getD k default).ord (m.getD k default) = 0) : rowsOrd l m = rowsOrd (l.drop (k + 1)) (m.drop (k + 1)) := by
  rw [hro, ro_step h h', if_neg (by omega)]
theorem ro_stop {l m : List Vl} {k : Nat} {x y : Vl} (hro : rowsOrd l m = rowsOrd (l.drop k) (m.drop k)) (h : k < l.length) (h' : k < m.length) (hx : l.getD k default = x) (hy : m.getD k default = y) (hz : ¬ x.ord y = 0) : rowsOrd l m = x.ord y := by
  rw [hro, ro_step h h', hx, hy, if_pos hz]

set_option maxHeartbeats 800000 in
theorem compareFunc_any (a a' : Option Addr) (cap cap' : Nat) (l m : List Vl) (w : World) (h : RowAt w a l) (h' : RowAt w a' m) :
    Calls Tryz.prog 93 #[.slice a l.length cap, .slice a' m.length cap', .func (.func 94) #[] #[]] w fun e w' => e = .returned (.int .i64 (rowsOrd l m)) ∧ Below w.heap.size w w' := by
  have hm := h.1
  have hm' := h'.1
  have H := Lib.hid h
  have H' := Lib.hid h'
  clear h h'
  generalize hlen : l.length = len at *
  have Hlen := Lib.hid hlen
  clear hlen
  generalize hlen' : m.length = len' at *
  have Hlen' := Lib.hid hlen'
  clear hlen'
  go_enter Tryz.func93, Tryz.ntmps93
  go_wp2
  go_loopw [13] (fun i wr => ∃ k : Nat, k ≤ len ∧ k ≤ len' ∧ i = .int .i64 k ∧ Hid (rowsOrd l m = rowsOrd (l.drop k) (m.drop k)) ∧ Below w.heap.size w wr) (fun i _ => len - (intOf i).toNat)
  case atStart => exact ⟨0, Nat.zero_le _, Nat.zero_le _, rfl, rfl, Below.refl _ _⟩
  case round =>
    obtain ⟨k, hk, hk', rfl, hro, hbl⟩ := hrel
    by_cases hlt : k < len
    · obtain ⟨b, off, rfl, hbs, c0, c1, c2⟩ := (H.out.keep hbl).at (i := k) (by rw [Hlen.out]; exact hlt)
      generalize hx : l.getD k default = x at *
      have Hx := Lib.hid hx
      clear hx
      by_cases hlt' : k < len'
      · obtain ⟨b', off', rfl, hbs', d0, d1, d2⟩ := (H'.out.keep hbl).at (i := k) (by rw [Hlen'.out]; exact hlt')
        generalize hy : m.getD k default = y at *
        have Hy := Lib.hid hy
        clear hy
        by_cases hz : x.ord y = 0
        · have HC : Hid (∀ w, Calls Tryz.prog 94 #[.agg #[.int .i64 x.k, .int .i64 x.n, .string x.s], .agg #[.int .i64 y.k, .int .i64 y.n, .string y.s]] w fun e w' => e = .returned (.int .i64 0) ∧ Below w.heap.size w w') := Lib.hid fun w => hz ▸ cmpV_any x y w
          have Hz := Lib.hid hz
          clear hz
          go_wp2_with fail
          refine (HC.out _).mono ?_
          rintro e w1 ⟨rfl, hb⟩
          go_wp2_with fail
          go_roundw
          case rel => exact ⟨k + 1, by omega, by omega, by go_num, ro_go hro.out (by rw [Hlen.out]; exact hlt) (by rw [Hlen'.out]; exact hlt') (by rw [Hx.out, Hy.out]; exact Hz.out), (hbl.trans (below2 wr _ _ |>.mono hbl.size)).trans (hb.mono (by have := hbl.size; simp; omega))⟩
          case measure => simp [intOf]; omega
        · have HC : Hid (∀ w, Calls Tryz.prog 94 #[.agg #[.int .i64 x.k, .int .i64 x.n, .string x.s], .agg #[.int .i64 y.k, .int .i64 y.n, .string y.s]] w fun e w' => e = .returned (.int .i64 (x.ord y)) ∧ Below w.heap.size w w') := Lib.hid fun w => cmpV_any x y w
          have hro2 : Hid (rowsOrd l m = x.ord y) := Lib.hid (ro_stop hro.out (by rw [Hlen.out]; exact hlt) (by rw [Hlen'.out]; exact hlt') Hx.out Hy.out hz)
          have hn : (x.ord y != 0) = true := by simpa using hz
          clear hz
          generalize x.ord y = z at *
          go_wp2_with fail
          refine (HC.out _).mono ?_
          rintro e w1 ⟨rfl, hb⟩
          go_wp2_with fail
          go_ret
          exact ⟨ret_int hro2.out.symm, (hbl.trans (below2 wr _ _ |>.mono hbl.size)).trans (hb.mono (by have := hbl.size; simp; omega))⟩
      · have hn : (len' : Int) ≤ k := by omega
        go_wp2_with fail
        go_ret
        exact ⟨ret_int (by rw [hro.out, ro_end (fun q => hlt' (by rw [Hlen'.out] at q; exact q.2)) (by rw [Hlen.out]; exact hk) (by rw [Hlen'.out]; exact hk'), Hlen.out, Hlen'.out]; unfold cmp3; rw [if_neg (by omega), if_pos (by omega)]), (hbl.alloc hbl.size _)⟩
    · obtain rfl : k = len := by omega
      by_cases hlt' : k < len'
      · go_wp2_with fail
        go_ret
        exact ⟨ret_int (by rw [hro.out, ro_end (fun q => hlt (by rw [Hlen.out] at q; exact q.1)) (by rw [Hlen.out]; exact hk) (by rw [Hlen'.out]; exact hk'), Hlen.out, Hlen'.out]; unfold cmp3; rw [if_pos (by omega)]), hbl⟩
      · obtain rfl : k = len' := by omega
        go_wp2_with fail
        go_ret
        exact ⟨ret_int (by rw [hro.out, ro_end (fun q => hlt (by rw [Hlen.out] at q; exact q.1)) (by rw [Hlen.out]; exact hk) (by rw [Hlen'.out]; exact hk'), Hlen.out, Hlen'.out]; unfold cmp3; rw [if_neg (by omega), if_neg (by omega)]), hbl⟩

theorem good_at {l : List Vl} (h : l.all Vl.good = true) {k : Nat} (hk : k < l.length) : (l.getD k default).good = true := by
  rw [List.all_eq_true] at h
  exact h _ (by simp [List.getD, hk])

set_option maxHeartbeats 800000 in
theorem refRows_any (a a' : Option Addr) (cap cap' : Nat) (l m : List Vl) (w : World) (h : RowAt w a l) (h' : RowAt w a' m) (hg : l.all Vl.good = true) (hg' : m.all Vl.good = true) :
    Calls Tryz.prog 33 #[.slice a l.length cap, .slice a' m.length cap'] w fun e w' => e = .returned (.int .i64 (rowsOrd l m)) ∧ Below w.heap.size w w' := by
  have hm := h.1
  have hm' := h'.1
  have H := Lib.hid h
  have H' := Lib.hid h'
  have HG := Lib.hid (fun k hk => good_at hg (k := k) hk)
  have HG' := Lib.hid (fun k hk => good_at hg' (k := k) hk)
  clear h h' hg hg'
  generalize hlen : l.length = len at *
  have Hlen := Lib.hid hlen
  clear hlen
  generalize hlen' : m.length = len' at *
  have Hlen' := Lib.hid hlen'
  clear hlen'
  go_enter Tryz.func33, Tryz.ntmps33
  go_wp2
  go_loopw [5] (fun i wr => ∃ k : Nat, k ≤ len ∧ k ≤ len' ∧ i = .int .i64 k ∧ Hid (rowsOrd l m = rowsOrd (l.drop k) (m.drop k)) ∧ Below w.heap.size w wr) (fun i _ => len - (intOf i).toNat)
  case atStart => exact ⟨0, Nat.zero_le _, Nat.zero_le _, rfl, rfl, Below.refl _ _⟩
  case round =>
    obtain ⟨k, hk, hk', rfl, hro, hbl⟩ := hrel
    by_cases hlt : k < len
    · by_cases hlt' : k < len'
      · obtain ⟨b, off, rfl, hbs, c0, c1, c2⟩ := (H.out.keep hbl).at (i := k) (by rw [Hlen.out]; exact hlt)
        obtain ⟨b', off', rfl, hbs', d0, d1, d2⟩ := (H'.out.keep hbl).at (i := k) (by rw [Hlen'.out]; exact hlt')
        have gx := HG.out k hlt
        have gy := HG'.out k hlt'
        have sx := size_of_mem H.out (k := k) (by rw [Hlen.out]; exact hlt)
        generalize hx : l.getD k default = x at *
        have Hx := Lib.hid hx
        clear hx
        generalize hy : m.getD k default = y at *
        have Hy := Lib.hid hy
        clear hy
        have hcv := fun w => ordC_ordV (ak := x.k) (an := x.n) (sa := x.s) (bk := y.k) (bn := y.n) (sb := y.s) gx gy ▸ refCompare_any x.k x.n x.s y.k y.n y.s w sx
        have HV : Hid (∀ w, Calls Tryz.prog 53 #[.agg #[.int .i64 x.k, .int .i64 x.n, .string x.s], .agg #[.int .i64 y.k, .int .i64 y.n, .string y.s]] w fun e w' => e = .returned (.int .i64 (x.ord y)) ∧ Below w.heap.size w w') := Lib.hid hcv
        clear hcv gx gy sx
        by_cases hz : x.ord y = 0
        · have HC : Hid (∀ w, Calls Tryz.prog 53 #[.agg #[.int .i64 x.k, .int .i64 x.n, .string x.s], .agg #[.int .i64 y.k, .int .i64 y.n, .string y.s]] w fun e w' => e = .returned (.int .i64 0) ∧ Below w.heap.size w w') := Lib.hid fun w => hz ▸ HV.out w
          have Hz := Lib.hid hz
          clear hz HV
          go_wp2_with fail
          go_region_held3 (fun w' => w'.cell? ⟨b, off + k * 3, none⟩ = some (.int .i64 x.k) ∧ w'.cell? ⟨b, off + k * 3 + 1, none⟩ = some (.int .i64 x.n) ∧ w'.cell? ⟨b, off + k * 3 + 2, none⟩ = some (.string x.s) ∧ w'.cell? ⟨b', off' + k * 3, none⟩ = some (.int .i64 y.k) ∧ w'.cell? ⟨b', off' + k * 3 + 1, none⟩ = some (.int .i64 y.n) ∧ w'.cell? ⟨b', off' + k * 3 + 2, none⟩ = some (.string y.s)) (first | go_keep | exact ⟨(hb.cell (p := ⟨b, _, none⟩) hbs).trans c0, (hb.cell (p := ⟨b, _, none⟩) hbs).trans c1, (hb.cell (p := ⟨b, _, none⟩) hbs).trans c2, (hb.cell (p := ⟨b', _, none⟩) hbs').trans d0, (hb.cell (p := ⟨b', _, none⟩) hbs').trans d1, (hb.cell (p := ⟨b', _, none⟩) hbs').trans d2⟩) ((go_at_call 53; refine (HC.out _).mono ?_; rintro e w1 ⟨rfl, hb⟩))
          go_wp2_with fail
          go_roundw
          case rel => exact ⟨k + 1, by omega, by omega, by go_num, ro_go hro.out (by rw [Hlen.out]; exact hlt) (by rw [Hlen'.out]; exact hlt') (by rw [Hx.out, Hy.out]; exact Hz.out), hbl.drew.trans (hb.mono hbl.size)⟩
          case measure => simp [intOf]; omega
        · have hro2 : Hid (rowsOrd l m = x.ord y) := Lib.hid (ro_stop hro.out (by rw [Hlen.out]; exact hlt) (by rw [Hlen'.out]; exact hlt') Hx.out Hy.out hz)
          have hn : (x.ord y != 0) = true := by simpa using hz
          have HC := HV
          clear hz HV
          generalize x.ord y = z at *
          go_wp2_with fail
          go_region_held3 (fun w' => w'.cell? ⟨b, off + k * 3, none⟩ = some (.int .i64 x.k) ∧ w'.cell? ⟨b, off + k * 3 + 1, none⟩ = some (.int .i64 x.n) ∧ w'.cell? ⟨b, off + k * 3 + 2, none⟩ = some (.string x.s) ∧ w'.cell? ⟨b', off' + k * 3, none⟩ = some (.int .i64 y.k) ∧ w'.cell? ⟨b', off' + k * 3 + 1, none⟩ = some (.int .i64 y.n) ∧ w'.cell? ⟨b', off' + k * 3 + 2, none⟩ = some (.string y.s)) (first | go_keep | exact ⟨(hb.cell (p := ⟨b, _, none⟩) hbs).trans c0, (hb.cell (p := ⟨b, _, none⟩) hbs).trans c1, (hb.cell (p := ⟨b, _, none⟩) hbs).trans c2, (hb.cell (p := ⟨b', _, none⟩) hbs').trans d0, (hb.cell (p := ⟨b', _, none⟩) hbs').trans d1, (hb.cell (p := ⟨b', _, none⟩) hbs').trans d2⟩) ((go_at_call 53; refine (HC.out _).mono ?_; rintro e w1 ⟨rfl, hb⟩))
          go_wp2_with fail
          go_ret
          exact ⟨ret_int hro2.out.symm, hbl.drew.trans (hb.mono hbl.size)⟩
      · go_wp2_with (go_at_call 54; refine (ints_any _ _ _).mono ?_; rintro e w' ⟨rfl, rfl⟩)
        go_ret
        exact ⟨ret_int (by rw [hro.out, ro_end (fun q => hlt' (by rw [Hlen'.out] at q; exact q.2)) (by rw [Hlen.out]; exact hk) (by rw [Hlen'.out]; exact hk'), Hlen.out, Hlen'.out]), hbl⟩
    · go_wp2_with (go_at_call 54; refine (ints_any _ _ _).mono ?_; rintro e w' ⟨rfl, rfl⟩)
      go_ret
      exact ⟨ret_int (by rw [hro.out, ro_end (fun q => hlt (by rw [Hlen.out] at q; exact q.1)) (by rw [Hlen.out]; exact hk) (by rw [Hlen'.out]; exact hk'), Hlen.out, Hlen'.out]), hbl⟩

/-- value.Rows and value.Same call the library's. -/
theorem rows_any (a a' : Option Addr) (cap cap' : Nat) (l m : List Vl) (w : World) (h : RowAt w a l) (h' : RowAt w a' m) :
    Calls Tryz.prog 79 #[.slice a l.length cap, .slice a' m.length cap'] w fun e w' => e = .returned (.int .i64 (rowsOrd l m)) ∧ Below w.heap.size w w' := by
  have HC := Lib.hid (compareFunc_any a a' cap cap' l m w h h')
  clear h h'
  generalize l.length = len at *
  generalize m.length = len' at *
  go_enter Tryz.func79, Tryz.ntmps79
  go_wp2_with (go_at_call 93; refine HC.out.mono ?_; rintro e w1 ⟨rfl, hb⟩)
  go_ret
  exact ⟨rfl, hb⟩

theorem ne_ro {l m : List Vl} (h : l ≠ m) : (rowsOrd l m == 0) = false := by
  rw [beq_eq_false_iff_ne]
  exact fun e => h ((ro_zero l m).1 e)
theorem eq_ro {l m : List Vl} (h : l = m) : (rowsOrd l m == 0) = true := by
  rw [beq_iff_eq]
  exact (ro_zero l m).2 h
theorem take_go {l m : List Vl} {k : Nat} (h : k < l.length) (h' : k < m.length) (ht : l.take k = m.take k) (hx : l.getD k default = m.getD k default) : l.take (k + 1) = m.take (k + 1) := by
  rw [List.take_succ_eq_append_getElem h, List.take_succ_eq_append_getElem h', ht]
  simp only [List.getD, List.getElem?_eq_getElem h, List.getElem?_eq_getElem h', Option.getD_some] at hx
  rw [hx]

set_option maxHeartbeats 800000 in
theorem equal_any (a a' : Option Addr) (cap cap' : Nat) (l m : List Vl) (w : World) (h : RowAt w a l) (h' : RowAt w a' m) :
    Calls Tryz.prog 82 #[.slice a l.length cap, .slice a' m.length cap'] w fun e w' => e = .returned (.bool (rowsOrd l m == 0)) ∧ Below w.heap.size w w' := by
  by_cases hll : l.length = m.length
  · have hm := h.1
    have H := Lib.hid h
    have H' := Lib.hid h'
    clear h h'
    rw [← hll]
    generalize hlen : l.length = len at *
    have Hlen := Lib.hid hlen
    have Hlen' := Lib.hid hll.symm
    clear hlen hll
    go_enter Tryz.func82, Tryz.ntmps82
    go_wp2
    go_loopw [13] (fun i wr => ∃ k : Nat, k ≤ len ∧ i = .int .i64 k ∧ Hid (l.take k = m.take k) ∧ Below w.heap.size w wr) (fun i _ => len - (intOf i).toNat)
    case atStart => exact ⟨0, Nat.zero_le _, rfl, rfl, Below.refl _ _⟩
    case round =>
      obtain ⟨k, hk, rfl, htk, hbl⟩ := hrel
      by_cases hlt : k < len
      · obtain ⟨b, off, rfl, hbs, c0, c1, c2⟩ := (H.out.keep hbl).at (i := k) (by rw [Hlen.out]; exact hlt)
        obtain ⟨b', off', rfl, hbs', d0, d1, d2⟩ := (H'.out.keep hbl).at (i := k) (by rw [Hlen'.out]; exact hlt)
        generalize hx : l.getD k default = x at *
        have Hx := Lib.hid hx
        clear hx
        generalize hy : m.getD k default = y at *
        have Hy := Lib.hid hy
        clear hy
        obtain ⟨xk, xn, xs⟩ := x
        obtain ⟨yk, yn, ys⟩ := y
        simp only at c0 c1 c2 d0 d1 d2
        by_cases hne : (⟨xk, xn, xs⟩ : Vl) = ⟨yk, yn, ys⟩
        · obtain ⟨rfl, rfl, rfl⟩ := Vl.mk.inj hne
          clear hne
          go_wp2_with fail
          go_quiet (fail)
          go_wp2_with fail
          go_roundw
          case rel => exact ⟨k + 1, by omega, by go_num, take_go (by rw [Hlen.out]; exact hlt) (by rw [Hlen'.out]; exact hlt) htk.out (by rw [Hx.out, Hy.out]), below_drewN hbl _⟩
          case measure => simp [intOf]; omega
        · have HNE := Lib.hid hne
          clear hne
          by_cases h1 : xk = yk
          · subst h1
            by_cases h2 : xn = yn
            · subst h2
              have h3 : ¬ xs.toList = ys.toList := fun h => HNE.out (by rw [bytes_ext (a := xs) (b := ys) (by rw [← Lib.toList_data, ← Lib.toList_data, h])])
              go_wp2_with fail
              go_quiet (fail)
              go_wp2_with fail
              go_ret
              exact ⟨ret_bool (ne_ro (fun e => HNE.out (by rw [← Hx.out, ← Hy.out, e]))).symm, below_drewN hbl _⟩
            · go_wp2_with fail
              go_quiet (fail)
              go_wp2_with fail
              go_ret
              exact ⟨ret_bool (ne_ro (fun e => HNE.out (by rw [← Hx.out, ← Hy.out, e]))).symm, below_drewN hbl _⟩
          · go_wp2_with fail
            go_quiet (fail)
            go_wp2_with fail
            go_ret
            exact ⟨ret_bool (ne_ro (fun e => HNE.out (by rw [← Hx.out, ← Hy.out, e]))).symm, below_drewN hbl _⟩
      · obtain rfl : k = len := by omega
        go_wp2_with fail
        go_ret
        exact ⟨ret_bool (eq_ro (by have := htk.out; rwa [List.take_of_length_le (by rw [Hlen.out]; exact Nat.le_refl _), List.take_of_length_le (by rw [Hlen'.out]; exact Nat.le_refl _)] at this)).symm, hbl⟩
  · have hne : (rowsOrd l m == 0) = false := ne_ro (fun e => hll (by rw [e]))
    rw [hne]
    have hd : ((l.length : Int) != (m.length : Int)) = true := by rw [bne_iff_ne]; omega
    clear h h' hne hll
    generalize l.length = len at *
    generalize m.length = len' at *
    go_enter Tryz.func82, Tryz.ntmps82
    go_wp2_with fail
    go_ret
    exact ⟨rfl, Below.refl _ _⟩

set_option maxHeartbeats 800000 in
theorem refSame_any (a a' : Option Addr) (cap cap' : Nat) (l m : List Vl) (w : World) (h : RowAt w a l) (h' : RowAt w a' m) :
    Calls Tryz.prog 14 #[.slice a l.length cap, .slice a' m.length cap'] w fun e w' => e = .returned (.bool (rowsOrd l m == 0)) ∧ Below w.heap.size w w' := by
  by_cases hll : l.length = m.length
  · have hm := h.1
    have H := Lib.hid h
    have H' := Lib.hid h'
    clear h h'
    rw [← hll]
    generalize hlen : l.length = len at *
    have Hlen := Lib.hid hlen
    have Hlen' := Lib.hid hll.symm
    clear hlen hll
    go_enter Tryz.func14, Tryz.ntmps14
    go_wp2
    go_loopw [13] (fun i wr => ∃ k : Nat, k ≤ len ∧ i = .int .i64 k ∧ Hid (l.take k = m.take k) ∧ Below w.heap.size w wr) (fun i _ => len - (intOf i).toNat)
    case atStart => exact ⟨0, Nat.zero_le _, rfl, rfl, Below.refl _ _⟩
    case round =>
      obtain ⟨k, hk, rfl, htk, hbl⟩ := hrel
      by_cases hlt : k < len
      · obtain ⟨b, off, rfl, hbs, c0, c1, c2⟩ := (H.out.keep hbl).at (i := k) (by rw [Hlen.out]; exact hlt)
        obtain ⟨b', off', rfl, hbs', d0, d1, d2⟩ := (H'.out.keep hbl).at (i := k) (by rw [Hlen'.out]; exact hlt)
        generalize hx : l.getD k default = x at *
        have Hx := Lib.hid hx
        clear hx
        generalize hy : m.getD k default = y at *
        have Hy := Lib.hid hy
        clear hy
        obtain ⟨xk, xn, xs⟩ := x
        obtain ⟨yk, yn, ys⟩ := y
        simp only at c0 c1 c2 d0 d1 d2
        by_cases hne : (⟨xk, xn, xs⟩ : Vl) = ⟨yk, yn, ys⟩
        · obtain ⟨rfl, rfl, rfl⟩ := Vl.mk.inj hne
          clear hne
          go_wp2_with fail
          go_quiet (fail)
          go_wp2_with fail
          go_roundw
          case rel => exact ⟨k + 1, by omega, by go_num, take_go (by rw [Hlen.out]; exact hlt) (by rw [Hlen'.out]; exact hlt) htk.out (by rw [Hx.out, Hy.out]), below_drewN hbl _⟩
          case measure => simp [intOf]; omega
        · have HNE := Lib.hid hne
          clear hne
          by_cases h1 : xk = yk
          · subst h1
            by_cases h2 : xn = yn
            · subst h2
              have h3 : ¬ xs.toList = ys.toList := fun h => HNE.out (by rw [bytes_ext (a := xs) (b := ys) (by rw [← Lib.toList_data, ← Lib.toList_data, h])])
              go_wp2_with fail
              go_quiet (fail)
              go_wp2_with fail
              go_ret
              exact ⟨ret_bool (ne_ro (fun e => HNE.out (by rw [← Hx.out, ← Hy.out, e]))).symm, below_drewN hbl _⟩
            · go_wp2_with fail
              go_quiet (fail)
              go_wp2_with fail
              go_ret
              exact ⟨ret_bool (ne_ro (fun e => HNE.out (by rw [← Hx.out, ← Hy.out, e]))).symm, below_drewN hbl _⟩
          · go_wp2_with fail
            go_quiet (fail)
            go_wp2_with fail
            go_ret
            exact ⟨ret_bool (ne_ro (fun e => HNE.out (by rw [← Hx.out, ← Hy.out, e]))).symm, below_drewN hbl _⟩
      · obtain rfl : k = len := by omega
        go_wp2_with fail
        go_ret
        exact ⟨ret_bool (eq_ro (by have := htk.out; rwa [List.take_of_length_le (by rw [Hlen.out]; exact Nat.le_refl _), List.take_of_length_le (by rw [Hlen'.out]; exact Nat.le_refl _)] at this)).symm, hbl⟩
  · have hne : (rowsOrd l m == 0) = false := ne_ro (fun e => hll (by rw [e]))
    rw [hne]
    have hd : ((l.length : Int) != (m.length : Int)) = true := by rw [bne_iff_ne]; omega
    clear h h' hne hll
    generalize l.length = len at *
    generalize m.length = len' at *
    go_enter Tryz.func14, Tryz.ntmps14
    go_wp2_with fail
    go_ret
    exact ⟨rfl, Below.refl _ _⟩
end Go.Proofs.YtnfpomjcofhppaaGreatDoor
