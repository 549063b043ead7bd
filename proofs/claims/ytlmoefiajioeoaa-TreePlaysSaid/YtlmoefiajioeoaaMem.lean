/- What a run leaves in memory: blocks that are new, cells that stay; rows of values in memory; the contract of the document's GoodRow and Int. -/
import Derived.Test.YtlmoefiajioeoaaOrdMath
import Derived.Deep.DeepCutAuto
import Derived.Lib.Hide
namespace Go.Proofs.Ytlmoefiajioeoaa
open Go.RowKit

/-- Three cells of a new block, behind a call that touched nothing old. -/
theorem kept3 {W w1 : World} {b : Nat} {v0 v1 v2 : Value} {T : TypeId} (hb : Below W.heap.size W w1) (hB : b < W.heap.size) (hcs : W.heap[b]? = some (.cells #[v0, v1, v2] T (0, 0))) :
    w1.cell? ⟨b, 0, none⟩ = some v0 ∧ w1.cell? ⟨b, 1, none⟩ = some v1 ∧ w1.cell? ⟨b, 2, none⟩ = some v2 ∧ w1.frozen? ⟨b, 0, none⟩ = false ∧ w1.frozen? ⟨b, 1, none⟩ = false ∧ w1.frozen? ⟨b, 2, none⟩ = false := by
  have e := (hb.block b hB).trans hcs
  simp [World.cell?, World.frozen?, e]
theorem heap_new (w : World) (o : Obj) : (w.alloc o).heap[w.heap.size]? = some o := by
  show (w.heap.push o)[w.heap.size]? = _
  simp
theorem heap_new3 (w : World) (o1 o2 o3 : Obj) : (((w.alloc o1).alloc o2).alloc o3).heap[w.heap.size + 1 + 1]? = some o3 := by
  simpa using heap_new ((w.alloc o1).alloc o2) o3

theorem heap_new3a (w : World) (o1 o2 o3 : Obj) : (((w.alloc o1).alloc o2).alloc o3).heap[w.heap.size]? = some o1 := by
  rw [Below.heap_alloc _ _ _ (by simp; omega), Below.heap_alloc _ _ _ (by simp)]
  exact heap_new w o1
theorem heap_new3b (w : World) (o1 o2 o3 : Obj) : (((w.alloc o1).alloc o2).alloc o3).heap[w.heap.size + 1]? = some o2 := by
  rw [Below.heap_alloc _ _ _ (by simp)]
  simpa using heap_new (w.alloc o1) o2

theorem below3 (w : World) (o1 o2 o3 : Obj) : Below w.heap.size w (((w.alloc o1).alloc o2).alloc o3) := (((Below.refl _ _).alloc (Nat.le_refl _) _).alloc (by simp) _).alloc (by simp; omega) _

theorem below_store3 {B b : Nat} {w w1 : World} (h : Below B w w1) (hb : B ≤ b) (u0 u1 u2 : Value) : Below B w (((w1.setCell ⟨b, 0, none⟩ u0).setCell ⟨b, 1, none⟩ u1).setCell ⟨b, 2, none⟩ u2) :=
  ((h.setCell (p := ⟨b, 0, none⟩) hb u0).setCell (p := ⟨b, 1, none⟩) hb u1).setCell (p := ⟨b, 2, none⟩) hb u2
theorem cells1 {w w1 : World} {v0 v1 v2 : Value} {T : TypeId} (hb : Below (w.alloc (.cells #[v0, v1, v2] T)).heap.size (w.alloc (.cells #[v0, v1, v2] T)) w1) :
    w1.cell? ⟨w.heap.size, 0, none⟩ = some v0 ∧ w1.cell? ⟨w.heap.size, 1, none⟩ = some v1 ∧ w1.cell? ⟨w.heap.size, 2, none⟩ = some v2 ∧ w.heap.size + 1 ≤ w1.heap.size ∧ Below w.heap.size w w1 := by
  obtain ⟨k0, k1, k2, _⟩ := kept3 (b := w.heap.size) hb (by simp) (heap_new _ _)
  have := hb.size
  simp only [World.size_alloc] at this
  exact ⟨k0, k1, k2, this, ((Below.refl _ _).alloc (Nat.le_refl _) _).trans (hb.mono (by simp))⟩

theorem cells1d {w w1 : World} {v0 v1 v2 : Value} {T : TypeId} (hb : Below (w.alloc (.cells #[v0, v1, v2] T)).drew.heap.size (w.alloc (.cells #[v0, v1, v2] T)).drew w1) :
    w1.cell? ⟨w.heap.size, 0, none⟩ = some v0 ∧ w1.cell? ⟨w.heap.size, 1, none⟩ = some v1 ∧ w1.cell? ⟨w.heap.size, 2, none⟩ = some v2 ∧ w.heap.size + 1 ≤ w1.heap.size ∧ Below w.heap.size w w1 :=
  cells1 (T := T) ((Below.refl _ _).drew.trans hb)

theorem cells2 {w w1 w2 : World} {b : Nat} {v0 v1 v2 : Value} (hs : b + 1 ≤ w1.heap.size) (h : w1.cell? ⟨b, 0, none⟩ = some v0 ∧ w1.cell? ⟨b, 1, none⟩ = some v1 ∧ w1.cell? ⟨b, 2, none⟩ = some v2) (hw : Below b w w1) (hb : Below w1.heap.size w1 w2) :
    w2.cell? ⟨b, 0, none⟩ = some v0 ∧ w2.cell? ⟨b, 1, none⟩ = some v1 ∧ w2.cell? ⟨b, 2, none⟩ = some v2 ∧ b + 1 ≤ w2.heap.size ∧ Below b w w2 := by
  have := hb.size
  exact ⟨(hb.cell (p := ⟨b, 0, none⟩) hs).trans h.1, (hb.cell (p := ⟨b, 1, none⟩) hs).trans h.2.1, (hb.cell (p := ⟨b, 2, none⟩) hs).trans h.2.2, by omega, hw.trans (hb.mono (by omega))⟩

/-- How far a run has come: nothing old has turned, and c blocks at least are new. -/
def Ran (w : World) (c : Nat) (w1 : World) : Prop := Below w.heap.size w w1 ∧ w.heap.size + c ≤ w1.heap.size
theorem Ran.step {w w1 w2 : World} {c : Nat} (h : Ran w c w1) (hb : Below w1.heap.size w1 w2) : Ran w c w2 :=
  ⟨h.1.trans (hb.mono (by have := h.2; omega)), by have := h.2; have := hb.size; omega⟩
theorem Ran.cell {w w1 w2 : World} {c : Nat} (h : Ran w c w1) (hb : Below w1.heap.size w1 w2) {b o : Nat} (hlt : b < w.heap.size + c) {v : Option Value} (hv : w1.cell? ⟨b, o, none⟩ = v) : w2.cell? ⟨b, o, none⟩ = v :=
  (hb.cell (p := ⟨b, o, none⟩) (by have := h.2; show b < _; omega)).trans hv

theorem keep9 {w w1 w2 : World} {v0 v1 v2 u0 u1 u2 x0 x1 x2 : Value}
    (K : Ran w 3 w1 ∧ w1.cell? ⟨w.heap.size, 0, none⟩ = some v0 ∧ w1.cell? ⟨w.heap.size, 1, none⟩ = some v1 ∧ w1.cell? ⟨w.heap.size, 2, none⟩ = some v2 ∧ w1.cell? ⟨w.heap.size + 1, 0, none⟩ = some u0 ∧ w1.cell? ⟨w.heap.size + 1, 1, none⟩ = some u1 ∧ w1.cell? ⟨w.heap.size + 1, 2, none⟩ = some u2 ∧ w1.cell? ⟨w.heap.size + 1 + 1, 0, none⟩ = some x0 ∧ w1.cell? ⟨w.heap.size + 1 + 1, 1, none⟩ = some x1 ∧ w1.cell? ⟨w.heap.size + 1 + 1, 2, none⟩ = some x2)
    (hb : Below w1.heap.size w1 w2) :
    Ran w 3 w2 ∧ w2.cell? ⟨w.heap.size, 0, none⟩ = some v0 ∧ w2.cell? ⟨w.heap.size, 1, none⟩ = some v1 ∧ w2.cell? ⟨w.heap.size, 2, none⟩ = some v2 ∧ w2.cell? ⟨w.heap.size + 1, 0, none⟩ = some u0 ∧ w2.cell? ⟨w.heap.size + 1, 1, none⟩ = some u1 ∧ w2.cell? ⟨w.heap.size + 1, 2, none⟩ = some u2 ∧ w2.cell? ⟨w.heap.size + 1 + 1, 0, none⟩ = some x0 ∧ w2.cell? ⟨w.heap.size + 1 + 1, 1, none⟩ = some x1 ∧ w2.cell? ⟨w.heap.size + 1 + 1, 2, none⟩ = some x2 := by
  obtain ⟨r, a0, a1, a2, b0, b1, b2, c0, c1, c2⟩ := K
  exact ⟨r.step hb, r.cell hb (by omega) a0, r.cell hb (by omega) a1, r.cell hb (by omega) a2, r.cell hb (by omega) b0, r.cell hb (by omega) b1, r.cell hb (by omega) b2, r.cell hb (by omega) c0, r.cell hb (by omega) c1, r.cell hb (by omega) c2⟩
theorem start9 (w : World) (v0 v1 v2 u0 u1 u2 x0 x1 x2 : Value) (T : TypeId) {W : World} (hW : W = ((w.alloc (.cells #[v0, v1, v2] T)).alloc (.cells #[u0, u1, u2] T)).alloc (.cells #[x0, x1, x2] T)) :
    Ran w 3 W ∧ W.cell? ⟨w.heap.size, 0, none⟩ = some v0 ∧ W.cell? ⟨w.heap.size, 1, none⟩ = some v1 ∧ W.cell? ⟨w.heap.size, 2, none⟩ = some v2 ∧ W.cell? ⟨w.heap.size + 1, 0, none⟩ = some u0 ∧ W.cell? ⟨w.heap.size + 1, 1, none⟩ = some u1 ∧ W.cell? ⟨w.heap.size + 1, 2, none⟩ = some u2 ∧ W.cell? ⟨w.heap.size + 1 + 1, 0, none⟩ = some x0 ∧ W.cell? ⟨w.heap.size + 1 + 1, 1, none⟩ = some x1 ∧ W.cell? ⟨w.heap.size + 1 + 1, 2, none⟩ = some x2 := by
  subst hW
  refine ⟨⟨below3 _ _ _ _, by simp⟩, ?_⟩
  have e0 := heap_new3a w (.cells #[v0, v1, v2] T) (.cells #[u0, u1, u2] T) (.cells #[x0, x1, x2] T)
  have e1 := heap_new3b w (.cells #[v0, v1, v2] T) (.cells #[u0, u1, u2] T) (.cells #[x0, x1, x2] T)
  have e2 := heap_new3 w (.cells #[v0, v1, v2] T) (.cells #[u0, u1, u2] T) (.cells #[x0, x1, x2] T)
  simp only [World.cell?, e0, e1, e2]
  simp

/-- value.Compare's answer under one name. -/
theorem cmpC_any (ak an : Int) (sa : ByteArray) (bk bn : Int) (sb : ByteArray) (w : World) :
    Calls Try.prog 60 #[.agg #[.int .i64 ak, .int .i64 an, .string sa], .agg #[.int .i64 bk, .int .i64 bn, .string sb]] w fun e w' => e = .returned (.int .i64 (ordC ak an sa bk bn sb)) ∧ Below w.heap.size w w' := compare_any ak an sa bk bn sb w

theorem keep6 {w w1 w2 : World} {v0 v1 v2 u0 u1 u2 : Value}
    (K : Ran w 2 w1 ∧ w1.cell? ⟨w.heap.size, 0, none⟩ = some v0 ∧ w1.cell? ⟨w.heap.size, 1, none⟩ = some v1 ∧ w1.cell? ⟨w.heap.size, 2, none⟩ = some v2 ∧ w1.cell? ⟨w.heap.size + 1, 0, none⟩ = some u0 ∧ w1.cell? ⟨w.heap.size + 1, 1, none⟩ = some u1 ∧ w1.cell? ⟨w.heap.size + 1, 2, none⟩ = some u2)
    (hb : Below w1.heap.size w1 w2) :
    Ran w 2 w2 ∧ w2.cell? ⟨w.heap.size, 0, none⟩ = some v0 ∧ w2.cell? ⟨w.heap.size, 1, none⟩ = some v1 ∧ w2.cell? ⟨w.heap.size, 2, none⟩ = some v2 ∧ w2.cell? ⟨w.heap.size + 1, 0, none⟩ = some u0 ∧ w2.cell? ⟨w.heap.size + 1, 1, none⟩ = some u1 ∧ w2.cell? ⟨w.heap.size + 1, 2, none⟩ = some u2 := by
  obtain ⟨r, a0, a1, a2, b0, b1, b2⟩ := K
  exact ⟨r.step hb, r.cell hb (by omega) a0, r.cell hb (by omega) a1, r.cell hb (by omega) a2, r.cell hb (by omega) b0, r.cell hb (by omega) b1, r.cell hb (by omega) b2⟩
theorem start6 (w : World) (v0 v1 v2 u0 u1 u2 : Value) (T : TypeId) :
    Ran w 2 ((w.alloc (.cells #[v0, v1, v2] T)).alloc (.cells #[u0, u1, u2] T)) ∧ ((w.alloc (.cells #[v0, v1, v2] T)).alloc (.cells #[u0, u1, u2] T)).cell? ⟨w.heap.size, 0, none⟩ = some v0 ∧ ((w.alloc (.cells #[v0, v1, v2] T)).alloc (.cells #[u0, u1, u2] T)).cell? ⟨w.heap.size, 1, none⟩ = some v1 ∧ ((w.alloc (.cells #[v0, v1, v2] T)).alloc (.cells #[u0, u1, u2] T)).cell? ⟨w.heap.size, 2, none⟩ = some v2 ∧ ((w.alloc (.cells #[v0, v1, v2] T)).alloc (.cells #[u0, u1, u2] T)).cell? ⟨w.heap.size + 1, 0, none⟩ = some u0 ∧ ((w.alloc (.cells #[v0, v1, v2] T)).alloc (.cells #[u0, u1, u2] T)).cell? ⟨w.heap.size + 1, 1, none⟩ = some u1 ∧ ((w.alloc (.cells #[v0, v1, v2] T)).alloc (.cells #[u0, u1, u2] T)).cell? ⟨w.heap.size + 1, 2, none⟩ = some u2 := by
  refine ⟨⟨below2 _ _ _, by simp⟩, ?_⟩
  have e0 : ((w.alloc (.cells #[v0, v1, v2] T)).alloc (.cells #[u0, u1, u2] T)).heap[w.heap.size]? = some (.cells #[v0, v1, v2] T) := by
    rw [Below.heap_alloc _ _ _ (by simp)]
    exact heap_new w _
  have e1 : ((w.alloc (.cells #[v0, v1, v2] T)).alloc (.cells #[u0, u1, u2] T)).heap[w.heap.size + 1]? = some (.cells #[u0, u1, u2] T) := by
    simpa using heap_new (w.alloc (.cells #[v0, v1, v2] T)) (.cells #[u0, u1, u2] T)
  simp only [World.cell?, e0, e1]
  simp
theorem keep3 {w w1 w2 : World} {v0 v1 v2 : Value}
    (K : Ran w 1 w1 ∧ w1.cell? ⟨w.heap.size, 0, none⟩ = some v0 ∧ w1.cell? ⟨w.heap.size, 1, none⟩ = some v1 ∧ w1.cell? ⟨w.heap.size, 2, none⟩ = some v2)
    (hb : Below w1.heap.size w1 w2) :
    Ran w 1 w2 ∧ w2.cell? ⟨w.heap.size, 0, none⟩ = some v0 ∧ w2.cell? ⟨w.heap.size, 1, none⟩ = some v1 ∧ w2.cell? ⟨w.heap.size, 2, none⟩ = some v2 := by
  obtain ⟨r, a0, a1, a2⟩ := K
  exact ⟨r.step hb, r.cell hb (by omega) a0, r.cell hb (by omega) a1, r.cell hb (by omega) a2⟩
theorem start3 (w : World) (v0 v1 v2 : Value) (T : TypeId) :
    Ran w 1 (w.alloc (.cells #[v0, v1, v2] T)) ∧ (w.alloc (.cells #[v0, v1, v2] T)).cell? ⟨w.heap.size, 0, none⟩ = some v0 ∧ (w.alloc (.cells #[v0, v1, v2] T)).cell? ⟨w.heap.size, 1, none⟩ = some v1 ∧ (w.alloc (.cells #[v0, v1, v2] T)).cell? ⟨w.heap.size, 2, none⟩ = some v2 := by
  refine ⟨⟨(Below.refl _ _).alloc (Nat.le_refl _) _, by simp⟩, ?_⟩
  simp only [World.cell?, heap_new]
  simp
/-- An int as a value. -/
def vi (n : Int) : Value := .agg #[.int .i64 2, .int .i64 n, .string ⟨#[]⟩]

set_option maxHeartbeats 400000 in
theorem refInt_any (n : Int) (w : World) :
    Calls Try.prog 28 #[.int .i64 n] w fun e w' => e = .returned (vi n) ∧ w.alloc (.cells #[.int .i64 2, .int .i64 n, .string ⟨#[]⟩] 36) = w' := by
  go_enter Try.func28, Try.ntmps28
  go_wp2
  exact bodyPost_ret (v := vi n) (by simp [results, Try.results28, go_sem, vi]) rfl ⟨rfl, rfl⟩

/-- A value by its three cells. -/
structure Vl where
  k : Int
  n : Int
  s : ByteArray
instance : Inhabited Vl := ⟨⟨0, 0, ⟨#[]⟩⟩⟩
def Vl.good (x : Vl) : Bool := goodB x.k x.n x.s
def Vl.ord (x y : Vl) : Int := ordC x.k x.n x.s y.k y.n y.s

/-- The slice at a of len values reads as l in w: nil and empty, or a row of cells that was there. -/
def RowAt (w : World) (a : Option Addr) (l : List Vl) : Prop :=
  l.length ≤ 9223372036854775807 ∧ (∀ x ∈ l, x.s.size ≤ maxLen) ∧ (l = [] ∨ ∃ b off, a = some ⟨b, off, none⟩ ∧ b < w.heap.size ∧ ∀ i, i < l.length → w.cell? ⟨b, off + i * 3, none⟩ = some (.int .i64 (l.getD i default).k) ∧ w.cell? ⟨b, off + i * 3 + 1, none⟩ = some (.int .i64 (l.getD i default).n) ∧ w.cell? ⟨b, off + i * 3 + 2, none⟩ = some (.string (l.getD i default).s))

theorem RowAt.keep {w w' : World} {a : Option Addr} {l : List Vl} (h : RowAt w a l) (hb : Below w.heap.size w w') : RowAt w' a l := by
  obtain ⟨h1, h2, h3⟩ := h
  refine ⟨h1, h2, ?_⟩
  rcases h3 with h3 | ⟨b, off, e, hlt, hc⟩
  · exact .inl h3
  · have := hb.size
    exact .inr ⟨b, off, e, by omega, fun i hi => ⟨(hb.cell (p := ⟨b, _, none⟩) hlt).trans (hc i hi).1, (hb.cell (p := ⟨b, _, none⟩) hlt).trans (hc i hi).2.1, (hb.cell (p := ⟨b, _, none⟩) hlt).trans (hc i hi).2.2⟩⟩
theorem RowAt.at {w : World} {a : Option Addr} {l : List Vl} (h : RowAt w a l) {i : Nat} (hi : i < l.length) : ∃ b off, a = some ⟨b, off, none⟩ ∧ b < w.heap.size ∧ w.cell? ⟨b, off + i * 3, none⟩ = some (.int .i64 (l.getD i default).k) ∧ w.cell? ⟨b, off + i * 3 + 1, none⟩ = some (.int .i64 (l.getD i default).n) ∧ w.cell? ⟨b, off + i * 3 + 2, none⟩ = some (.string (l.getD i default).s) := by
  rcases h.2.2 with h3 | ⟨b, off, e, hlt, hc⟩
  · rw [h3] at hi; simp at hi
  · exact ⟨b, off, e, hlt, hc i hi⟩

theorem all_stop {l : List Vl} {k : Nat} (h : k < l.length) (hf : (l.getD k default).good = false) : l.all Vl.good = false := by
  rw [List.all_eq_false]
  refine ⟨l.getD k default, ?_, by rw [hf]; simp⟩
  simp [List.getD, h]
theorem all_go {l : List Vl} {k : Nat} (h : k < l.length) (ha : (l.take k).all Vl.good = true) (hf : (l.getD k default).good = true) : (l.take (k + 1)).all Vl.good = true := by
  rw [List.take_succ_eq_append_getElem h, List.all_append, ha]
  simp only [List.getD, List.getElem?_eq_getElem h, Option.getD_some] at hf
  simp [hf]

set_option maxHeartbeats 400000 in
theorem goodRow_any (a : Option Addr) (cap : Nat) (l : List Vl) (w : World) (h : RowAt w a l) :
    Calls Try.prog 11 #[.slice a l.length cap] w fun e w' => e = .returned (.bool (l.all Vl.good)) ∧ Below w.heap.size w w' := by
  have hm := h.1
  have H := Lib.hid h
  clear h
  generalize hlen : l.length = len at *
  have Hlen := Lib.hid hlen
  clear hlen
  go_enter Try.func11, Try.ntmps11
  go_wp2
  go_loopw [6] (fun i wr => ∃ k : Nat, k ≤ len ∧ i = .int .i64 k ∧ Hid ((l.take k).all Vl.good = true) ∧ Below w.heap.size w wr) (fun i _ => len - (intOf i).toNat)
  case atStart => exact ⟨0, Nat.zero_le _, rfl, rfl, Below.refl _ _⟩
  case round =>
    obtain ⟨k, hk, rfl, hall, hbl⟩ := hrel
    by_cases hlt : k < len
    · obtain ⟨b, off, rfl, hbs, c0, c1, c2⟩ := (H.out.keep hbl).at (i := k) (by rw [Hlen.out]; exact hlt)
      generalize hx : l.getD k default = x at *
      have Hx := Lib.hid hx
      clear hx
      cases hg : x.good
      · have Hg := Lib.hid hg
        clear hg
        have HC : Hid (∀ w, Calls Try.prog 31 #[.agg #[.int .i64 x.k, .int .i64 x.n, .string x.s]] w fun e w' => e = .returned (.bool false) ∧ Below w.heap.size w w') := Lib.hid fun w => Hg.out ▸ refGood_any x.k x.n x.s w
        go_wp2_with fail
        refine (HC.out _).mono ?_
        rintro e w1 ⟨rfl, hb⟩
        go_wp2_with fail
        go_ret
        exact ⟨ret_bool (all_stop (by rw [Hlen.out]; exact hlt) (by rw [Hx.out]; exact Hg.out)).symm, hbl.trans (hb.mono hbl.size)⟩
      · have Hg := Lib.hid hg
        clear hg
        have HC : Hid (∀ w, Calls Try.prog 31 #[.agg #[.int .i64 x.k, .int .i64 x.n, .string x.s]] w fun e w' => e = .returned (.bool true) ∧ Below w.heap.size w w') := Lib.hid fun w => Hg.out ▸ refGood_any x.k x.n x.s w
        go_wp2_with fail
        refine (HC.out _).mono ?_
        rintro e w1 ⟨rfl, hb⟩
        go_wp2_with fail
        go_roundw
        case rel => exact ⟨k + 1, by omega, by go_num, all_go (by rw [Hlen.out]; exact hlt) hall.out (by rw [Hx.out]; exact Hg.out), hbl.trans (hb.mono hbl.size)⟩
        case measure => simp [intOf]; omega
    · obtain rfl : k = len := by omega
      go_wp2
      go_ret
      exact ⟨ret_bool (by have := hall.out; rw [List.take_of_length_le (by rw [Hlen.out]; exact Nat.le_refl _)] at this; exact this.symm), hbl⟩

/-- The order of two rows. -/
def rowsOrd : List Vl → List Vl → Int
  | [], [] => 0
  | [], _ :: _ => -1
  | _ :: _, [] => 1
  | x :: l, y :: m => if x.ord y ≠ 0 then x.ord y else rowsOrd l m
theorem drop_getD {l : List Vl} {k : Nat} (h : k < l.length) : l.drop k = l.getD k default :: l.drop (k + 1) := by
  rw [List.drop_eq_getElem_cons h]; simp [List.getD, h]
theorem ro_step {l m : List Vl} {k : Nat} (h : k < l.length) (h' : k < m.length) : rowsOrd (l.drop k) (m.drop k) = if (l.getD k default).ord (m.getD k default) ≠ 0 then (l.getD k default).ord (m.getD k default) else rowsOrd (l.drop (k + 1)) (m.drop (k + 1)) := by
  rw [drop_getD h, drop_getD h']; rfl
theorem ro_end {l m : List Vl} {k : Nat} (h : ¬ (k < l.length ∧ k < m.length)) (hk : k ≤ l.length) (hk' : k ≤ m.length) : rowsOrd (l.drop k) (m.drop k) = cmp3 (l.length : Int) (m.length : Int) := by
  unfold cmp3
  by_cases h1 : k < l.length
  · rw [drop_getD h1, List.drop_of_length_le (l := m) (by omega), if_neg (by omega), if_pos (by omega)]; rfl
  · by_cases h2 : k < m.length
    · rw [drop_getD h2, List.drop_of_length_le (l := l) (by omega), if_pos (by omega)]; rfl
    · rw [List.drop_of_length_le (l := l) (by omega), List.drop_of_length_le (l := m) (by omega), if_neg (by omega), if_neg (by omega)]; rfl
theorem Vl.ord_zero {x y : Vl} : x.ord y = 0 ↔ x = y := by
  unfold Vl.ord
  rw [ordC_zero]
  cases x; cases y; simp
theorem ro_range : ∀ l m : List Vl, -1 ≤ rowsOrd l m ∧ rowsOrd l m ≤ 1
  | [], [] => by simp [rowsOrd]
  | [], _ :: _ => by simp [rowsOrd]
  | _ :: _, [] => by simp [rowsOrd]
  | x :: l, y :: m => by
    have ih := ro_range l m
    have h := ordC_range x.k x.n x.s y.k y.n y.s
    simp only [rowsOrd]
    split
    · exact h
    · exact ih
theorem ro_turn : ∀ l m : List Vl, rowsOrd m l = - rowsOrd l m
  | [], [] => by simp [rowsOrd]
  | [], _ :: _ => by simp [rowsOrd]
  | _ :: _, [] => by simp [rowsOrd]
  | x :: l, y :: m => by
    have ih := ro_turn l m
    have h : y.ord x = - x.ord y := ordC_turn x.k x.n x.s y.k y.n y.s
    simp only [rowsOrd]
    rw [h, ih]
    by_cases hz : x.ord y = 0
    · rw [if_neg (by omega), if_neg (by omega)]
    · rw [if_pos (by omega), if_pos hz]
theorem ro_zero : ∀ l m : List Vl, rowsOrd l m = 0 ↔ l = m
  | [], [] => by simp [rowsOrd]
  | [], _ :: _ => by simp [rowsOrd]
  | _ :: _, [] => by simp [rowsOrd]
  | x :: l, y :: m => by
    have ih := ro_zero l m
    simp only [rowsOrd, List.cons.injEq]
    by_cases hz : x.ord y = 0
    · rw [if_neg (by omega), ih, Vl.ord_zero.1 hz]; simp
    · rw [if_pos hz]
      exact ⟨fun h => absurd h hz, fun h => absurd (Vl.ord_zero.2 h.1) hz⟩
end Go.Proofs.Ytlmoefiajioeoaa
