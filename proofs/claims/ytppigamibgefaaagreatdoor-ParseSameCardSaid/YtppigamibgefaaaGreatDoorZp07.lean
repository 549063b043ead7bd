/- Runs with one or two boxed arguments: what a law's boxes hold stays through every call that touches nothing old. Plain words on how a text is read as a value. No program is named. What a run leaves in memory: blocks that are new, cells that stay; rows of values in memory; the contract of the document's GoodRow and Int. -/
import Derived.Test.YtppigamibgefaaaGreatDoorZp06
import Derived.Test.YtppigamibgefaaaGreatDoorZp05
import Derived.Deep.DeepCutAuto
import Derived.Lib.Hide
namespace Go.Proofs.YtppigamibgefaaaGreatDoor
open Go.RowKit

theorem keep6 {w w1 w2 : World} {v0 v1 v2 u0 u1 u2 : Value}
    (K : Ran w 2 w1 ∧ w1.cell? ⟨w.heap.size, 0, none⟩ = some v0 ∧ w1.cell? ⟨w.heap.size, 1, none⟩ = some v1 ∧ w1.cell? ⟨w.heap.size, 2, none⟩ = some v2 ∧ w1.cell? ⟨w.heap.size + 1, 0, none⟩ = some u0 ∧ w1.cell? ⟨w.heap.size + 1, 1, none⟩ = some u1 ∧ w1.cell? ⟨w.heap.size + 1, 2, none⟩ = some u2)
    (hb : Below w1.heap.size w1 w2) :
    Ran w 2 w2 ∧ w2.cell? ⟨w.heap.size, 0, none⟩ = some v0 ∧ w2.cell? ⟨w.heap.size, 1, none⟩ = some v1 ∧ w2.cell? ⟨w.heap.size, 2, none⟩ = some v2 ∧ w2.cell? ⟨w.heap.size + 1, 0, none⟩ = some u0 ∧ w2.cell? ⟨w.heap.size + 1, 1, none⟩ = some u1 ∧ w2.cell? ⟨w.heap.size + 1, 2, none⟩ = some u2 := by
  obtain ⟨r, a0, a1, a2, b0, b1, b2⟩ := K
  exact ⟨r.step hb, r.cell hb (by omega) a0, r.cell hb (by omega) a1, r.cell hb (by omega) a2, r.cell hb (by omega) b0, r.cell hb (by omega) b1, r.cell hb (by omega) b2⟩
theorem start6 (w : World) (v0 v1 v2 u0 u1 u2 : Value) (T : TypeId) :
    Ran w 2 ((w.alloc (.cells #[v0, v1, v2] T)).alloc (.cells #[u0, u1, u2] T)) ∧ ((w.alloc (.cells #[v0, v1, v2] T)).alloc (.cells #[u0, u1, u2] T)).cell? ⟨w.heap.size, 0, none⟩ = some v0 ∧ ((w.alloc (.cells #[v0, v1, v2] T)).alloc (.cells #[u0, u1, u2] T)).cell? ⟨w.heap.size, 1, none⟩ = some v1 ∧ ((w.alloc (.cells #[v0, v1, v2] T)).alloc (.cells #[u0, u1, u2] T)).cell? ⟨w.heap.size, 2, none⟩ = some v2 ∧ ((w.alloc (.cells #[v0, v1, v2] T)).alloc (.cells #[u0, u1, u2] T)).cell? ⟨w.heap.size + 1, 0, none⟩ = some u0 ∧ ((w.alloc (.cells #[v0, v1, v2] T)).alloc (.cells #[u0, u1, u2] T)).cell? ⟨w.heap.size + 1, 1, none⟩ = some u1 ∧ ((w.alloc (.cells #[v0, v1, v2] T)).alloc (.cells #[u0, u1, u2] T)).cell? ⟨w.heap.size + 1, 2, none⟩ = some u2 := by
  refine ⟨⟨below2 _ _ _, by simp⟩, ?_⟩
  have e0 : ((w.alloc (.cells #[v0, v1, v2] T)).alloc (.cells #[u0, u1, u2] T)).heap[w.heap.size]? = some (.cells #[v0, v1, v2] T) := by
    rw [Below.heap_alloc _ _ _ (by simp)]
    exact heap_new w _
  have e1 : ((w.alloc (.cells #[v0, v1, v2] T)).alloc (.cells #[u0, u1, u2] T)).heap[w.heap.size + 1]? = some (.cells #[u0, u1, u2] T) := by
    simpa using heap_new (w.alloc (.cells #[v0, v1, v2] T)) (.cells #[u0, u1, u2] T)
  simp only [World.cell?, e0, e1]
  simp
theorem keep3 {w w1 w2 : World} {v0 v1 v2 : Value}
    (K : Ran w 1 w1 ∧ w1.cell? ⟨w.heap.size, 0, none⟩ = some v0 ∧ w1.cell? ⟨w.heap.size, 1, none⟩ = some v1 ∧ w1.cell? ⟨w.heap.size, 2, none⟩ = some v2)
    (hb : Below w1.heap.size w1 w2) :
    Ran w 1 w2 ∧ w2.cell? ⟨w.heap.size, 0, none⟩ = some v0 ∧ w2.cell? ⟨w.heap.size, 1, none⟩ = some v1 ∧ w2.cell? ⟨w.heap.size, 2, none⟩ = some v2 := by
  obtain ⟨r, a0, a1, a2⟩ := K
  exact ⟨r.step hb, r.cell hb (by omega) a0, r.cell hb (by omega) a1, r.cell hb (by omega) a2⟩
theorem start3 (w : World) (v0 v1 v2 : Value) (T : TypeId) :
    Ran w 1 (w.alloc (.cells #[v0, v1, v2] T)) ∧ (w.alloc (.cells #[v0, v1, v2] T)).cell? ⟨w.heap.size, 0, none⟩ = some v0 ∧ (w.alloc (.cells #[v0, v1, v2] T)).cell? ⟨w.heap.size, 1, none⟩ = some v1 ∧ (w.alloc (.cells #[v0, v1, v2] T)).cell? ⟨w.heap.size, 2, none⟩ = some v2 := by
  refine ⟨⟨(Below.refl _ _).alloc (Nat.le_refl _) _, by simp⟩, ?_⟩
  simp only [World.cell?, heap_new]
  simp
end Go.Proofs.YtppigamibgefaaaGreatDoor
namespace Go.Proofs.YtppigamibgefaaaGreatDoor
open Go.RowKit

/-- What a hexadecimal digit says. -/
def hexv (c : UInt8) : Option Nat := if 48 ≤ c.toNat ∧ c.toNat ≤ 57 then some (c.toNat - 48) else if 97 ≤ c.toNat ∧ c.toNat ≤ 102 then some (c.toNat - 87) else none
/-- What stands behind a backslash: the byte, and the rest. -/
def escL : List UInt8 → Option (UInt8 × List UInt8)
  | a :: b :: r => match hexv a, hexv b with
    | some h, some l => if plainB (16 * h + l) then none else some (UInt8.ofNat (16 * h + l), r)
    | _, _ => none
  | _ => none
/-- The first byte of a quoted text, and the rest. -/
def firstL : List UInt8 → Option (UInt8 × List UInt8)
  | [] => none
  | c :: r => if c = 92 then escL r else if c = 39 then (match r with | d :: r' => if d = 39 then some (39, r') else none | [] => none) else if plainB c.toNat then some (c, r) else none

theorem escL_len {l : List UInt8} {c : UInt8} {r : List UInt8} (h : escL l = some (c, r)) : l.length = r.length + 2 := by
  match l with
  | [] => simp [escL] at h
  | [_] => simp [escL] at h
  | a :: b :: t =>
    simp only [escL] at h
    split at h
    · split at h
      · cases h
      · simp only [Option.some.injEq, Prod.mk.injEq] at h
        simp [h.2]
    · cases h
theorem firstL_len {l : List UInt8} {c : UInt8} {r : List UInt8} (h : firstL l = some (c, r)) : r.length < l.length ∧ l.length ≤ r.length + 3 := by
  match l with
  | [] => simp [firstL] at h
  | a :: t =>
    simp only [firstL] at h
    split at h
    · have := escL_len h; simp only [List.length_cons]; omega
    · split at h
      · split at h
        · split at h
          · simp only [Option.some.injEq, Prod.mk.injEq] at h; simp [← h.2]; omega
          · cases h
        · cases h
      · split at h
        · simp only [Option.some.injEq, Prod.mk.injEq] at h; simp [← h.2]
        · cases h
/-- All bytes of a quoted text, behind the first quote, to the end. -/
def readB (l : List UInt8) : Option (List UInt8) :=
  if l = [39] then some [] else
    match _h : firstL l with
    | none => none
    | some (c, r) => (readB r).map (c :: ·)
termination_by l.length
decreasing_by exact (firstL_len (by assumption)).1
theorem readB_end : readB [39] = some [] := by rw [readB, if_pos rfl]
theorem readB_none {l : List UInt8} (h : l ≠ [39]) (hf : firstL l = none) : readB l = none := by
  rw [readB, if_neg h]
  split
  · rfl
  · rename_i c r e; rw [hf] at e; cases e
theorem readB_some {l r : List UInt8} {c : UInt8} (h : l ≠ [39]) (hf : firstL l = some (c, r)) : readB l = (readB r).map (c :: ·) := by
  rw [readB, if_neg h]
  split
  · rename_i e; rw [hf] at e; cases e
  · rename_i c' r' e; rw [hf] at e; cases e; rfl

/-- The digits of the alphabet, looked for: the place, or -1. -/
def hexI (c : UInt8) : Int := match hexv c with | some n => n | none => -1
theorem hex_index (c : UInt8) : Lib.indexByte [48, 49, 50, 51, 52, 53, 54, 55, 56, 57, 97, 98, 99, 100, 101, 102] c = hexI c := by
  have : ∀ i : Fin 256, Lib.indexByte [48, 49, 50, 51, 52, 53, 54, 55, 56, 57, 97, 98, 99, 100, 101, 102] (UInt8.ofNat i.val) = hexI (UInt8.ofNat i.val) := by decide +kernel
  have h := this ⟨c.toNat, c.toNat_lt⟩
  rwa [UInt8.ofNat_toNat] at h
theorem hexv_lt {c : UInt8} {n : Nat} (h : hexv c = some n) : n < 16 := by
  unfold hexv at h
  split at h
  · simp only [Option.some.injEq] at h; omega
  · split at h
    · simp only [Option.some.injEq] at h; omega
    · cases h
theorem hexI_some {c : UInt8} {n : Nat} (h : hexv c = some n) : hexI c = n := by unfold hexI; rw [h]
theorem hexI_none {c : UInt8} (h : hexv c = none) : hexI c = -1 := by unfold hexI; rw [h]
end Go.Proofs.YtppigamibgefaaaGreatDoor
namespace Go.Proofs.YtppigamibgefaaaGreatDoor
open Go.RowKit

/-- A value by its three cells. -/
structure Vl where
  k : Int
  n : Int
  s : ByteArray
instance : Inhabited Vl := ⟨⟨0, 0, ⟨#[]⟩⟩⟩
def Vl.good (x : Vl) : Bool := goodB x.k x.n x.s
def Vl.ord (x y : Vl) : Int := ordC x.k x.n x.s y.k y.n y.s

/-- The slice at a of len values reads as l in w: nil and empty, or a row of cells that was there. -/
def RowAt (w : World) (a : Option Addr) (l : List Vl) : Prop :=
  l.length ≤ 9223372036854775807 ∧ (∀ x ∈ l, x.s.size ≤ maxLen) ∧ (l = [] ∨ ∃ b off, a = some ⟨b, off, none⟩ ∧ b < w.heap.size ∧ ∀ i, i < l.length → w.cell? ⟨b, off + i * 3, none⟩ = some (.int .i64 (l.getD i default).k) ∧ w.cell? ⟨b, off + i * 3 + 1, none⟩ = some (.int .i64 (l.getD i default).n) ∧ w.cell? ⟨b, off + i * 3 + 2, none⟩ = some (.string (l.getD i default).s))

theorem RowAt.keep {w w' : World} {a : Option Addr} {l : List Vl} (h : RowAt w a l) (hb : Below w.heap.size w w') : RowAt w' a l := by
  obtain ⟨h1, h2, h3⟩ := h
  refine ⟨h1, h2, ?_⟩
  rcases h3 with h3 | ⟨b, off, e, hlt, hc⟩
  · exact .inl h3
  · have := hb.size
    exact .inr ⟨b, off, e, by omega, fun i hi => ⟨(hb.cell (p := ⟨b, _, none⟩) hlt).trans (hc i hi).1, (hb.cell (p := ⟨b, _, none⟩) hlt).trans (hc i hi).2.1, (hb.cell (p := ⟨b, _, none⟩) hlt).trans (hc i hi).2.2⟩⟩
theorem RowAt.at {w : World} {a : Option Addr} {l : List Vl} (h : RowAt w a l) {i : Nat} (hi : i < l.length) : ∃ b off, a = some ⟨b, off, none⟩ ∧ b < w.heap.size ∧ w.cell? ⟨b, off + i * 3, none⟩ = some (.int .i64 (l.getD i default).k) ∧ w.cell? ⟨b, off + i * 3 + 1, none⟩ = some (.int .i64 (l.getD i default).n) ∧ w.cell? ⟨b, off + i * 3 + 2, none⟩ = some (.string (l.getD i default).s) := by
  rcases h.2.2 with h3 | ⟨b, off, e, hlt, hc⟩
  · rw [h3] at hi; simp at hi
  · exact ⟨b, off, e, hlt, hc i hi⟩

theorem all_stop {l : List Vl} {k : Nat} (h : k < l.length) (hf : (l.getD k default).good = false) : l.all Vl.good = false := by
  rw [List.all_eq_false]
  refine ⟨l.getD k default, ?_, by rw [hf]; simp⟩
  simp [List.getD, h]
theorem all_go {l : List Vl} {k : Nat} (h : k < l.length) (ha : (l.take k).all Vl.good = true) (hf : (l.getD k default).good = true) : (l.take (k + 1)).all Vl.good = true := by
  rw [List.take_succ_eq_append_getElem h, List.all_append, ha]
  simp only [List.getD, List.getElem?_eq_getElem h, Option.getD_some] at hf
  simp [hf]

/-- The order of two rows. -/
def rowsOrd : List Vl → List Vl → Int
  | [], [] => 0
  | [], _ :: _ => -1
  | _ :: _, [] => 1
  | x :: l, y :: m => if x.ord y ≠ 0 then x.ord y else rowsOrd l m
theorem drop_getD {l : List Vl} {k : Nat} (h : k < l.length) : l.drop k = l.getD k default :: l.drop (k + 1) := by
  rw [List.drop_eq_getElem_cons h]; simp [List.getD, h]
theorem ro_step {l m : List Vl} {k : Nat} (h : k < l.length) (h' : k < m.length) : rowsOrd (l.drop k) (m.drop k) = if (l.getD k default).ord (m.getD k default) ≠ 0 then (l.getD k default).ord (m.getD k default) else rowsOrd (l.drop (k + 1)) (m.drop (k + 1)) := by
  rw [drop_getD h, drop_getD h']; rfl
theorem ro_end {l m : List Vl} {k : Nat} (h : ¬ (k < l.length ∧ k < m.length)) (hk : k ≤ l.length) (hk' : k ≤ m.length) : rowsOrd (l.drop k) (m.drop k) = cmp3 (l.length : Int) (m.length : Int) := by
  unfold cmp3
  by_cases h1 : k < l.length
  · rw [drop_getD h1, List.drop_of_length_le (l := m) (by omega), if_neg (by omega), if_pos (by omega)]; rfl
  · by_cases h2 : k < m.length
    · rw [drop_getD h2, List.drop_of_length_le (l := l) (by omega), if_pos (by omega)]; rfl
    · rw [List.drop_of_length_le (l := l) (by omega), List.drop_of_length_le (l := m) (by omega), if_neg (by omega), if_neg (by omega)]; rfl
theorem Vl.ord_zero {x y : Vl} : x.ord y = 0 ↔ x = y := by
  unfold Vl.ord
  rw [ordC_zero]
  cases x; cases y; simp
theorem ro_range : ∀ l m : List Vl, -1 ≤ rowsOrd l m ∧ rowsOrd l m ≤ 1
  | [], [] => by simp [rowsOrd]
  | [], _ :: _ => by simp [rowsOrd]
  | _ :: _, [] => by simp [rowsOrd]
  | x :: l, y :: m => by
    have ih := ro_range l m
    have h := ordC_range x.k x.n x.s y.k y.n y.s
    simp only [rowsOrd]
    split
    · exact h
    · exact ih
theorem ro_turn : ∀ l m : List Vl, rowsOrd m l = - rowsOrd l m
  | [], [] => by simp [rowsOrd]
  | [], _ :: _ => by simp [rowsOrd]
  | _ :: _, [] => by simp [rowsOrd]
  | x :: l, y :: m => by
    have ih := ro_turn l m
    have h : y.ord x = - x.ord y := ordC_turn x.k x.n x.s y.k y.n y.s
    simp only [rowsOrd]
    rw [h, ih]
    by_cases hz : x.ord y = 0
    · rw [if_neg (by omega), if_neg (by omega)]
    · rw [if_pos (by omega), if_pos hz]
theorem ro_zero : ∀ l m : List Vl, rowsOrd l m = 0 ↔ l = m
  | [], [] => by simp [rowsOrd]
  | [], _ :: _ => by simp [rowsOrd]
  | _ :: _, [] => by simp [rowsOrd]
  | x :: l, y :: m => by
    have ih := ro_zero l m
    simp only [rowsOrd, List.cons.injEq]
    by_cases hz : x.ord y = 0
    · rw [if_neg (by omega), ih, Vl.ord_zero.1 hz]; simp
    · rw [if_pos hz]
      exact ⟨fun h => absurd h hz, fun h => absurd (Vl.ord_zero.2 h.1) hz⟩
end Go.Proofs.YtppigamibgefaaaGreatDoor
