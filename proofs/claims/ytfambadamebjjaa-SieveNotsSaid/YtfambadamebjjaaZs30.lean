import Derived.Test.YtfambadamebjjaaZs29
import Derived.Test.YtfambadamebjjaaZs19
set_option linter.unusedSimpArgs false
set_option linter.unusedVariables false
namespace Go.Proofs.Ytfambadamebjjaa
open Go.RowKit

theorem win_rw {S : Nat → Prop} {w : World} {a : Ptr} {cap : Nat} {l : List Vl} (h : Win 3 w a cap l.length (l.flatMap vCT)) (hS : ∀ k, bk a k → S k) (hl : l.length ≤ 4294967296) (hs : ∀ x ∈ l, x.s.size ≤ maxLen) : RwS S w a l := by
 refine ⟨hl, hs, ?_⟩
 rcases h.mem with h0 | ⟨g, off, e, hc, _, _⟩
 ·have := h.le
  exact .inl (List.eq_nil_of_length_eq_zero (by omega))
 ·refine .inr ⟨g, off, e, hS g (by rw [e, bk_some]), h.lt g (by rw [e, bk_some]), fun i hi => ?_⟩
  obtain ⟨k0, k1, k2⟩ := vCT_at l i hi
  exact ⟨hc _ _ k0, hc _ _ k1, hc _ _ k2⟩
theorem textRes_size (o : Option (List UInt8)) : ∃ k n t c, textRes o = .tuple #[.agg #[.int .i64 k, .int .i64 n, .string t], .int .i64 c] ∧ t.size ≤ 60 := by
 unfold textRes
 cases o with
 | none => exact ⟨_, _, _, _, rfl, Nat.zero_le 60⟩
 | some l =>
  simp only
  split
  ·rename_i h
   exact ⟨_, _, _, _, rfl, by show l.toArray.size ≤ 60; simpa using h⟩
  ·exact ⟨_, _, _, _, rfl, Nat.zero_le 60⟩
theorem intRes_size (l : List UInt8) : ∃ k n t c, intRes l = .tuple #[.agg #[.int .i64 k, .int .i64 n, .string t], .int .i64 c] ∧ t.size ≤ 60 := by
 unfold intRes
 split
 ·split <;> exact ⟨_, _, _, _, rfl, Nat.zero_le 60⟩
 ·exact ⟨_, _, _, _, rfl, Nat.zero_le 60⟩
theorem readV_size (l : List UInt8) : ∃ k n t c, readV l = .tuple #[.agg #[.int .i64 k, .int .i64 n, .string t], .int .i64 c] ∧ t.size ≤ 60 := by
 unfold readV
 split
 ·exact ⟨_, _, _, _, rfl, Nat.zero_le 60⟩
 ·split
  ·exact ⟨_, _, _, _, rfl, Nat.zero_le 60⟩
  ·split
   ·exact ⟨_, _, _, _, rfl, Nat.zero_le 60⟩
   ·match l with
    | [] => exact intRes_size []
    | c :: r =>
     simp only
     split
     ·exact textRes_size _
     ·exact intRes_size _
theorem litV_size (t : ByteArray) : (litV t).s.size ≤ 60 := by
 obtain ⟨k, n, x, c, h, hs⟩ := readV_size t.data.toList
 unfold litV
 rw [h]
 exact hs
theorem lit_size (s : RS) : s.literal.2.s.size ≤ 60 := by
 unfold RS.literal
 split
 ·exact litV_size _
 ·exact Nat.zero_le 60
def asC (col : ByteArray) (pos : Nat) : Array Value := #[.int .i64 0, .string col, .int .i64 0, .int .i64 0, .int .i64 0, .string ⟨#[]⟩, .string ⟨#[]⟩, .slice Option.none 0 0, .slice Option.none 0 0, .int .i64 pos]
end Go.Proofs.Ytfambadamebjjaa
namespace Go.Proofs.Ytfambadamebjjaa
open Go.RowKit

theorem ten_of {w : World} {b : Nat} {v0 v1 v2 v3 v4 v5 v6 v7 v8 v9 : Value} {T : TypeId} (h : w.heap[b]? = some (.cells #[v0, v1, v2, v3, v4, v5, v6, v7, v8, v9] T (0, 0))) : (w.cell? ⟨b, 0, none⟩ = some v0 ∧ w.cell? ⟨b, 1, none⟩ = some v1 ∧ w.cell? ⟨b, 2, none⟩ = some v2 ∧ w.cell? ⟨b, 3, none⟩ = some v3 ∧ w.cell? ⟨b, 4, none⟩ = some v4) ∧ (w.cell? ⟨b, 5, none⟩ = some v5 ∧ w.cell? ⟨b, 6, none⟩ = some v6 ∧ w.cell? ⟨b, 7, none⟩ = some v7 ∧ w.cell? ⟨b, 8, none⟩ = some v8 ∧ w.cell? ⟨b, 9, none⟩ = some v9) := by
 have c0 := cell_of_row _ _ 0 _ _ _ h
 have c1 := cell_of_row _ _ 1 _ _ _ h
 have c2 := cell_of_row _ _ 2 _ _ _ h
 have c3 := cell_of_row _ _ 3 _ _ _ h
 have c4 := cell_of_row _ _ 4 _ _ _ h
 have c5 := cell_of_row _ _ 5 _ _ _ h
 have c6 := cell_of_row _ _ 6 _ _ _ h
 have c7 := cell_of_row _ _ 7 _ _ _ h
 have c8 := cell_of_row _ _ 8 _ _ _ h
 have c9 := cell_of_row _ _ 9 _ _ _ h
 simp at c0 c1 c2 c3 c4 c5 c6 c7 c8 c9
 exact ⟨⟨c0, c1, c2, c3, c4⟩, c5, c6, c7, c8, c9⟩
theorem cells_block {S : Nat → Prop} {w : World} {g : Nat} {xs : List Value} {T : TypeId} (h : w.heap[g]? = some (.cells xs.toArray T (0, 0))) (hS : S g) : CellsS S w (some ⟨g, 0, Option.none⟩) xs :=
 .inr ⟨g, 0, rfl, hS, (Array.getElem?_eq_some_iff.1 h).1, fun j u hj => by
  rw [Nat.zero_add, cell_of_row _ _ j _ _ _ h]
  simpa using hj⟩
def cmpC (col : ByteArray) (r : Nat) (k n : Int) (t : ByteArray) (pos : Nat) : Array Value := #[.int .i64 3, .string col, .int .i64 r, .int .i64 k, .int .i64 n, .string t, .string ⟨#[]⟩, .slice Option.none 0 0, .slice Option.none 0 0, .int .i64 pos]
theorem set5 {w : World} {g : Nat} {col : ByteArray} {pos r : Nat} {k n : Int} {t : ByteArray} (h : w.heap[g]? = some (.cells (asC col pos) 34 (0, 0))) : (((((w.setCell ⟨g, 0, none⟩ (.int .i64 3)).setCell ⟨g, 2, none⟩ (.int .i64 r)).setCell ⟨g, 3, none⟩ (.int .i64 k)).setCell ⟨g, 4, none⟩ (.int .i64 n)).setCell ⟨g, 5, none⟩ (.string t)).heap[g]? = some (.cells (cmpC col r k n t pos) 34 (0, 0)) := by
 have h0 := heap_setCell_same _ _ 0 _ _ (.int .i64 3) h
 have h1 := heap_setCell_same _ _ 2 _ _ (.int .i64 r) h0
 have h2 := heap_setCell_same _ _ 3 _ _ (.int .i64 k) h1
 have h3 := heap_setCell_same _ _ 4 _ _ (.int .i64 n) h2
 have h4 := heap_setCell_same _ _ 5 _ _ (.string t) h3
 simpa [asC, cmpC] using h4
end Go.Proofs.Ytfambadamebjjaa
namespace Go.Proofs.Ytfambadamebjjaa
open Go.RowKit

end Go.Proofs.Ytfambadamebjjaa
namespace Go.Proofs.Ytfambadamebjjaa
open Go.RowKit

end Go.Proofs.Ytfambadamebjjaa
