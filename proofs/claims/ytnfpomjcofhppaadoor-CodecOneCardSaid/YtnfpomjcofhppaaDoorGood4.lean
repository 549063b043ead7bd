/- The contract of the law's good: rows of good values, not too long. -/
import Derived.Test.YtnfpomjcofhppaaDoorSame4
namespace Go.Proofs.YtnfpomjcofhppaaDoor
open Go.RowKit

/-- A row in memory: where, how many it may hold, its values. -/
structure Rw where
  a : Option Addr
  cap : Nat
  l : List Vl
instance : Inhabited Rw := ⟨⟨none, 0, []⟩⟩
def Rw.okR (r : Rw) : Bool := decide (r.l.length ≤ 255) && r.l.all Vl.good
/-- A slice of rows that reads as ls in w, all of it below B. -/
def RowsLow (B : Nat) (w : World) (a : Option Addr) (ls : List Rw) : Prop :=
  ls.length ≤ 9223372036854775807 ∧ (∀ r ∈ ls, RowLow B w r.a r.l) ∧ (ls = [] ∨ ∃ b off, a = some ⟨b, off, none⟩ ∧ b < B ∧ ∀ i, i < ls.length → w.cell? ⟨b, off + i, none⟩ = some (.slice (ls.getD i default).a (ls.getD i default).l.length (ls.getD i default).cap))
theorem RowsLow.keep {B : Nat} {w w' : World} {a : Option Addr} {ls : List Rw} (h : RowsLow B w a ls) (hb : Below B w w') : RowsLow B w' a ls := by
  obtain ⟨h1, h2, h3⟩ := h
  refine ⟨h1, fun r hr => (h2 r hr).keep hb, ?_⟩
  rcases h3 with h3 | ⟨b, off, e, hlt, hc⟩
  · exact .inl h3
  · exact .inr ⟨b, off, e, hlt, fun i hi => (hb.cell (p := ⟨b, _, none⟩) hlt).trans (hc i hi)⟩
theorem RowsLow.at {B : Nat} {w : World} {a : Option Addr} {ls : List Rw} (h : RowsLow B w a ls) {i : Nat} (hi : i < ls.length) : ∃ b off, a = some ⟨b, off, none⟩ ∧ b < B ∧ w.cell? ⟨b, off + i, none⟩ = some (.slice (ls.getD i default).a (ls.getD i default).l.length (ls.getD i default).cap) := by
  rcases h.2.2 with h3 | ⟨b, off, e, hlt, hc⟩
  · rw [h3] at hi; simp at hi
  · exact ⟨b, off, e, hlt, hc i hi⟩
theorem rw_mem {ls : List Rw} {i : Nat} (hi : i < ls.length) : ls.getD i default ∈ ls := by simp [List.getD, hi]
theorem rw_stop {l : List Rw} {k : Nat} (h : k < l.length) (hf : (l.getD k default).okR = false) : l.all Rw.okR = false := by
  rw [List.all_eq_false]
  exact ⟨l.getD k default, rw_mem h, by rw [hf]; simp⟩
theorem rw_go {l : List Rw} {k : Nat} (h : k < l.length) (ha : (l.take k).all Rw.okR = true) (hf : (l.getD k default).okR = true) : (l.take (k + 1)).all Rw.okR = true := by
  rw [List.take_succ_eq_append_getElem h, List.all_append, ha]
  simp only [List.getD, List.getElem?_eq_getElem h, Option.getD_some] at hf
  simp [hf]

end Go.Proofs.YtnfpomjcofhppaaDoor
