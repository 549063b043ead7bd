/- The law ValueGood walked: true at every value, whatever its cells. -/
import Derived.Test.YtiahojbliaaklaaGreatDoorAwake
import Derived.Test.YtiahojbliaaklaaGreatDoorGoodP
namespace Go.Proofs.YtiahojbliaaklaaGreatDoor
open Go.RowKit

theorem cells1 {w w1 : World} {v0 v1 v2 : Value} {T : TypeId} (hb : Below (w.alloc (.cells #[v0, v1, v2] T)).heap.size (w.alloc (.cells #[v0, v1, v2] T)) w1) :
    w1.cell? ⟨w.heap.size, 0, none⟩ = some v0 ∧ w1.cell? ⟨w.heap.size, 1, none⟩ = some v1 ∧ w1.cell? ⟨w.heap.size, 2, none⟩ = some v2 ∧ w.heap.size + 1 ≤ w1.heap.size ∧ Below w.heap.size w w1 := by
  obtain ⟨k0, k1, k2, _⟩ := kept3 (b := w.heap.size) hb (by simp) (heap_new _ _)
  have := hb.size
  simp only [World.size_alloc] at this
  exact ⟨k0, k1, k2, this, ((Below.refl _ _).alloc (Nat.le_refl _) _).trans (hb.mono (by simp))⟩

theorem cells1d {w w1 : World} {v0 v1 v2 : Value} {T : TypeId} (hb : Below (w.alloc (.cells #[v0, v1, v2] T)).drew.heap.size (w.alloc (.cells #[v0, v1, v2] T)).drew w1) :
    w1.cell? ⟨w.heap.size, 0, none⟩ = some v0 ∧ w1.cell? ⟨w.heap.size, 1, none⟩ = some v1 ∧ w1.cell? ⟨w.heap.size, 2, none⟩ = some v2 ∧ w.heap.size + 1 ≤ w1.heap.size ∧ Below w.heap.size w w1 :=
  cells1 (T := T) ((Below.refl _ _).drew.trans hb)

theorem cells2 {w w1 w2 : World} {b : Nat} {v0 v1 v2 : Value} (hs : b + 1 ≤ w1.heap.size) (h : w1.cell? ⟨b, 0, none⟩ = some v0 ∧ w1.cell? ⟨b, 1, none⟩ = some v1 ∧ w1.cell? ⟨b, 2, none⟩ = some v2) (hw : Below b w w1) (hb : Below w1.heap.size w1 w2) :
    w2.cell? ⟨b, 0, none⟩ = some v0 ∧ w2.cell? ⟨b, 1, none⟩ = some v1 ∧ w2.cell? ⟨b, 2, none⟩ = some v2 ∧ b + 1 ≤ w2.heap.size ∧ Below b w w2 := by
  have := hb.size
  exact ⟨(hb.cell (p := ⟨b, 0, none⟩) hs).trans h.1, (hb.cell (p := ⟨b, 1, none⟩) hs).trans h.2.1, (hb.cell (p := ⟨b, 2, none⟩) hs).trans h.2.2, by omega, hw.trans (hb.mono (by omega))⟩

end Go.Proofs.YtiahojbliaaklaaGreatDoor
