/- The law ValueOrder walked: true at any three values. -/
import Derived.Test.YtiahojbliaaklaaGreatDoorGoodLaw
import Derived.Test.YtiahojbliaaklaaGreatDoorOrdMath
namespace Go.Proofs.YtiahojbliaaklaaGreatDoor
open Go.RowKit

/-- How far a run has come: nothing old has turned, and c blocks at least are new. -/
def Ran (w : World) (c : Nat) (w1 : World) : Prop := Below w.heap.size w w1 ∧ w.heap.size + c ≤ w1.heap.size
theorem Ran.step {w w1 w2 : World} {c : Nat} (h : Ran w c w1) (hb : Below w1.heap.size w1 w2) : Ran w c w2 :=
  ⟨h.1.trans (hb.mono (by have := h.2; omega)), by have := h.2; have := hb.size; omega⟩
theorem Ran.cell {w w1 w2 : World} {c : Nat} (h : Ran w c w1) (hb : Below w1.heap.size w1 w2) {b o : Nat} (hlt : b < w.heap.size + c) {v : Option Value} (hv : w1.cell? ⟨b, o, none⟩ = v) : w2.cell? ⟨b, o, none⟩ = v :=
  (hb.cell (p := ⟨b, o, none⟩) (by have := h.2; show b < _; omega)).trans hv

theorem keep9 {w w1 w2 : World} {v0 v1 v2 u0 u1 u2 x0 x1 x2 : Value}
    (K : Ran w 3 w1 ∧ w1.cell? ⟨w.heap.size, 0, none⟩ = some v0 ∧ w1.cell? ⟨w.heap.size, 1, none⟩ = some v1 ∧ w1.cell? ⟨w.heap.size, 2, none⟩ = some v2 ∧ w1.cell? ⟨w.heap.size + 1, 0, none⟩ = some u0 ∧ w1.cell? ⟨w.heap.size + 1, 1, none⟩ = some u1 ∧ w1.cell? ⟨w.heap.size + 1, 2, none⟩ = some u2 ∧ w1.cell? ⟨w.heap.size + 1 + 1, 0, none⟩ = some x0 ∧ w1.cell? ⟨w.heap.size + 1 + 1, 1, none⟩ = some x1 ∧ w1.cell? ⟨w.heap.size + 1 + 1, 2, none⟩ = some x2)
    (hb : Below w1.heap.size w1 w2) :
    Ran w 3 w2 ∧ w2.cell? ⟨w.heap.size, 0, none⟩ = some v0 ∧ w2.cell? ⟨w.heap.size, 1, none⟩ = some v1 ∧ w2.cell? ⟨w.heap.size, 2, none⟩ = some v2 ∧ w2.cell? ⟨w.heap.size + 1, 0, none⟩ = some u0 ∧ w2.cell? ⟨w.heap.size + 1, 1, none⟩ = some u1 ∧ w2.cell? ⟨w.heap.size + 1, 2, none⟩ = some u2 ∧ w2.cell? ⟨w.heap.size + 1 + 1, 0, none⟩ = some x0 ∧ w2.cell? ⟨w.heap.size + 1 + 1, 1, none⟩ = some x1 ∧ w2.cell? ⟨w.heap.size + 1 + 1, 2, none⟩ = some x2 := by
  obtain ⟨r, a0, a1, a2, b0, b1, b2, c0, c1, c2⟩ := K
  exact ⟨r.step hb, r.cell hb (by omega) a0, r.cell hb (by omega) a1, r.cell hb (by omega) a2, r.cell hb (by omega) b0, r.cell hb (by omega) b1, r.cell hb (by omega) b2, r.cell hb (by omega) c0, r.cell hb (by omega) c1, r.cell hb (by omega) c2⟩
theorem start9 (w : World) (v0 v1 v2 u0 u1 u2 x0 x1 x2 : Value) (T : TypeId) {W : World} (hW : W = ((w.alloc (.cells #[v0, v1, v2] T)).alloc (.cells #[u0, u1, u2] T)).alloc (.cells #[x0, x1, x2] T)) :
    Ran w 3 W ∧ W.cell? ⟨w.heap.size, 0, none⟩ = some v0 ∧ W.cell? ⟨w.heap.size, 1, none⟩ = some v1 ∧ W.cell? ⟨w.heap.size, 2, none⟩ = some v2 ∧ W.cell? ⟨w.heap.size + 1, 0, none⟩ = some u0 ∧ W.cell? ⟨w.heap.size + 1, 1, none⟩ = some u1 ∧ W.cell? ⟨w.heap.size + 1, 2, none⟩ = some u2 ∧ W.cell? ⟨w.heap.size + 1 + 1, 0, none⟩ = some x0 ∧ W.cell? ⟨w.heap.size + 1 + 1, 1, none⟩ = some x1 ∧ W.cell? ⟨w.heap.size + 1 + 1, 2, none⟩ = some x2 := by
  subst hW
  refine ⟨⟨below3 _ _ _ _, by simp⟩, ?_⟩
  have e0 := heap_new3a w (.cells #[v0, v1, v2] T) (.cells #[u0, u1, u2] T) (.cells #[x0, x1, x2] T)
  have e1 := heap_new3b w (.cells #[v0, v1, v2] T) (.cells #[u0, u1, u2] T) (.cells #[x0, x1, x2] T)
  have e2 := heap_new3 w (.cells #[v0, v1, v2] T) (.cells #[u0, u1, u2] T) (.cells #[x0, x1, x2] T)
  simp only [World.cell?, e0, e1, e2]
  simp

end Go.Proofs.YtiahojbliaaklaaGreatDoor
