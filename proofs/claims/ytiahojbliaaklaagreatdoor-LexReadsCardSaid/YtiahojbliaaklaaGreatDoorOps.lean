/- Contracts of Add, Sub, Mul and Neg at ints: what fits is told, and what is too much is told to be so. -/
import Derived.Test.YtiahojbliaaklaaGreatDoorReck
namespace Go.Proofs.YtiahojbliaaklaaGreatDoor
open Go.RowKit

/-- Three cells of a new block, behind a call that touched nothing old. -/
theorem kept3 {W w1 : World} {b : Nat} {v0 v1 v2 : Value} {T : TypeId} (hb : Below W.heap.size W w1) (hB : b < W.heap.size) (hcs : W.heap[b]? = some (.cells #[v0, v1, v2] T (0, 0))) :
    w1.cell? ⟨b, 0, none⟩ = some v0 ∧ w1.cell? ⟨b, 1, none⟩ = some v1 ∧ w1.cell? ⟨b, 2, none⟩ = some v2 ∧ w1.frozen? ⟨b, 0, none⟩ = false ∧ w1.frozen? ⟨b, 1, none⟩ = false ∧ w1.frozen? ⟨b, 2, none⟩ = false := by
  have e := (hb.block b hB).trans hcs
  simp [World.cell?, World.frozen?, e]
theorem heap_new (w : World) (o : Obj) : (w.alloc o).heap[w.heap.size]? = some o := by
  show (w.heap.push o)[w.heap.size]? = _
  simp
theorem heap_new3 (w : World) (o1 o2 o3 : Obj) : (((w.alloc o1).alloc o2).alloc o3).heap[w.heap.size + 1 + 1]? = some o3 := by
  simpa using heap_new ((w.alloc o1).alloc o2) o3

theorem heap_new3a (w : World) (o1 o2 o3 : Obj) : (((w.alloc o1).alloc o2).alloc o3).heap[w.heap.size]? = some o1 := by
  rw [Below.heap_alloc _ _ _ (by simp; omega), Below.heap_alloc _ _ _ (by simp)]
  exact heap_new w o1
theorem heap_new3b (w : World) (o1 o2 o3 : Obj) : (((w.alloc o1).alloc o2).alloc o3).heap[w.heap.size + 1]? = some o2 := by
  rw [Below.heap_alloc _ _ _ (by simp)]
  simpa using heap_new (w.alloc o1) o2

end Go.Proofs.YtiahojbliaaklaaGreatDoor
