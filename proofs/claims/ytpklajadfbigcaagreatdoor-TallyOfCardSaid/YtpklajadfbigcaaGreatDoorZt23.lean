import Derived.Test.YtpklajadfbigcaaGreatDoorZt20
import Derived.Test.YtpklajadfbigcaaGreatDoorZt22
import Derived.Test.YtpklajadfbigcaaGreatDoorZt13
import Derived.Deep.DeepCutAuto
import Derived.OwnWalk
import Derived.Test.YtpklajadfbigcaaGreatDoorZt11
import Derived.Test.YtpklajadfbigcaaGreatDoorZt14
set_option linter.unusedSimpArgs false
set_option linter.unusedVariables false
namespace Go.Proofs.YtpklajadfbigcaaGreatDoor
open Go.RowKit

end Go.Proofs.YtpklajadfbigcaaGreatDoor
namespace Go.Proofs.YtpklajadfbigcaaGreatDoor
open Go.RowKit

def tNull : List UInt8 := [78, 85, 76, 76]
def tTrue : List UInt8 := [84, 82, 85, 69]
def tFalse : List UInt8 := [70, 65, 76, 83, 69]
def signsL : List (List UInt8) := [[61], [60, 62], [60], [60, 61], [62], [62, 61], [42], [44], [40], [41]]
structure TkW (k : Nat) (x : List UInt8) : Prop where
  word : wordB x = true → k = 5
  sign : x ∈ signsL → k = 4
  lit : k = 2 ∨ k = 3 → readC x = 0
  only : readC x = 0 → k = 2 ∨ k = 3 ∨ (k = 5 ∧ (x = tNull ∨ x = tTrue ∨ x = tFalse))
  name : k = 1 → nameL x = true ∧ wordB x = false
  wordy : k = 5 → wordB x = true
  signy : k = 4 → x ∈ signsL
end Go.Proofs.YtpklajadfbigcaaGreatDoor
namespace Go.Proofs.YtpklajadfbigcaaGreatDoor
open Go.RowKit

theorem three_of {w : World} {b : Nat} {v0 v1 v2 : Value} {T : TypeId} (h : w.heap[b]? = some (.cells #[v0, v1, v2] T (0, 0))) : (w.cell? ⟨b, 0, none⟩ = some v0 ∧ w.cell? ⟨b, 1, none⟩ = some v1 ∧ w.cell? ⟨b, 2, none⟩ = some v2) ∧ w.frozen? ⟨b, 0, none⟩ = false ∧ w.frozen? ⟨b, 1, none⟩ = false ∧ w.frozen? ⟨b, 2, none⟩ = false := by
  have c0 := cell_of_row _ _ 0 _ _ _ h
  have c1 := cell_of_row _ _ 1 _ _ _ h
  have c2 := cell_of_row _ _ 2 _ _ _ h
  simp at c0 c1 c2
  exact ⟨⟨c0, c1, c2⟩, frozen_of_row _ _ 0 _ _ h, frozen_of_row _ _ 1 _ _ h, frozen_of_row _ _ 2 _ _ h⟩
theorem set3 {w : World} {b : Nat} {v0 v1 v2 u0 u1 u2 : Value} {T : TypeId} (h : w.heap[b]? = some (.cells #[v0, v1, v2] T (0, 0))) : (((w.setCell ⟨b, 0, none⟩ u0).setCell ⟨b, 1, none⟩ u1).setCell ⟨b, 2, none⟩ u2).heap[b]? = some (.cells #[u0, u1, u2] T (0, 0)) := by
  have h0 := heap_setCell_same _ _ 0 _ _ u0 h
  have h1 := heap_setCell_same _ _ 1 _ _ u1 h0
  have h2 := heap_setCell_same _ _ 2 _ _ u2 h1
  simpa using h2
theorem grown_set3 {w0 w : World} {row : Option Nat} (h : w0.grownBy w row) {b : Nat} (hb : w0.heap.size ≤ b) (u0 u1 u2 : Value) : w0.grownBy (((w.setCell ⟨b, 0, none⟩ u0).setCell ⟨b, 1, none⟩ u1).setCell ⟨b, 2, none⟩ u2) row :=
  grown_setnewX (grown_setnewX (grown_setnewX h hb 0 u0) hb 1 u1) hb 2 u2
theorem grown3 (w : World) (b : Nat) (u0 u1 u2 : Value) : w.grownBy (((w.setCell ⟨b, 0, none⟩ u0).setCell ⟨b, 1, none⟩ u1).setCell ⟨b, 2, none⟩ u2) (some b) :=
  grown_setX (grown_setX (grown_cellR w b 0 u0) 1 u1) 2 u2
theorem blk_grown {w w' : World} (h : w.grownBy w' none) {g : Nat} {o : Obj} (hg : w.heap[g]? = some o) : w'.heap[g]? = some o :=
  (h.block g (Array.getElem?_eq_some_iff.1 hg).1 (by simp)).trans hg
end Go.Proofs.YtpklajadfbigcaaGreatDoor
namespace Go.Proofs.YtpklajadfbigcaaGreatDoor
open Go.RowKit

end Go.Proofs.YtpklajadfbigcaaGreatDoor
namespace Go.Proofs.YtpklajadfbigcaaGreatDoor

end Go.Proofs.YtpklajadfbigcaaGreatDoor
