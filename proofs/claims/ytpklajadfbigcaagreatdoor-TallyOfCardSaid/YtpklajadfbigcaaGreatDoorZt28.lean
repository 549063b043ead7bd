import Derived.Test.YtpklajadfbigcaaGreatDoorZt27
import Derived.Test.YtpklajadfbigcaaGreatDoorZt19
set_option linter.unusedSimpArgs false
set_option linter.unusedVariables false
namespace Go.Proofs.YtpklajadfbigcaaGreatDoor
open Go.RowKit

end Go.Proofs.YtpklajadfbigcaaGreatDoor
namespace Go.Proofs.YtpklajadfbigcaaGreatDoor
open Go.RowKit

theorem flat_len {α : Type} (c : α → List Value) (n : Nat) (hc : ∀ x, (c x).length = n) (l : List α) : (l.flatMap c).length = l.length * n := by
  induction l with
  | nil => simp
  | cons x l ih => rw [List.flatMap_cons, List.length_append, ih, hc, List.length_cons, Nat.add_mul, Nat.one_mul, Nat.add_comm]
theorem flat_at {α : Type} [Inhabited α] (c : α → List Value) (n : Nat) (hc : ∀ x, (c x).length = n) (l : List α) : ∀ i, i < l.length → ∀ j u, (c (l.getD i default))[j]? = some u → (l.flatMap c)[i * n + j]? = some u := by
  induction l with
  | nil => intro i hi; simp at hi
  | cons x l ih =>
    intro i hi j u hj
    rw [List.flatMap_cons]
    cases i with
    | zero =>
      have hlt : j < (c x).length := (List.getElem?_eq_some_iff.1 hj).1
      rw [List.getElem?_append_left (by omega), Nat.zero_mul, Nat.zero_add]
      exact hj
    | succ i =>
      rw [List.getElem?_append_right (by rw [hc, Nat.add_mul]; omega), hc, show (i + 1) * n + j - n = i * n + j by rw [Nat.add_mul]; omega]
      exact ih i (by simpa using hi) j u hj
theorem CellsS.elem {α : Type} [Inhabited α] {S : Nat → Prop} {w : World} {a : Ptr} {l : List α} {c : α → List Value} {n : Nat} (hc : ∀ x, (c x).length = n) (hn : 0 < n) (h : CellsS S w a (l.flatMap c)) {i : Nat} (hi : i < l.length) :
    ∃ b off, a = some ⟨b, off, Option.none⟩ ∧ S b ∧ b < w.heap.size ∧ ∀ j u, (c (l.getD i default))[j]? = some u → w.cell? ⟨b, off + i * n + j, Option.none⟩ = some u := by
  rcases h with h | ⟨b, off, e, hS, hlt, hcs⟩
  · have h1 := congrArg List.length h
    rw [flat_len c n hc, List.length_nil] at h1
    have := Nat.mul_pos (show 0 < l.length by omega) hn
    omega
  · exact ⟨b, off, e, hS, hlt, fun j u hj => by rw [Nat.add_assoc]; exact hcs _ _ (flat_at c n hc l i hi j u hj)⟩
theorem Itm.c_len (x : Itm) : x.c.length = 3 := rfl
theorem Kyo.c_len (x : Kyo) : x.c.length = 4 := rfl
end Go.Proofs.YtpklajadfbigcaaGreatDoor
namespace Go.Proofs.YtpklajadfbigcaaGreatDoor
open Go.RowKit

end Go.Proofs.YtpklajadfbigcaaGreatDoor
namespace Go.Proofs.YtpklajadfbigcaaGreatDoor
open Go.RowKit

end Go.Proofs.YtpklajadfbigcaaGreatDoor
namespace Go.Proofs.YtpklajadfbigcaaGreatDoor
open Go.RowKit

end Go.Proofs.YtpklajadfbigcaaGreatDoor
