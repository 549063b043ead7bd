import Derived.Test.YtfambadamebjjaaZs33
import Derived.Test.YtfambadamebjjaaZs29
import Derived.Laws.AppendOwnNone
import Derived.Test.YtfambadamebjjaaZs14
import Derived.Test.YtfambadamebjjaaZs31
set_option linter.unusedSimpArgs false
set_option linter.unusedVariables false
namespace Go.Proofs.Ytfambadamebjjaa
open Go.RowKit

theorem flat_take {α : Type} [Inhabited α] (c : α → List Value) (l : List α) (k : Nat) (h : k < l.length) : (l.take (k + 1)).flatMap c = (l.take k).flatMap c ++ c (l.getD k default) := by
 rw [List.take_add_one, List.flatMap_append, List.getD_eq_getElem?_getD, List.getElem?_eq_getElem h]
 simp
theorem grown_onlyN {M : Nat → Prop} {w w' w'' : World} (h : w.grownBy w' none) (o : Only M w' w'') (hM : ∀ k, M k → w.heap.size ≤ k) : w.grownBy w'' none :=
 ⟨by first | exact h.os.trans o.os | exact o.os.trans h.os, by first | exact h.tape.trans o.tape | exact o.tape.trans h.tape, by first | exact h.output.trans o.output | exact o.output.trans h.output, Nat.le_trans h.size o.size, fun k hk _ => (o.block k (Nat.lt_of_lt_of_le hk h.size) (fun e => by have := hM k e; omega)).trans (h.block k hk (by simp))⟩
end Go.Proofs.Ytfambadamebjjaa
namespace Go.Proofs.Ytfambadamebjjaa
open Go.RowKit

theorem itm_ones (l : List Itm) : ∀ u ∈ l.flatMap Itm.c, u.oneCell' = true := by
 intro u hu
 rw [List.mem_flatMap] at hu
 obtain ⟨x, _, hx⟩ := hu
 simp only [Itm.c, List.mem_cons, List.not_mem_nil, or_false] at hx
 rcases hx with rfl | rfl | rfl <;> rfl
theorem CellsS.at {S : Nat → Prop} {w : World} {ad : Addr} {xs : List Value} (h : CellsS S w (some ad) xs) : ∀ j u, xs[j]? = some u → w.cell? (ad.add j) = some u := by
 intro j u hj
 rcases h with rfl | ⟨b, off, e, _, _, hc⟩
 ·simp at hj
 ·cases e
  rw [add_atT]
  exact hc j u hj
end Go.Proofs.Ytfambadamebjjaa
namespace Go.Proofs.Ytfambadamebjjaa
open Go.RowKit

theorem Win.nil_of {sz : Nat} {w : World} {a : Option Addr} {cap n : Nat} {xs : List Value} (h : Win sz w a cap n xs) : a = none → n = 0 ∧ cap = 0 := by
 intro e
 have := h.le
 rcases h.mem with h | ⟨_, _, h, _⟩
 ·exact ⟨by omega, h⟩
 ·rw [h] at e; cases e
theorem Win.at {sz : Nat} {w : World} {a : Option Addr} {cap n : Nat} {xs : List Value} (h : Win sz w a cap n xs) : ∀ ad, a = some ad → ∀ j u, xs[j]? = some u → w.cell? (ad.add j) = some u := by
 intro ad e j u hj
 have h1 := h.len
 have h2 := h.le
 rcases h.mem with hm | ⟨g, off, e2, hc, _⟩
 ·rw [List.eq_nil_of_length_eq_zero (l := xs) (by rw [h1, show n = 0 by omega]; simp)] at hj
  simp at hj
 ·rw [e2] at e; cases e
  rw [add_atT]
  exact hc j u hj
end Go.Proofs.Ytfambadamebjjaa
namespace Go.Proofs.Ytfambadamebjjaa
open Go.RowKit

def Cl.c (x : Cl) : List Value := [.string x.n, .int .i64 x.k, .bool x.b]
theorem Cl.c_len (x : Cl) : x.c.length = 3 := rfl
end Go.Proofs.Ytfambadamebjjaa
