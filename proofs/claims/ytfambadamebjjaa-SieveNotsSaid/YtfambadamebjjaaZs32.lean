import Derived.Test.YtfambadamebjjaaZs30
import Derived.Test.YtfambadamebjjaaZs31
import Derived.Deep.LoopGhost
set_option linter.unusedSimpArgs false
set_option linter.unusedVariables false
namespace Go.Proofs.Ytfambadamebjjaa
open Go.RowKit

theorem Pm.c_8 : ∀ x : Pm, x.c[8]? = some x.ksl.v | .mk .. => rfl
theorem Psl.in.mono {S S' : Nat → Prop} {w : World} {x : Psl} (h : x.in S w) (hs : ∀ b, b < w.heap.size → S b → S' b) : x.in S' w := ⟨h.1.mono hs, h.2.1, h.2.2.mono hs⟩
theorem Win.fewer {sz : Nat} {w : World} {a : Option Addr} {cap n m : Nat} {xs ys : List Value} (h : Win sz w a cap n (xs ++ ys)) (hm : m ≤ n) (hx : xs.length = m * sz) : Win sz w a cap m xs :=
 ⟨hx, Nat.le_trans hm h.le, h.max, h.lt, h.mem.imp id fun ⟨g, off, e, hc, hs, hf⟩ => ⟨g, off, e, fun j u hj => hc j u (by
  rw [List.getElem?_append_left (List.getElem?_eq_some_iff.1 hj).1]; exact hj), hs, hf⟩⟩
theorem Psl.in.elem {S : Nat → Prop} {w : World} {x : Psl} (h : x.in S w) {i : Nat} (hi : i < x.l.length) : (∃ b off, x.a = some ⟨b, off, Option.none⟩ ∧ w.cell? ⟨b, off + i * 10 + 8, Option.none⟩ = some (x.l.getD i default).ksl.v) ∧ (x.l.getD i default).ksl.in S w := by
 obtain ⟨b, off, e, _, _, hc⟩ := h.1.elem Pm.c_len (by decide) hi
 refine ⟨⟨b, off, e, hc 8 _ (Pm.c_8 _)⟩, Pm.ksl_in ((PmSs_iff x.l).1 h.2.2 _ ?_)⟩
 rw [List.getD, List.getElem?_eq_getElem hi]; exact List.getElem_mem hi
end Go.Proofs.Ytfambadamebjjaa
namespace Go.Proofs.Ytfambadamebjjaa
open Go.RowKit

end Go.Proofs.Ytfambadamebjjaa
namespace Go.Proofs.Ytfambadamebjjaa
open Go.RowKit

end Go.Proofs.Ytfambadamebjjaa
namespace Go.Proofs.Ytfambadamebjjaa
open Go.RowKit

end Go.Proofs.Ytfambadamebjjaa
