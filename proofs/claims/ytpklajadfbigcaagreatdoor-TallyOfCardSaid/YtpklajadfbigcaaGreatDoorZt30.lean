import Derived.Test.YtpklajadfbigcaaGreatDoorZt28
import Derived.Test.YtpklajadfbigcaaGreatDoorZt29
import Derived.Deep.LoopGhost
set_option linter.unusedSimpArgs false
set_option linter.unusedVariables false
namespace Go.Proofs.YtpklajadfbigcaaGreatDoor
open Go.RowKit

theorem Pm.c_8 : ∀ x : Pm, x.c[8]? = some x.ksl.v | .mk .. => rfl
theorem Psl.in.mono {S S' : Nat → Prop} {w : World} {x : Psl} (h : x.in S w) (hs : ∀ b, b < w.heap.size → S b → S' b) : x.in S' w := ⟨h.1.mono hs, h.2.1, h.2.2.mono hs⟩
theorem Psl.in.elem {S : Nat → Prop} {w : World} {x : Psl} (h : x.in S w) {i : Nat} (hi : i < x.l.length) : (∃ b off, x.a = some ⟨b, off, Option.none⟩ ∧ w.cell? ⟨b, off + i * 10 + 8, Option.none⟩ = some (x.l.getD i default).ksl.v) ∧ (x.l.getD i default).ksl.in S w := by
  obtain ⟨b, off, e, _, _, hc⟩ := h.1.elem Pm.c_len (by decide) hi
  refine ⟨⟨b, off, e, hc 8 _ (Pm.c_8 _)⟩, Pm.ksl_in ((PmSs_iff x.l).1 h.2.2 _ ?_)⟩
  rw [List.getD, List.getElem?_eq_getElem hi]; exact List.getElem_mem hi
end Go.Proofs.YtpklajadfbigcaaGreatDoor
namespace Go.Proofs.YtpklajadfbigcaaGreatDoor
open Go.RowKit

end Go.Proofs.YtpklajadfbigcaaGreatDoor
namespace Go.Proofs.YtpklajadfbigcaaGreatDoor
open Go.RowKit

end Go.Proofs.YtpklajadfbigcaaGreatDoor
namespace Go.Proofs.YtpklajadfbigcaaGreatDoor
open Go.RowKit

end Go.Proofs.YtpklajadfbigcaaGreatDoor
namespace Go.Proofs.YtpklajadfbigcaaGreatDoor
open Go.RowKit

theorem win_cells {sz : Nat} {S : Nat → Prop} {w : World} {a : Ptr} {cap n : Nat} {xs : List Value} (h : Win sz w a cap n xs) (hS : ∀ k, bk a k → S k) : CellsS S w a xs := by
  rcases h.mem with e | ⟨g, off, e, hc, _, _⟩
  · have h1 := h.le
    have h2 := h.len
    obtain rfl : n = 0 := by omega
    exact .inl (List.eq_nil_of_length_eq_zero (by omega))
  · subst e
    exact .inr ⟨g, off, rfl, hS g rfl, h.lt g rfl, hc⟩
end Go.Proofs.YtpklajadfbigcaaGreatDoor
