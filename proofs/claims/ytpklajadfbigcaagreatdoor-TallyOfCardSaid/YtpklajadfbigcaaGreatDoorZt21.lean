import Derived.Test.YtpklajadfbigcaaGreatDoorZt19
import Derived.Deep.RegionHeld
set_option linter.unusedSimpArgs false
set_option linter.unusedVariables false
namespace Go.Proofs.YtpklajadfbigcaaGreatDoor
open Go.RowKit

theorem holdsB_two {c : Cl} {v : Vv} (h : holdsB c v = true) : goodB v.k v.n v.s = true ∧ ((v.k != c.k) = false ∨ ((v.k != c.k) = true ∧ (v.k != 0) = false ∧ c.b = true)) := by
  unfold holdsB Vv.good at h
  simp only [Bool.and_eq_true, Bool.or_eq_true, decide_eq_true_eq] at h
  refine ⟨h.1, ?_⟩
  by_cases e : v.k = c.k
  · exact .inl (by simp [e])
  · obtain ⟨h1, h2⟩ := h.2.resolve_left e
    exact .inr ⟨by simpa using e, by simp [h1], h2⟩
end Go.Proofs.YtpklajadfbigcaaGreatDoor
