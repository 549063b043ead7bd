/- How a slice of ints is opened, with what may be said of its capacity. -/
import Derived.Test.YtiahfdlmjfpglaaDoorWFrame
namespace Go.Proofs.YtiahfdlmjfpglaaDoor
open Go.ChangeShapes Go.WideShapes Go.ChangeAt Go.RowKit Go.Joins
open Go.Deep

section
variable {H : Type} {enc : TypeId × Value → H}
set_option maxRecDepth 100000 in
theorem open_ints4 {W : World} {b0 : Nat} {v : Value} {d : DataW H} {p : List MemPlace} (hv : Value.okWide Tryd.prog W .any b0 46 v) (h : DataW.Trod enc Tryd.prog W 0 (fun _ => true) true 46 v d p) :
    ∃ (a : Option Addr) (cap : Nat) (l : List Int), v = .slice a l.length cap ∧ IntsAt W a l ∧ ints64 l ∧ l.length ≤ cap ∧ cap ≤ 9223372036854775807 ∧ (a = none → cap = 0) ∧ ∀ x, a = some x → 0 < cap → x = ⟨x.block, x.off, none⟩ := by
  obtain ⟨a, len, cap, rfl⟩ := okWide_slice Tryd.underlying46 hv
  obtain ⟨fuel, hf⟩ := h
  have k0 : Tryd.prog.cellsOf 3 = 1 := by kernel_rfl
  rcases open_slice Tryd.underlying46 hf with ⟨hcs, _⟩ | ⟨x, len', cap', m, n, D, Pl, hcs, _, hl, hm, hmm, _, hi⟩
  · simp [Value.cells] at hcs
    obtain ⟨rfl, rfl, rfl⟩ := hcs
    exact ⟨none, 0, [], rfl, ⟨by simp, .inl rfl⟩, by simp [ints64], by simp, by omega, fun _ => rfl, fun _ e => by cases e⟩
  · simp [Value.cells] at hcs
    obtain ⟨rfl, rfl, rfl⟩ := hcs
    simp only [if_true] at hmm
    subst hmm
    have hx : ∀ i, i < m → ∃ z : Int, (-9223372036854775808 ≤ z ∧ z ≤ 9223372036854775807) ∧ W.cell? ((x.add (i * Tryd.prog.cellsOf 3)).add 0) = some (.int .i64 z) := fun i hilt => by
      obtain ⟨cs', hc, ht⟩ := hi i hilt
      rw [k0] at hc
      obtain ⟨_, hcl, hat⟩ := World.cells?_some hc
      obtain ⟨c0, rfl⟩ : ∃ c0, cs' = [c0] := by
        match cs', hcl with
        | [c0], _ => exact ⟨c0, rfl⟩
      obtain ⟨z, e0, _, wz⟩ := DataW.trod_int Tryd.underlying3 ht
      simp only [List.cons.injEq, and_true] at e0
      subst e0
      exact ⟨z, wf_bounds wz, by rw [k0]; exact hat 0 (by omega)⟩
    obtain ⟨f, hfun⟩ := choose_lt hx
    rw [k0] at hfun
    have hpl : 0 < m → x = ⟨x.block, x.off, none⟩ := fun h0 => cell_plain (W := W) (v := .int .i64 (f 0)) (by have := (hfun 0 h0).2; simpa [Addr.add] using this)
    have hlen : ((List.range len).map f).length = len := by simp
    have hget : ∀ i, i < len → ((List.range len).map f).getD i 0 = f i := fun i hilt => by simp [List.getD, hilt]
    refine ⟨some x, m, (List.range len).map f, by rw [hlen], ⟨by rw [hlen]; unfold maxLen at hm; omega, ?_⟩, ?_, by rw [hlen]; omega, by unfold maxLen at hm; omega, (fun e => by cases e), (fun y e h0 => by cases e; exact hpl h0)⟩
    · by_cases h0 : len = 0
      · left; subst h0; rfl
      · right
        have hp := hpl (by omega)
        have hc0 := (hfun 0 (by omega)).2
        rw [hp] at hc0
        refine ⟨x.block, x.off, by rw [← hp], block_of_cell hc0, fun i hilt => ?_⟩
        rw [hlen] at hilt
        rw [hget i hilt]
        have := (hfun i (by omega)).2
        rw [hp] at this
        simpa only [Lib.add_plain, Nat.add_zero, Nat.mul_one] using this
    · intro y hy
      rw [List.mem_map] at hy
      obtain ⟨i, hir, rfl⟩ := hy
      have hr : i < len := by simpa using hir
      exact (hfun i (by omega)).1
end
end Go.Proofs.YtiahfdlmjfpglaaDoor
