/- Slices of ints that come in: in memory, and how they are opened. -/
import Derived.Test.YtlmoefiajioeoaaPlainT
namespace Go.Proofs.Ytlmoefiajioeoaa
open Go.ChangeShapes Go.WideShapes Go.ChangeAt Go.RowKit Go.Joins
open Go.Deep

def KsJ (w : World) (a : Option Addr) (l : List Int) : Prop := l.length ≤ 9223372036854775807 ∧ (l = [] ∨ ∃ b off, a = some ⟨b, off, none⟩ ∧ b < w.heap.size ∧ ∀ i, i < l.length → w.cell? ⟨b, off + i, none⟩ = some (.int .i64 (l.getD i 0)))
theorem KsJ.at {w W : World} {a : Option Addr} {l : List Int} (h : KsJ w a l) (hg : Below w.heap.size w W) {i : Nat} (hi : i < l.length) : ∃ b off, a = some ⟨b, off, none⟩ ∧ W.cell? ⟨b, off + i, none⟩ = some (.int .i64 (l.getD i 0)) := by
  rcases h.2 with h0 | ⟨b, off, e, hb, hc⟩
  · rw [h0] at hi; simp at hi
  · exact ⟨b, off, e, (hg.cell (p := ⟨b, off + i, none⟩) hb).trans (hc i hi)⟩
theorem wfJ_bounds {n : Int} (h : (Lit.int .i64 n).wf = true) : -9223372036854775808 ≤ n ∧ n ≤ 9223372036854775807 := by
  simpa [Lit.wf, IntKind.min, IntKind.max, IntKind.signed, IntKind.bits] using h
theorem addJ_plain (b o k : Nat) : (⟨b, o, none⟩ : Addr).add k = ⟨b, o + k, none⟩ := by
  unfold Addr.add
  by_cases h : k = 0
  · subst h; simp
  · simp [h]
section
variable {H : Type} {enc : TypeId × Value → H}

theorem blockJ_of_cell {w : World} {b o : Nat} {v : Value} (h : w.cell? ⟨b, o, none⟩ = some v) : b < w.heap.size := by
  rcases Nat.lt_or_ge b w.heap.size with h' | h'
  · exact h'
  · simp [World.cell?, Array.getElem?_eq_none h'] at h
theorem cellJ_plain {W : World} {a : Addr} {v : Value} (h : W.cell? (a.add 0) = some v) : a = ⟨a.block, a.off, none⟩ := by
  obtain ⟨b, off, spot⟩ := a
  have : spot = none := by simpa [Addr.add] using World.cell?_spot h
  subst this
  rfl
set_option maxRecDepth 100000 in
theorem open_intsJ {W : World} {b0 : Nat} {v : Value} {d : DataW H} {p : List MemPlace} (hv : Value.okWide Try.prog W .any b0 50 v) (h : DataW.Trod enc Try.prog W 0 (fun _ => true) true 50 v d p) :
    ∃ (a : Option Addr) (cap : Nat) (l : List Int), v = .slice a l.length cap ∧ l.length ≤ cap ∧ KsJ W a l := by
  obtain ⟨a, len, cap, rfl⟩ := okWide_slice Try.underlying50 hv
  obtain ⟨fuel, hf⟩ := h
  have k0 : Try.prog.cellsOf 3 = 1 := by kernel_rfl
  rcases open_slice Try.underlying50 hf with ⟨hcs, _⟩ | ⟨x, len', cap', m, n, D, Pl, hcs, _, hl, hm, hmm, _, hi⟩
  · simp [Value.cells] at hcs
    obtain ⟨rfl, rfl, rfl⟩ := hcs
    exact ⟨none, 0, [], rfl, Nat.le_refl _, ⟨by simp, .inl rfl⟩⟩
  · simp [Value.cells] at hcs
    obtain ⟨rfl, rfl, rfl⟩ := hcs
    simp only [if_true] at hmm
    subst hmm
    have hx : ∀ i, i < len → ∃ z : Int, (-9223372036854775808 ≤ z ∧ z ≤ 9223372036854775807) ∧ W.cell? ((x.add (i * Try.prog.cellsOf 3)).add 0) = some (.int .i64 z) := fun i hilt => by
      obtain ⟨cs', hc, ht⟩ := hi i (by omega)
      rw [k0] at hc
      obtain ⟨_, hcl, hat⟩ := World.cells?_some hc
      obtain ⟨c0, rfl⟩ : ∃ c0, cs' = [c0] := by
        match cs', hcl with
        | [c0], _ => exact ⟨c0, rfl⟩
      obtain ⟨z, e0, _, wz⟩ := DataW.trod_int Try.underlying3 ht
      simp only [List.cons.injEq, and_true] at e0
      subst e0
      exact ⟨z, wfJ_bounds wz, by rw [k0]; exact hat 0 (by omega)⟩
    obtain ⟨f, hfun⟩ := choose_lt hx
    rw [k0] at hfun
    have hlen : ((List.range len).map f).length = len := by simp
    have hget : ∀ i, i < len → ((List.range len).map f).getD i 0 = f i := fun i hilt => by simp [List.getD, hilt]
    refine ⟨some x, m, (List.range len).map f, by rw [hlen], by rw [hlen]; exact hl, ⟨by rw [hlen]; unfold maxLen at hm; omega, ?_⟩⟩
    by_cases h0 : len = 0
    · left; subst h0; rfl
    · right
      have hp : x = ⟨x.block, x.off, none⟩ := cellJ_plain (W := W) (v := .int .i64 (f 0)) (by have := (hfun 0 (by omega)).2; simpa [Addr.add] using this)
      have hc0 := (hfun 0 (by omega)).2
      rw [hp] at hc0
      refine ⟨x.block, x.off, by rw [← hp], blockJ_of_cell hc0, fun i hilt => ?_⟩
      rw [hlen] at hilt
      rw [hget i hilt]
      have := (hfun i hilt).2
      rw [hp] at this
      simpa only [addJ_plain, Nat.add_zero, Nat.mul_one] using this
end
end Go.Proofs.Ytlmoefiajioeoaa
