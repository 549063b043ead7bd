/- How a pair of ints ([2]int) is opened and shut. -/
import Derived.Test.YtiahfdlmjfpglaaDoorWFrame
namespace Go.Proofs.YtiahfdlmjfpglaaDoor
open Go.ChangeShapes Go.WideShapes Go.ChangeAt Go.RowKit Go.Joins
open Go.Deep

section
variable {H : Type} {enc : TypeId × Value → H}
theorem cells_two : Tryd.prog.cellsOf 51 = 2 := by kernel_rfl
theorem cells_int1 : Tryd.prog.cellsOf 3 = 1 := by kernel_rfl
set_option maxRecDepth 100000 in
theorem open_two {W : World} {b0 base : Nat} {spare : Nat → Bool} {v : Value} {d : DataW H} {p : List MemPlace} (hv : Value.okWide Tryd.prog W .any b0 51 v) (h : DataW.Trod enc Tryd.prog W base spare true 51 v d p) :
    ∃ a l, v = .agg #[.int .i64 a, .int .i64 l] ∧ d = .agg [.lit (.int .i64 a), .lit (.int .i64 l)] ∧ p = [] ∧ (Lit.int .i64 a).wf = true ∧ (Lit.int .i64 l).wf = true := by
  have hv2 : ∃ cs, v = .agg cs ∧ cs.size = Tryd.prog.cellsOf 51 := by
    unfold Value.okWide at hv
    have hu := Tryd.underlying51
    cases v <;> simp [hu] at hv ⊢
    all_goals (first | exact hv | (try simp_all))
  obtain ⟨cs, rfl, hsz⟩ := hv2
  rw [cells_two] at hsz
  obtain ⟨c0, c1, rfl⟩ := array2 hsz
  obtain ⟨fuel, hf⟩ := h
  obtain ⟨xs, m, rfl, hx, _, hl, hi⟩ := DataW.trod_array Tryd.underlying51 hf
  obtain ⟨y0, y1, rfl⟩ : ∃ y0 y1, xs = [y0, y1] := by
    match xs, hl with
    | [y0, y1], _ => exact ⟨y0, y1, rfl⟩
  have h0 := hi 0 (by omega)
  have h1 := hi 1 (by omega)
  simp [Value.cells, cells_int1] at h0 h1
  obtain ⟨k, e0, rfl, wk⟩ := DataW.trod_int Tryd.underlying3 h0
  obtain ⟨n, e1, rfl, wn⟩ := DataW.trod_int Tryd.underlying3 h1
  simp at e0 e1 hx
  subst e0 e1
  exact ⟨k, n, rfl, hx.1, hx.2, wk, wn⟩
set_option maxRecDepth 100000 in
theorem shut_two {W : World} {base : Nat} {spare : Nat → Bool} {a l : Int} (wa : (Lit.int .i64 a).wf = true) (wl : (Lit.int .i64 l).wf = true) :
    DataW.Trod enc Tryd.prog W base spare true 51 (.agg #[.int .i64 a, .int .i64 l]) (.agg [.lit (.int .i64 a), .lit (.int .i64 l)]) [] := by
  refine ⟨2, ?_⟩
  have r2 : List.range 2 = [0, 1] := rfl
  simp [DataW.trod, Tryd.underlying51, Tryd.underlying3, cells_two, cells_int1, Value.cells, r2, wa, wl]
end
end Go.Proofs.YtiahfdlmjfpglaaDoor
