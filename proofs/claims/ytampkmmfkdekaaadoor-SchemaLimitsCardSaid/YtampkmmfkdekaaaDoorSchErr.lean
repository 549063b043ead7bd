/- What the listed variables of layer 6 give: the handle, and schema's errors. -/
import Derived.Test.YtampkmmfkdekaaaDoorFrameS
import Derived.Test.YtampkmmfkdekaaaDoorSchLi
namespace Go.Proofs.YtampkmmfkdekaaaDoor
open Go.ChangeShapes Go.WideShapes Go.ChangeAt Go.RowKit Go.Joins Go.Deep

theorem et_named : Tryd.prog.globalNamed "errors.errorType" = some 0 := by kernel_rfl
theorem rt_named : (Tryd.prog.cutTypes.find? (·.1 == "internal/reflectlite.rtype")).map (·.2) = some 76 := by kernel_rfl
theorem types_size : Tryd.prog.types.size = 129 := by kernel_rfl
theorem one_error : ((List.range 129).filter fun t => Tryd.prog.rowNamed t [101, 114, 114, 111, 114]) = [51] := by kernel_rfl
/-- The variable errors.errorType, out of the condition. -/
theorem handle_of {l : List (String × DataW Unit)} {W : World} (h : handlesMet Tryd.prog l W) (hm : ("errors.errorType", Rows.laid_errors_errorType) ∈ l) : ErrT W.heap.size W := by
  obtain ⟨name, u, ty, e1, e2, e3, e4, e5⟩ := h _ hm
  have en : name = [101, 114, 114, 111, 114] := (Option.some.inj e1).symm
  subst en
  obtain rfl := Option.some.inj (rt_named.symm.trans e2)
  have hm : ty ∈ (List.range 129).filter fun t => Tryd.prog.rowNamed t [101, 114, 114, 111, 114] := List.mem_filter.2 ⟨List.mem_range.2 (by rw [← types_size]; exact e3), e4⟩
  rw [one_error] at hm
  obtain rfl := List.mem_singleton.1 hm
  have hh : typeHandle Tryd.prog 51 = .pointer (some ⟨9, 51, none⟩) := by kernel_rfl
  rw [hh] at e5
  have hc : W.cell? ⟨0, 0, none⟩ = some (.iface 76 (.agg #[.pointer (some ⟨9, 51, none⟩)])) := by simpa using World.var?_cell et_named e5 0
  exact ⟨block_lt_of_cell hc, hc⟩
theorem star_err : "*" ++ "errors.errorString" = "*errors.errorString" := by decide
theorem row_err (u : TypeId) (h : Tryd.prog.typeName? 3 u = some "*errors.errorString") : u = 95 :=
  typeName_ptr_named (nm := "errors.errorString") (by rw [star_err]; kernel_rfl) (by kernel_rfl) (by decide) u (by rw [star_err]; exact h)
theorem sentinel_of {n : String} {text : List UInt8} {r : List (String × DataW Unit)} {W : World} {g : Nat} (h : laidMet Tryd.prog ((n, .iface "*errors.errorString" (.ptr (.agg [.lit (.string text)]))) :: r) W) (hg : Tryd.prog.globalNamed n = some g) (ht : (Tryd.prog.globals[g]?).map (·.type) = some 51) :
    g < W.heap.size ∧ ∃ t p, W.cell? ⟨g, 0, none⟩ = some (.iface t p) := by
  obtain ⟨a, s, hv, _⟩ := laid_sentinel h hg ht Tryd.underlying51 row_err Tryd.underlying95 Tryd.underlying117 rfl rfl Tryd.underlying9 (by kernel_rfl) (by kernel_rfl)
  have hc : W.cell? ⟨g, 0, none⟩ = some (.iface 95 (.pointer (some a))) := by simpa using World.var?_cell hg hv 0
  exact ⟨block_lt_of_cell hc, _, _, hc⟩

def tail8s : List (String × DataW Unit) := [("stillroom/schema.errMany", Rows.laid_stillroom_schema_errMany), ("stillroom/schema.errWidth", Rows.laid_stillroom_schema_errWidth), ("stillroom/schema.errName", Rows.laid_stillroom_schema_errName), ("stillroom/schema.errKind", Rows.laid_stillroom_schema_errKind), ("stillroom/schema.errKeys", Rows.laid_stillroom_schema_errKeys), ("stillroom/schema.errNull", Rows.laid_stillroom_schema_errNull), ("stillroom/schema.errTable", Rows.laid_stillroom_schema_errTable), ("stillroom/schema.errTwice", Rows.laid_stillroom_schema_errTwice)]
theorem split9s {W : World} (h : laidMetH Tryd.prog laid9s W) : laidMet Tryd.prog tail8s W ∧ handlesMet Tryd.prog [("errors.errorType", Rows.laid_errors_errorType)] W := h
theorem errs_of9s {W : World} (h : laidMetH Tryd.prog laid9s W) : Errs W.heap.size W := by
  have h5 := (split9s h).1
  exact ⟨handle_of (split9s h).2 (by simp), (sentinel_of h5 (by kernel_rfl) (by kernel_rfl)).2, (sentinel_of h5.tail (by kernel_rfl) (by kernel_rfl)).2, (sentinel_of h5.tail.tail.tail.tail (by kernel_rfl) (by kernel_rfl)).2⟩
end Go.Proofs.YtampkmmfkdekaaaDoor
