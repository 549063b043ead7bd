/- The law LexValues, in the row's words; a value opened and shut. -/
import Derived.Test.YtiahojbliaaklaaDoorLxVl
import Derived.Test.YtiahojbliaaklaaDoorFrameL
namespace Go.Proofs.YtiahojbliaaklaaDoor
open Go.ChangeShapes Go.WideShapes Go.ChangeAt Go.RowKit Go.Joins Go.Deep
open Go.ChangeMaps (open_string shut_string)

theorem cells_value : Tryd.prog.cellsOf 35 = 3 := by kernel_rfl
section
variable {H : Type} {enc : TypeId × Value → H}

/-- A value as data. -/
def dv (k n : Int) (s : ByteArray) : DataW H := .agg [.lit (.int .i64 k), .lit (.int .i64 n), .lit (.string s.data.toList)]

theorem wf_bounds {n : Int} (h : (Lit.int .i64 n).wf = true) : inI n = true := by
  rw [inI_iff]
  simpa [Lit.wf, IntKind.min, IntKind.max, IntKind.signed, IntKind.bits] using h

set_option maxRecDepth 100000 in
theorem open_value {W : World} {b0 base : Nat} {spare : Nat → Bool} {v : Value} {d : DataW H} {p : List MemPlace} (hv : Value.okWide Tryd.prog W .any b0 35 v) (h : DataW.Trod enc Tryd.prog W base spare true 35 v d p) :
    ∃ k n s, v = .agg #[.int .i64 k, .int .i64 n, .string s] ∧ d = dv k n s ∧ p = [] ∧ (Lit.int .i64 k).wf = true ∧ (Lit.int .i64 n).wf = true ∧ s.size ≤ maxLen := by
  obtain ⟨c0, c1, c2, y0, y1, y2, m, rfl, rfl, rfl, hy0, hy1, hy2⟩ := open_agg3 Tryd.underlying35 (by kernel_rfl) cells_value hv h
  obtain ⟨k, e0, rfl, wk⟩ := DataW.trod_int Tryd.underlying33 hy0
  obtain ⟨n, e1, rfl, wn⟩ := DataW.trod_int Tryd.underlying3 hy1
  obtain ⟨s, e2, rfl, hs⟩ := DataW.trod_string Tryd.underlying9 hy2
  simp at e0 e1 e2
  subst e0 e1 e2
  exact ⟨k, n, s, rfl, rfl, rfl, wk, wn, hs⟩

set_option maxRecDepth 100000 in
theorem shut_value {W : World} {base : Nat} {spare : Nat → Bool} {k n : Int} {s : ByteArray} (wk : (Lit.int .i64 k).wf = true) (wn : (Lit.int .i64 n).wf = true) (hs : s.size ≤ maxLen) :
    DataW.Trod enc Tryd.prog W base spare true 35 (.agg #[.int .i64 k, .int .i64 n, .string s]) (dv k n s) [] :=
  shut_agg3 (y0 := (.lit (.int .i64 k), [])) (y1 := (.lit (.int .i64 n), [])) (y2 := (.lit (.string s.data.toList), [])) Tryd.underlying35 (by kernel_rfl) cells_value ⟨1, by simp [DataW.trod, Tryd.underlying33, wk]⟩ ⟨1, by simp [DataW.trod, Tryd.underlying3, wn]⟩ (shut_string Tryd.underlying9 hs)
end
theorem LexValues_any (k v : Int) (s : ByteArray) (W : World) (hn : inI v = true) (hL : laidMetH Tryd.prog laid10x W) : Calls Tryd.prog 6 #[.agg #[.int .i64 k, .int .i64 v, .string s]] W fun e w' => e = .returned (.bool true) ∧ Below W.heap.size W w' := by
  obtain ⟨n, g, m, l, hE⟩ := lxEnv_of hL
  exact (LexValues_walk _ n g m l k v s W hE hn).mono fun _ _ ⟨he, hg⟩ => ⟨he, below_grownL hg⟩
end Go.Proofs.YtiahojbliaaklaaDoor
