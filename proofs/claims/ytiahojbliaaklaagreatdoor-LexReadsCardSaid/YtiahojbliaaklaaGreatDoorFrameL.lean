/- What the cards of layer 10 share: their ten listed variables, and what these give. -/
import Derived.Test.YtiahojbliaaklaaGreatDoorRows
import Derived.Test.YtiahojbliaaklaaGreatDoorLxE
import Derived.ProofKit
import Derived.OpenShut
import Derived.Deep.Slices
import Derived.Deep.Fields
import Derived.ChangeSame
import Derived.Lib.SmallJoins
import Derived.LaidMore
import Derived.LaidHandle
import Derived.Stop.Joined
import Derived.Lib.LaidTab
import Derived.Stop.LaidErr
import Derived.MakeChecks
namespace Go.Proofs.YtiahojbliaaklaaGreatDoor
open Go.ChangeShapes Go.WideShapes Go.ChangeAt Go.RowKit Go.Joins Go.Deep

theorem heap_ltL {w : World} {b : Nat} {o : Obj} (h : w.heap[b]? = some o) : b < w.heap.size := by
  rcases Nat.lt_or_ge b w.heap.size with h1 | h1
  · exact h1
  · rw [Array.getElem?_eq_none h1] at h; cases h
theorem own : ownKnob Tryz.prog.godebug = none := by kernel_rfl
theorem laidOut : laidOutB Tryz.prog = true := by kernel_rfl
def tail9x : List (String × DataW Unit) := [("math/bits.deBruijn32tab", Rows.laid_math_bits_deBruijn32tab), ("math/bits.deBruijn64tab", Rows.laid_math_bits_deBruijn64tab), ("internal/strconv.uint64pow10", Rows.laid_internal_strconv_uint64pow10), ("strconv.ErrRange", Rows.laid_strconv_ErrRange), ("strconv.ErrSyntax", Rows.laid_strconv_ErrSyntax), ("stillroom/lex.errNone", Rows.laid_stillroom_lex_errNone), ("stillroom/lex.errGreat", Rows.laid_stillroom_lex_errGreat), ("stillroom/lex.errMany", Rows.laid_stillroom_lex_errMany), ("stillroom/lex.errLong", Rows.laid_stillroom_lex_errLong)]
def laid10x : List (String × DataW Unit) := [("math/bits.deBruijn32tab", Rows.laid_math_bits_deBruijn32tab), ("math/bits.deBruijn64tab", Rows.laid_math_bits_deBruijn64tab), ("internal/strconv.uint64pow10", Rows.laid_internal_strconv_uint64pow10), ("errors.errorType", Rows.laid_errors_errorType), ("strconv.ErrRange", Rows.laid_strconv_ErrRange), ("strconv.ErrSyntax", Rows.laid_strconv_ErrSyntax), ("stillroom/lex.errNone", Rows.laid_stillroom_lex_errNone), ("stillroom/lex.errGreat", Rows.laid_stillroom_lex_errGreat), ("stillroom/lex.errMany", Rows.laid_stillroom_lex_errMany), ("stillroom/lex.errLong", Rows.laid_stillroom_lex_errLong)]
theorem door_met10x (os : Os) (args : Array Value) : laidMetH Tryz.prog laid10x ((World.doorLaid Tryz.prog 400 os).forCall (fun _ _ => 0) ⟨#[], args, []⟩).memory :=
  laidMetH_of_parts3 (fuel := 8) (laidMet_of_run' 8 (by kernel_rfl) (by kernel_rfl)) (by kernel_rfl) (by kernel_rfl)
theorem split10x {W : World} (h : laidMetH Tryz.prog laid10x W) : laidMet Tryz.prog tail9x W ∧ handlesMet Tryz.prog [("errors.errorType", Rows.laid_errors_errorType)] W := h
theorem et_named : Tryz.prog.globalNamed "errors.errorType" = some 2 := by kernel_rfl
theorem rt_named : (Tryz.prog.cutTypes.find? (·.1 == "internal/reflectlite.rtype")).map (·.2) = some 71 := by kernel_rfl
theorem types_size : Tryz.prog.types.size = 166 := by kernel_rfl
theorem one_error : ((List.range 166).filter fun t => Tryz.prog.rowNamed t [101, 114, 114, 111, 114]) = [34] := by kernel_rfl
/-- The variable errors.errorType, out of the condition. -/
theorem handle_of {l : List (String × DataW Unit)} {W : World} (h : handlesMet Tryz.prog l W) (hm : ("errors.errorType", Rows.laid_errors_errorType) ∈ l) : ErrT W.heap.size W := by
  obtain ⟨name, u, ty, e1, e2, e3, e4, e5⟩ := h _ hm
  have en : name = [101, 114, 114, 111, 114] := (Option.some.inj e1).symm
  subst en
  obtain rfl := Option.some.inj (rt_named.symm.trans e2)
  have hm : ty ∈ (List.range 166).filter fun t => Tryz.prog.rowNamed t [101, 114, 114, 111, 114] := List.mem_filter.2 ⟨List.mem_range.2 (by rw [← types_size]; exact e3), e4⟩
  rw [one_error] at hm
  obtain rfl := List.mem_singleton.1 hm
  have hh : typeHandle Tryz.prog 34 = .pointer (some ⟨11, 34, none⟩) := by kernel_rfl
  rw [hh] at e5
  have hc : W.cell? ⟨2, 0, none⟩ = some (.iface 71 (.agg #[.pointer (some ⟨11, 34, none⟩)])) := by simpa using World.var?_cell et_named e5 0
  exact ⟨block_lt_of_cell hc, hc⟩
theorem star_err : "*" ++ "errors.errorString" = "*errors.errorString" := by decide
set_option maxRecDepth 100000 in
theorem row_err (u : TypeId) (h : Tryz.prog.typeName? 3 u = some "*errors.errorString") : u = 120 :=
  typeName_ptr_named (nm := "errors.errorString") (by rw [star_err]; kernel_rfl) (by kernel_rfl) (by decide) u (by rw [star_err]; exact h)
/-- A sentinel at the head of the list, its block's marks too, of whatever program. -/
theorem laid_sentinelL {P : Program} {n nm : String} {text : List UInt8} {r : List (String × DataW Unit)} {W : World} {g : Nat} {ti tp te ts : TypeId} {ms : Array (String × TypeId)} {f : Field}
    (h : laidMet P ((n, .iface nm (.ptr (.agg [.lit (.string text)]))) :: r) W)
    (hg : P.globalNamed n = some g) (ht : (P.globals[g]?).map (·.type) = some ti) (hi : P.underlying ti = some (.interface ms)) (hrow : ∀ u, P.typeName? 3 u = some nm → u = tp)
    (hp : P.underlying tp = some (.pointer te)) (he : P.underlying te = some (.struct #[f])) (hft : f.type = ts) (hfo : f.offset = 0) (hs : P.underlying ts = some .string) (hc : P.cellsOf te = 1) (hcs : P.cellsOf ts = 1) :
    ∃ (a : Addr) (s : ByteArray) (c : Array Value) (t : TypeId), W.cell? ⟨g, 0, none⟩ = some (.iface tp (.pointer (some a))) ∧ W.cell? a = some (.string s) ∧ s.data.toList = text ∧ W.heap[a.block]? = some (.cells c t (0, 0)) := by
  obtain ⟨ps, ⟨g0, t0, cs0, f0, p0, q0, hg0, ht0, hv0, hd0, _, e0⟩, _, hrows⟩ := h
  obtain rfl := Option.some.inj (hg.symm.trans hg0)
  obtain rfl := Option.some.inj (ht.symm.trans ht0)
  subst e0
  obtain ⟨l0⟩ := cs0
  have ok0 : ∀ u v, l0 = [.iface u v] → Value.okWide P W .any 0 u v := fun u v e => by
    subst e
    exact (hrows g 0 (by simp [MemPlace.row])).2 u v (by simpa using World.var?_cell hg0 hv0 0)
  obtain ⟨a0, s0, rfl, hc0, hs0, hz0, rfl⟩ := errorString_of_trod hi hrow hp he hft hfo hs hc hcs hd0 ok0
  obtain ⟨c0, t0, hb0⟩ := (hrows a0.block a0.off (by simp [MemPlace.row])).1
  exact ⟨a0, s0, c0, t0, by simpa using World.var?_cell hg0 hv0 0, hc0, hs0, hb0⟩
theorem senAt_of {n : String} {text : List UInt8} {r : List (String × DataW Unit)} {W : World} {g : Nat} (h : laidMet Tryz.prog ((n, .iface "*errors.errorString" (.ptr (.agg [.lit (.string text)]))) :: r) W) (hg : Tryz.prog.globalNamed n = some g) (ht : (Tryz.prog.globals[g]?).map (·.type) = some 34) :
    ∃ a, SenAt W.heap.size g a text W := by
  obtain ⟨a, s, c, t, hv, hc, hs, hb⟩ := laid_sentinelL h hg ht Tryz.underlying34 row_err Tryz.underlying120 Tryz.underlying122 rfl rfl Tryz.underlying9 (by kernel_rfl) (by kernel_rfl)
  exact ⟨a, block_lt_of_cell hv, heap_ltL hb, hv, ⟨s, hc, hs⟩, ⟨c, t, hb⟩⟩
set_option maxRecDepth 100000 in
theorem lxEnv_of {W : World} (h : laidMetH Tryz.prog laid10x W) : ∃ n g m l, LxEnv W.heap.size n g m l W := by
  have h5 := (split10x h).1.tail.tail.tail
  obtain ⟨_, hr⟩ := senAt_of h5 (by kernel_rfl) (by kernel_rfl)
  obtain ⟨n, hn⟩ := senAt_of h5.tail.tail (by kernel_rfl) (by kernel_rfl)
  obtain ⟨g, hg⟩ := senAt_of h5.tail.tail.tail (by kernel_rfl) (by kernel_rfl)
  obtain ⟨m, hm⟩ := senAt_of h5.tail.tail.tail.tail (by kernel_rfl) (by kernel_rfl)
  obtain ⟨l, hl⟩ := senAt_of h5.tail.tail.tail.tail.tail (by kernel_rfl) (by kernel_rfl)
  exact ⟨n, g, m, l, hn, hg, hm, hl, ⟨_, _, hr.var⟩, hr.lt, handle_of (split10x h).2 (by simp), Nat.le_refl _⟩
theorem below_grownL {w w' : World} (h : w.grownBy w' none) : Below w.heap.size w w' := ⟨h.os, h.tape, h.output, h.size, fun i hi => h.block i hi (by simp)⟩
end Go.Proofs.YtiahojbliaaklaaGreatDoor
