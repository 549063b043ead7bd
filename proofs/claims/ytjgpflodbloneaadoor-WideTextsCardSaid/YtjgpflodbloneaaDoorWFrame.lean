/- What the rows of the statements of this seat share: how a sum is opened and shut, and that the heap in which the program's own variables are laid meets the condition. -/
import Derived.Test.YtjgpflodbloneaaDoorAwake3
import Derived.ProofKit
import Derived.LaidMore
import Derived.OpenShut
import Derived.Stop.Joined
import Derived.Lib.SmallJoins
import Derived.Lib.LaidTab
import Derived.Stop.LaidErr
import Derived.MakeChecks
import Derived.Deep.Slices
import Derived.Deep.Fields
import Derived.ChangeSame
namespace Go.Proofs.YtjgpflodbloneaaDoor
open Go.ChangeShapes Go.WideShapes Go.ChangeAt Go.RowKit Go.Joins
open Go.ChangeMaps (shut_string)
open Go.Deep

theorem own : ownKnob Tryd.prog.godebug = none := by kernel_rfl
theorem cells_sum : Tryd.prog.cellsOf 24 = 2 := by kernel_rfl
theorem laidOut : laidOutB Tryd.prog = true := by kernel_rfl

def laid3 : List (String × DataW Unit) := [("math/bits.deBruijn32tab", Rows.laid_math_bits_deBruijn32tab), ("math/bits.deBruijn64tab", Rows.laid_math_bits_deBruijn64tab), ("internal/strconv.uint64pow10", Rows.laid_internal_strconv_uint64pow10)]

theorem door_met3 (os : Os) (args : Array Value) : laidMetH Tryd.prog laid3 ((World.doorLaid Tryd.prog 400 os).forCall (fun _ _ => 0) ⟨#[], args, []⟩).memory :=
  laidMetH_of_parts3 (fuel := 8) (laidMet_of_run' 8 (by kernel_rfl) (by kernel_rfl)) (by kernel_rfl) (by kernel_rfl)
theorem tab_of_laid {W : World} {r : List (String × DataW Unit)} (h : laidMet Tryd.prog (("internal/strconv.uint64pow10", Rows.laid_internal_strconv_uint64pow10) :: r) W) : TabW W :=
  Lib.tabIs_of_head (g := 8) (t := 154) (e := 22) (n := 20) (by kernel_rfl) (by kernel_rfl) Tryd.underlying154 Tryd.underlying22 (by kernel_rfl) (by kernel_rfl) h
theorem tab_of3 {W : World} (h : laidMetH Tryd.prog laid3 W) : TabW W := by
  rw [MakeChecks.laidMetH_plain _ _ _ (by kernel_rfl)] at h
  exact tab_of_laid h.tail.tail

theorem wf_bounds {n : Int} (h : (Lit.int .i64 n).wf = true) : -9223372036854775808 ≤ n ∧ n ≤ 9223372036854775807 := by
  simpa [Lit.wf, IntKind.min, IntKind.max, IntKind.signed, IntKind.bits] using h
theorem wf_u64 {n : Int} (h : (Lit.int .u64 n).wf = true) : 0 ≤ n ∧ n ≤ 18446744073709551615 := by
  simpa [Lit.wf, IntKind.min, IntKind.max, IntKind.signed, IntKind.bits] using h

section
variable {H : Type} {enc : TypeId × Value → H}

/-- A sum as data. -/
def ds (h l : Int) : DataW H := .agg [.lit (.int .i64 h), .lit (.int .u64 l)]

set_option maxRecDepth 100000 in
theorem open_sum {W : World} {b0 base : Nat} {spare : Nat → Bool} {v : Value} {d : DataW H} {p : List MemPlace} (hv : Value.okWide Tryd.prog W .any b0 24 v) (h : DataW.Trod enc Tryd.prog W base spare true 24 v d p) :
    ∃ a l, v = .agg #[.int .i64 a, .int .u64 l] ∧ d = ds a l ∧ p = [] ∧ (Lit.int .i64 a).wf = true ∧ (Lit.int .u64 l).wf = true := by
  obtain ⟨c0, c1, y0, y1, m, rfl, rfl, rfl, hy0, hy1⟩ := open_agg2 Tryd.underlying24 (by kernel_rfl) cells_sum hv h
  obtain ⟨k, e0, rfl, wk⟩ := DataW.trod_int Tryd.underlying3 hy0
  obtain ⟨n, e1, rfl, wn⟩ := DataW.trod_int Tryd.underlying22 hy1
  simp at e0 e1
  subst e0 e1
  exact ⟨k, n, rfl, rfl, rfl, wk, wn⟩

set_option maxRecDepth 100000 in
theorem shut_sum {W : World} {base : Nat} {spare : Nat → Bool} {a l : Int} (wa : (Lit.int .i64 a).wf = true) (wl : (Lit.int .u64 l).wf = true) :
    DataW.Trod enc Tryd.prog W base spare true 24 (.agg #[.int .i64 a, .int .u64 l]) (ds a l) [] :=
  shut_agg2 (y0 := (.lit (.int .i64 a), [])) (y1 := (.lit (.int .u64 l), [])) Tryd.underlying24 (by kernel_rfl) cells_sum ⟨1, by simp [DataW.trod, Tryd.underlying3, wa]⟩ ⟨1, by simp [DataW.trod, Tryd.underlying22, wl]⟩
theorem block_of_cell {w : World} {b o : Nat} {v : Value} (h : w.cell? ⟨b, o, none⟩ = some v) : b < w.heap.size := block_lt_of_cell (a := ⟨b, o, none⟩) h
theorem cell_plain {W : World} {a : Addr} {v : Value} (h : W.cell? (a.add 0) = some v) : a = ⟨a.block, a.off, none⟩ := by
  obtain ⟨b, off, spot⟩ := a
  have : spot = none := by simpa [Addr.add] using World.cell?_spot h
  subst this
  rfl
set_option maxRecDepth 100000 in
theorem open_ints3 {W : World} {b0 : Nat} {v : Value} {d : DataW H} {p : List MemPlace} (hv : Value.okWide Tryd.prog W .any b0 51 v) (h : DataW.Trod enc Tryd.prog W 0 (fun _ => true) true 51 v d p) :
    ∃ (a : Option Addr) (cap : Nat) (l : List Int), v = .slice a l.length cap ∧ IntsAt W a l ∧ ints64 l := by
  obtain ⟨a, len, cap, rfl⟩ := okWide_slice Tryd.underlying51 hv
  obtain ⟨fuel, hf⟩ := h
  have k0 : Tryd.prog.cellsOf 3 = 1 := by kernel_rfl
  rcases open_slice Tryd.underlying51 hf with ⟨hcs, _⟩ | ⟨x, len', cap', m, n, D, Pl, hcs, _, hl, hm, hmm, _, hi⟩
  · simp [Value.cells] at hcs
    obtain ⟨rfl, rfl, rfl⟩ := hcs
    exact ⟨none, 0, [], rfl, ⟨by simp, .inl rfl⟩, by simp [ints64]⟩
  · simp [Value.cells] at hcs
    obtain ⟨rfl, rfl, rfl⟩ := hcs
    simp only [if_true] at hmm
    subst hmm
    have hx : ∀ i, i < len → ∃ z : Int, (-9223372036854775808 ≤ z ∧ z ≤ 9223372036854775807) ∧ W.cell? ((x.add (i * Tryd.prog.cellsOf 3)).add 0) = some (.int .i64 z) := fun i hilt => by
      obtain ⟨cs', hc, ht⟩ := hi i (by omega)
      rw [k0] at hc
      obtain ⟨_, hcl, hat⟩ := World.cells?_some hc
      obtain ⟨c0, rfl⟩ : ∃ c0, cs' = [c0] := by
        match cs', hcl with
        | [c0], _ => exact ⟨c0, rfl⟩
      obtain ⟨z, e0, _, wz⟩ := DataW.trod_int Tryd.underlying3 ht
      simp only [List.cons.injEq, and_true] at e0
      subst e0
      exact ⟨z, wf_bounds wz, by rw [k0]; exact hat 0 (by omega)⟩
    obtain ⟨f, hfun⟩ := choose_lt hx
    rw [k0] at hfun
    have hlen : ((List.range len).map f).length = len := by simp
    have hget : ∀ i, i < len → ((List.range len).map f).getD i 0 = f i := fun i hilt => by simp [List.getD, hilt]
    refine ⟨some x, m, (List.range len).map f, by rw [hlen], ⟨by rw [hlen]; unfold maxLen at hm; omega, ?_⟩, ?_⟩
    · by_cases h0 : len = 0
      · left; subst h0; rfl
      · right
        have hp : x = ⟨x.block, x.off, none⟩ := cell_plain (W := W) (v := .int .i64 (f 0)) (by have := (hfun 0 (by omega)).2; simpa [Addr.add] using this)
        have hc0 := (hfun 0 (by omega)).2
        rw [hp] at hc0
        refine ⟨x.block, x.off, by rw [← hp], block_of_cell hc0, fun i hilt => ?_⟩
        rw [hlen] at hilt
        rw [hget i hilt]
        have := (hfun i hilt).2
        rw [hp] at this
        simpa only [Lib.add_plain, Nat.add_zero, Nat.mul_one] using this
    · intro y hy
      rw [List.mem_map] at hy
      obtain ⟨i, hir, rfl⟩ := hy
      exact (hfun i (by simpa using hir)).1
/-- Any sum is a number of 128 bits. -/
theorem sum_of {a l : Int} (wa : (Lit.int .i64 a).wf = true) (wl : (Lit.int .u64 l).wf = true) : ∃ x : BitVec 128, a = hiB x ∧ l = (loB x : Nat) := by
  have h1 := wf_bounds wa
  have h2 := wf_u64 wl
  refine ⟨mkB a l.toNat, ?_, ?_⟩
  · rw [hi_mk a _ h1.1 h1.2 (by omega)]
  · rw [lo_mk a _ h1.1 h1.2 (by omega)]; omega
end
end Go.Proofs.YtjgpflodbloneaaDoor
