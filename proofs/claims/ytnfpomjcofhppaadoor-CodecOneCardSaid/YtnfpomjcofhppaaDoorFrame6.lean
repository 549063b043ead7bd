/- What the cards over codec's and frame's reading side share: what the listed variables give; bytes opened and shut. -/
import Derived.Test.YtnfpomjcofhppaaDoorPlainR
import Derived.Test.YtnfpomjcofhppaaDoorReadX
import Derived.LaidMore
import Derived.LaidHandle
import Derived.Stop.Joined
import Derived.Lib.LaidTab
import Derived.Stop.LaidErr
import Derived.MakeChecks
namespace Go.Proofs.YtnfpomjcofhppaaDoor
open Go.ChangeShapes Go.WideShapes Go.ChangeAt Go.RowKit Go.Joins Go.Deep

theorem et_named : Tryd.prog.globalNamed "errors.errorType" = some 3 := by kernel_rfl
theorem rt_named : (Tryd.prog.cutTypes.find? (·.1 == "internal/reflectlite.rtype")).map (·.2) = some 94 := by kernel_rfl
theorem types_size : Tryd.prog.types.size = 140 := by kernel_rfl
theorem one_error : ((List.range 140).filter fun t => Tryd.prog.rowNamed t [101, 114, 114, 111, 114]) = [60] := by kernel_rfl
/-- The variable errors.errorType, out of the condition. -/
theorem handle_of {l : List (String × DataW Unit)} {W : World} (h : handlesMet Tryd.prog l W) (hm : ("errors.errorType", Rows.laid_errors_errorType) ∈ l) : ErrT W.heap.size W := by
  obtain ⟨name, u, ty, e1, e2, e3, e4, e5⟩ := h _ hm
  have en : name = [101, 114, 114, 111, 114] := (Option.some.inj e1).symm
  subst en
  obtain rfl := Option.some.inj (rt_named.symm.trans e2)
  have hm : ty ∈ (List.range 140).filter fun t => Tryd.prog.rowNamed t [101, 114, 114, 111, 114] := List.mem_filter.2 ⟨List.mem_range.2 (by rw [← types_size]; exact e3), e4⟩
  rw [one_error] at hm
  obtain rfl := List.mem_singleton.1 hm
  have hh : typeHandle Tryd.prog 60 = .pointer (some ⟨6, 60, none⟩) := by kernel_rfl
  rw [hh] at e5
  have hc : W.cell? ⟨3, 0, none⟩ = some (.iface 94 (.agg #[.pointer (some ⟨6, 60, none⟩)])) := by simpa using World.var?_cell et_named e5 0
  exact ⟨block_lt_of_cell hc, hc⟩
theorem star_err : "*" ++ "errors.errorString" = "*errors.errorString" := by decide
theorem row_err (u : TypeId) (h : Tryd.prog.typeName? 3 u = some "*errors.errorString") : u = 106 :=
  typeName_ptr_named (nm := "errors.errorString") (by rw [star_err]; kernel_rfl) (by kernel_rfl) (by decide) u (by rw [star_err]; exact h)
theorem sentinel_of {n : String} {text : List UInt8} {r : List (String × DataW Unit)} {W : World} {g : Nat} (h : laidMet Tryd.prog ((n, .iface "*errors.errorString" (.ptr (.agg [.lit (.string text)]))) :: r) W) (hg : Tryd.prog.globalNamed n = some g) (ht : (Tryd.prog.globals[g]?).map (·.type) = some 60) :
    g < W.heap.size ∧ ∃ t p, W.cell? ⟨g, 0, none⟩ = some (.iface t p) := by
  obtain ⟨a, s, hv, _⟩ := laid_sentinel h hg ht Tryd.underlying60 row_err Tryd.underlying106 Tryd.underlying128 rfl rfl Tryd.underlying9 (by kernel_rfl) (by kernel_rfl)
  have hc : W.cell? ⟨g, 0, none⟩ = some (.iface 106 (.pointer (some a))) := by simpa using World.var?_cell hg hv 0
  exact ⟨block_lt_of_cell hc, _, _, hc⟩

section
variable {H : Type} {enc : TypeId × Value → H}
set_option maxRecDepth 100000 in
theorem open_bytes {W : World} {b0 : Nat} {v : Value} {d : DataW H} {p : List MemPlace} (hv : Value.okWide Tryd.prog W .any b0 22 v) (h : DataW.Trod enc Tryd.prog W 0 (fun _ => true) true 22 v d p) :
    ∃ (a : Option Addr) (cap : Nat) (l : List UInt8), v = .slice a l.length cap ∧ BAt W.heap.size W a l ∧ l.length ≤ cap ∧ cap ≤ 9223372036854775807 ∧ (a = none → cap = 0) := by
  obtain ⟨a, len, cap, rfl⟩ := okWide_slice Tryd.underlying22 hv
  obtain ⟨fuel, hf⟩ := h
  have k0 : Tryd.prog.cellsOf 5 = 1 := by kernel_rfl
  rcases open_slice Tryd.underlying22 hf with ⟨hcs, _⟩ | ⟨x, len', cap', m, n, D, Pl, hcs, _, hl, hm, hmm, _, hi⟩
  · simp [Value.cells] at hcs
    obtain ⟨rfl, rfl, rfl⟩ := hcs
    exact ⟨none, 0, [], rfl, ⟨by simp, .inl rfl⟩, by simp, by omega, fun _ => rfl⟩
  · simp [Value.cells] at hcs
    obtain ⟨rfl, rfl, rfl⟩ := hcs
    simp only [if_true] at hmm
    subst hmm
    have hx : ∀ i, i < len → ∃ z : UInt8, W.cell? ((x.add (i * Tryd.prog.cellsOf 5)).add 0) = some (bV z) := fun i hilt => by
      obtain ⟨cs', hc, ht⟩ := hi i (by omega)
      rw [k0] at hc
      obtain ⟨_, hcl, hat⟩ := World.cells?_some hc
      obtain ⟨c0, rfl⟩ : ∃ c0, cs' = [c0] := by
        match cs', hcl with
        | [c0], _ => exact ⟨c0, rfl⟩
      obtain ⟨z, e0, _, wz⟩ := DataW.trod_int Tryd.underlying5 ht
      simp only [List.cons.injEq, and_true] at e0
      subst e0
      have hz : 0 ≤ z ∧ z ≤ 255 := by simpa [Lit.wf, IntKind.min, IntKind.max, IntKind.signed, IntKind.bits] using wz
      refine ⟨UInt8.ofNat z.toNat, ?_⟩
      have e : bV (UInt8.ofNat z.toNat) = .int .u8 z := by
        unfold bV
        rw [UInt8.toNat_ofNat_of_lt' (by simp [UInt8.size]; omega)]
        congr 1; omega
      rw [e, k0]
      exact hat 0 (by omega)
    obtain ⟨f, hfun⟩ := choose_lt hx
    rw [k0] at hfun
    have hlen : ((List.range len).map f).length = len := by simp
    have hget : ∀ i, i < len → ((List.range len).map f).getD i 0 = f i := fun i hilt => by simp [List.getD, hilt]
    refine ⟨some x, m, (List.range len).map f, by rw [hlen], ⟨by rw [hlen]; unfold maxLen at hm; omega, ?_⟩, by rw [hlen]; exact hl, by unfold maxLen at hm; omega, fun h => by cases h⟩
    by_cases h0 : len = 0
    · left; subst h0; rfl
    · right
      have hp : x = ⟨x.block, x.off, none⟩ := cell_plain (W := W) (v := bV (f 0)) (by have := hfun 0 (by omega); simpa [Addr.add] using this)
      have hc0 := hfun 0 (by omega)
      rw [hp] at hc0
      refine ⟨x.block, x.off, by rw [← hp], block_of_cell hc0, fun i hilt => ?_⟩
      rw [hlen] at hilt
      rw [hget i hilt]
      have := hfun i hilt
      rw [hp] at this
      simpa only [add_plain, Nat.add_zero, Nat.mul_one] using this
end

/-! ### The six variables of codec's reading side -/
def tail5 : List (String × DataW Unit) := [("stillroom/codec.errCut", Rows.laid_stillroom_codec_errCut), ("stillroom/codec.errLoose", Rows.laid_stillroom_codec_errLoose), ("stillroom/codec.errWide", Rows.laid_stillroom_codec_errWide), ("stillroom/codec.errHead", Rows.laid_stillroom_codec_errHead), ("stillroom/codec.errMany", Rows.laid_stillroom_codec_errMany)]
def laid6 : List (String × DataW Unit) := ("errors.errorType", Rows.laid_errors_errorType) :: tail5
theorem door_met6 (os : Os) (args : Array Value) : laidMetH Tryd.prog laid6 ((World.doorLaid Tryd.prog 400 os).forCall (fun _ _ => 0) ⟨#[], args, []⟩).memory :=
  laidMetH_of_parts3 (fuel := 8) (laidMet_of_run' 8 (by kernel_rfl) (by kernel_rfl)) (by kernel_rfl) (by kernel_rfl)
theorem split6 {W : World} (h : laidMetH Tryd.prog laid6 W) : laidMet Tryd.prog tail5 W ∧ handlesMet Tryd.prog [("errors.errorType", Rows.laid_errors_errorType)] W := h
theorem errT_of6 {W : World} (h : laidMetH Tryd.prog laid6 W) : ErrT W.heap.size W := handle_of (split6 h).2 (by simp)
theorem sent_of6 {W : World} (h : laidMetH Tryd.prog laid6 W) : Sent W.heap.size W := by
  have h5 := (split6 h).1
  exact ⟨sentinel_of h5 (by kernel_rfl) (by kernel_rfl), sentinel_of h5.tail (by kernel_rfl) (by kernel_rfl), sentinel_of h5.tail.tail (by kernel_rfl) (by kernel_rfl), sentinel_of h5.tail.tail.tail (by kernel_rfl) (by kernel_rfl), sentinel_of h5.tail.tail.tail.tail (by kernel_rfl) (by kernel_rfl)⟩
end Go.Proofs.YtnfpomjcofhppaaDoor
