/- Slices of slices of bytes that come in, opened. -/
import Derived.Test.YthdaibmminibhaaDoorFrame6
import Derived.Test.YthdaibmminibhaaDoorPc
namespace Go.Proofs.YthdaibmminibhaaDoor
open Go.ChangeShapes Go.WideShapes Go.ChangeAt Go.RowKit Go.Joins Go.Deep

section
variable {H : Type} {enc : TypeId × Value → H}
set_option maxRecDepth 100000 in
theorem bytes_cells {W : World} {fuel : Nat} {cs : List Value} {y : DataW H × List MemPlace} (hf : DataW.trod enc Tryd.prog W 0 (fun _ => true) true fuel 32 cs = some y) :
    ∃ (a : Option Addr) (cap : Nat) (l : List UInt8), cs = [.slice a l.length cap] ∧ BAt W.heap.size W a l ∧ (a = none → cap = 0) := by
  have k0 : Tryd.prog.cellsOf 5 = 1 := by kernel_rfl
  rcases open_slice Tryd.underlying32 hf with ⟨hcs, _⟩ | ⟨x, len, cap', m, n, D, Pl, hcs, _, hl, hm, hmm, _, hi⟩
  · exact ⟨none, 0, [], hcs, ⟨by simp, .inl rfl⟩, fun _ => rfl⟩
  · simp only [if_true] at hmm
    subst hmm
    have hx : ∀ i, i < len → ∃ z : UInt8, W.cell? ((x.add (i * Tryd.prog.cellsOf 5)).add 0) = some (bV z) := fun i hilt => by
      obtain ⟨cs', hc, ht⟩ := hi i (by omega)
      rw [k0] at hc
      obtain ⟨_, hcl, hat⟩ := World.cells?_some hc
      obtain ⟨c0, rfl⟩ : ∃ c0, cs' = [c0] := by
        match cs', hcl with
        | [c0], _ => exact ⟨c0, rfl⟩
      obtain ⟨z, e0, _, wz⟩ := DataW.trod_int Tryd.underlying5 ht
      simp only [List.cons.injEq, and_true] at e0
      subst e0
      have hz : 0 ≤ z ∧ z ≤ 255 := by simpa [Lit.wf, IntKind.min, IntKind.max, IntKind.signed, IntKind.bits] using wz
      refine ⟨UInt8.ofNat z.toNat, ?_⟩
      have e : bV (UInt8.ofNat z.toNat) = .int .u8 z := by
        unfold bV
        rw [UInt8.toNat_ofNat_of_lt' (by simp [UInt8.size]; omega)]
        congr 1; omega
      rw [e, k0]
      exact hat 0 (by omega)
    obtain ⟨f, hfun⟩ := choose_lt hx
    rw [k0] at hfun
    have hlen : ((List.range len).map f).length = len := by simp
    have hget : ∀ i, i < len → ((List.range len).map f).getD i 0 = f i := fun i hilt => by simp [List.getD, hilt]
    refine ⟨some x, m, (List.range len).map f, by rw [hlen]; exact hcs, ⟨by rw [hlen]; unfold maxLen at hm; omega, ?_⟩, fun h => by cases h⟩
    by_cases h0 : len = 0
    · left; subst h0; rfl
    · right
      have hp : x = ⟨x.block, x.off, none⟩ := cell_plain (W := W) (v := bV (f 0)) (by have := hfun 0 (by omega); simpa [Addr.add] using this)
      have hc0 := hfun 0 (by omega)
      rw [hp] at hc0
      refine ⟨x.block, x.off, by rw [← hp], block_of_cell hc0, fun i hilt => ?_⟩
      rw [hlen] at hilt
      rw [hget i hilt]
      have := hfun i hilt
      rw [hp] at this
      simpa only [add_plain, Nat.add_zero, Nat.mul_one] using this
set_option maxRecDepth 100000 in
theorem open_pcs {W : World} {b0 : Nat} {v : Value} {d : DataW H} {p : List MemPlace} (hv : Value.okWide Tryd.prog W .any b0 74 v) (h : DataW.Trod enc Tryd.prog W 0 (fun _ => true) true 74 v d p) :
    ∃ (a : Option Addr) (cap : Nat) (ps : List Pc), v = .slice a ps.length cap ∧ PLow W.heap.size W a ps ∧ (∀ p ∈ ps, p.a = none → p.cap = 0) ∧ (a = none → cap = 0) := by
  have k0 : Tryd.prog.cellsOf 32 = 1 := by kernel_rfl
  obtain ⟨a, len, cap, rfl⟩ := okWide_slice Tryd.underlying74 hv
  obtain ⟨fuel, hf⟩ := h
  rcases open_slice Tryd.underlying74 hf with ⟨hcs, _⟩ | ⟨x, len', cap', m, n, D, Pl, hcs, _, hl, hm, hmm, _, hi⟩
  · simp [Value.cells] at hcs
    obtain ⟨rfl, rfl, rfl⟩ := hcs
    exact ⟨none, 0, [], rfl, ⟨by simp, by simp, .inl rfl⟩, by simp, fun _ => rfl⟩
  · simp [Value.cells] at hcs
    obtain ⟨rfl, rfl, rfl⟩ := hcs
    simp only [if_true] at hmm
    subst hmm
    have hx : ∀ i, i < len → ∃ r : Pc, (BAt W.heap.size W r.a r.l ∧ (r.a = none → r.cap = 0)) ∧ W.cell? ((x.add (i * Tryd.prog.cellsOf 32)).add 0) = some r.v := fun i hilt => by
      obtain ⟨cs', hc, ht⟩ := hi i (by omega)
      obtain ⟨ra, rc, rl, rfl, hr, hn⟩ := bytes_cells ht
      rw [k0] at hc
      obtain ⟨_, _, hat⟩ := World.cells?_some hc
      exact ⟨⟨ra, rc, rl⟩, ⟨hr, hn⟩, by rw [k0]; exact hat 0 (by omega)⟩
    obtain ⟨f, hfun⟩ := choose_lt hx
    rw [k0] at hfun
    have hlen : ((List.range len).map f).length = len := by simp
    have hget : ∀ i, i < len → ((List.range len).map f).getD i default = f i := fun i hilt => by simp [List.getD, hilt]
    refine ⟨some x, m, (List.range len).map f, by rw [hlen], ⟨by rw [hlen]; unfold maxLen at hm; omega, ?_, ?_⟩, ?_, fun h => by cases h⟩
    · intro y hy
      rw [List.mem_map] at hy
      obtain ⟨i, hir, rfl⟩ := hy
      exact (hfun i (by simpa using hir)).1.1
    · by_cases h0 : len = 0
      · left; subst h0; rfl
      · right
        have hp : x = ⟨x.block, x.off, none⟩ := cell_plain (W := W) (v := (f 0).v) (by have := (hfun 0 (by omega)).2; simpa [Addr.add] using this)
        have hc0 := (hfun 0 (by omega)).2
        rw [hp] at hc0
        refine ⟨x.block, x.off, by rw [← hp], block_of_cell hc0, fun i hilt => ?_⟩
        rw [hlen] at hilt
        rw [hget i hilt]
        have := (hfun i hilt).2
        rw [hp] at this
        simpa only [add_plain, Nat.add_zero, Nat.mul_one] using this
    · intro y hy
      rw [List.mem_map] at hy
      obtain ⟨i, hir, rfl⟩ := hy
      exact (hfun i (by simpa using hir)).1.2
end
end Go.Proofs.YthdaibmminibhaaDoor
