/- The law LexBlanks, in the row's words; bytes opened. -/
import Derived.Test.YtiahojbliaaklaaDoorLxBl
import Derived.Test.YtiahojbliaaklaaDoorFrameL
namespace Go.Proofs.YtiahojbliaaklaaDoor
open Go.ChangeShapes Go.WideShapes Go.ChangeAt Go.RowKit Go.Joins Go.Deep
open Go.ChangeMaps (open_string shut_string)

def bV (b : UInt8) : Value := .int .u8 b.toNat
/-- Bytes that can be read. -/
def BAt (B : Nat) (w : World) (a : Option Addr) (l : List UInt8) : Prop :=
  l.length ≤ 9223372036854775807 ∧ (l = [] ∨ ∃ b off, a = some ⟨b, off, none⟩ ∧ b < B ∧ ∀ i, i < l.length → w.cell? ⟨b, off + i, none⟩ = some (bV (l.getD i 0)))
theorem cell_plain {W : World} {a : Addr} {v : Value} (h : W.cell? (a.add 0) = some v) : a = ⟨a.block, a.off, none⟩ := by
  obtain ⟨b, off, spot⟩ := a
  have : spot = none := by simpa [Addr.add] using World.cell?_spot h
  subst this
  rfl
theorem block_of_cell {w : World} {b o : Nat} {v : Value} (h : w.cell? ⟨b, o, none⟩ = some v) : b < w.heap.size := by
  rcases Nat.lt_or_ge b w.heap.size with h' | h'
  · exact h'
  · simp [World.cell?, Array.getElem?_eq_none h'] at h
section
variable {H : Type} {enc : TypeId × Value → H}
set_option maxRecDepth 100000 in
theorem open_bytes {W : World} {b0 : Nat} {v : Value} {d : DataW H} {p : List MemPlace} (hv : Value.okWide Tryd.prog W .any b0 30 v) (h : DataW.Trod enc Tryd.prog W 0 (fun _ => true) true 30 v d p) :
    ∃ (a : Option Addr) (cap : Nat) (l : List UInt8), v = .slice a l.length cap ∧ BAt W.heap.size W a l ∧ l.length ≤ cap ∧ cap ≤ 9223372036854775807 ∧ (a = none → cap = 0) := by
  obtain ⟨a, len, cap, rfl⟩ := okWide_slice Tryd.underlying30 hv
  obtain ⟨fuel, hf⟩ := h
  have k0 : Tryd.prog.cellsOf 5 = 1 := by kernel_rfl
  rcases open_slice Tryd.underlying30 hf with ⟨hcs, _⟩ | ⟨x, len', cap', m, n, D, Pl, hcs, _, hl, hm, hmm, _, hi⟩
  · simp [Value.cells] at hcs
    obtain ⟨rfl, rfl, rfl⟩ := hcs
    exact ⟨none, 0, [], rfl, ⟨by simp, .inl rfl⟩, by simp, by omega, fun _ => rfl⟩
  · simp [Value.cells] at hcs
    obtain ⟨rfl, rfl, rfl⟩ := hcs
    simp only [if_true] at hmm
    subst hmm
    have hx : ∀ i, i < len → ∃ z : UInt8, W.cell? ((x.add (i * Tryd.prog.cellsOf 5)).add 0) = some (bV z) := fun i hilt => by
      obtain ⟨cs', hc, ht⟩ := hi i (by omega)
      rw [k0] at hc
      obtain ⟨_, hcl, hat⟩ := World.cells?_some hc
      obtain ⟨c0, rfl⟩ : ∃ c0, cs' = [c0] := by
        match cs', hcl with
        | [c0], _ => exact ⟨c0, rfl⟩
      obtain ⟨z, e0, _, wz⟩ := DataW.trod_int Tryd.underlying5 ht
      simp only [List.cons.injEq, and_true] at e0
      subst e0
      have hz : 0 ≤ z ∧ z ≤ 255 := by simpa [Lit.wf, IntKind.min, IntKind.max, IntKind.signed, IntKind.bits] using wz
      refine ⟨UInt8.ofNat z.toNat, ?_⟩
      have e : bV (UInt8.ofNat z.toNat) = .int .u8 z := by
        unfold bV
        rw [UInt8.toNat_ofNat_of_lt' (by simp [UInt8.size]; omega)]
        congr 1; omega
      rw [e, k0]
      exact hat 0 (by omega)
    obtain ⟨f, hfun⟩ := choose_lt hx
    rw [k0] at hfun
    have hlen : ((List.range len).map f).length = len := by simp
    have hget : ∀ i, i < len → ((List.range len).map f).getD i 0 = f i := fun i hilt => by simp [List.getD, hilt]
    refine ⟨some x, m, (List.range len).map f, by rw [hlen], ⟨by rw [hlen]; unfold maxLen at hm; omega, ?_⟩, by rw [hlen]; exact hl, by unfold maxLen at hm; omega, fun h => by cases h⟩
    by_cases h0 : len = 0
    · left; subst h0; rfl
    · right
      have hp : x = ⟨x.block, x.off, none⟩ := cell_plain (W := W) (v := bV (f 0)) (by have := hfun 0 (by omega); simpa [Addr.add] using this)
      have hc0 := hfun 0 (by omega)
      rw [hp] at hc0
      refine ⟨x.block, x.off, by rw [← hp], block_of_cell hc0, fun i hilt => ?_⟩
      rw [hlen] at hilt
      rw [hget i hilt]
      have := hfun i hilt
      rw [hp] at this
      simpa only [add_plain, Nat.add_zero, Nat.mul_one] using this
end
theorem LexBlanks_any (s : ByteArray) (a : Option Addr) (cap : Nat) (gs : List UInt8) (W : World) (bt : BAt W.heap.size W a gs) (cl : gs.length ≤ cap) (hL : laidMetH Tryd.prog laid10x W) : Calls Tryd.prog 5 #[.string s, .slice a gs.length cap] W fun e w' => e = .returned (.bool true) ∧ Below W.heap.size W w' := by
  obtain ⟨n, g, m, l, hE⟩ := lxEnv_of hL
  exact (LexBlanks_walk _ n g m l s a cap gs W hE bt.2 cl (by unfold maxLen; exact bt.1)).mono fun _ _ ⟨he, hg⟩ => ⟨he, below_grownL hg⟩
end Go.Proofs.YtiahojbliaaklaaDoor
