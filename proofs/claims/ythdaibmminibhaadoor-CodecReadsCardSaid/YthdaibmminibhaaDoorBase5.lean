/- Slices of bytes that a call makes itself, read; what is appended. -/
import Derived.Test.YthdaibmminibhaaDoorReadX
import Derived.Laws.AppendOwnNone
import Derived.Maps.AppendAt
namespace Go.Proofs.YthdaibmminibhaaDoor
open Go.RowKit

theorem OwnB.read {B : Nat} {w : World} {v : Value} {l : List UInt8} (h : OwnB B w v l) (hl : l.length ≤ 9223372036854775807) : ∃ a cap, v = .slice a l.length cap ∧ BAt w.heap.size w a l ∧ l.length ≤ cap ∧ cap ≤ 9223372036854775807 := by
  have hlt := World.ownsRow.lt h
  have hcell := fun g hg => World.ownsRow.cells h (g := g) hg
  rcases h.2 with ⟨hv, h0⟩ | ⟨g, cap, cur, hv, _, _, hc, hm, _⟩
  · have hl0 : l = [] := List.length_eq_zero_iff.1 h0
    subst hl0
    exact ⟨none, 0, hv, ⟨hl, .inl rfl⟩, by simp, by omega⟩
  · refine ⟨_, cap, hv, ⟨hl, .inr ⟨g, 0, rfl, (hlt g (by rw [hv]; rfl)).2, fun i hi => ?_⟩⟩, hc, by unfold maxLen at hm; omega⟩
    have := hcell g (by rw [hv]; rfl) i (bV (l.getD i 0)) (by simp [List.getD, hi])
    rw [add_at] at this
    exact this
theorem BAt.news {B : Nat} {w : World} {ad : Addr} {l : List UInt8} (h : BAt B w (some ad) l) : ∀ j u, (l.map bV)[j]? = some u → w.cell? (ad.add j) = some u := by
  intro j u hj
  rcases h.2 with rfl | ⟨b, off, e, _, hc⟩
  · simp at hj
  · cases e
    have hjl : j < l.length := by
      rcases Nat.lt_or_ge j l.length with h' | h'
      · exact h'
      · rw [List.getElem?_eq_none (by simpa using h')] at hj; cases hj
    rw [add_at, hc j hjl]
    simp [hjl] at hj
    rw [← hj]
    simp [List.getD, hjl]
theorem BAt.pre2 {B : Nat} {w : World} {a : Option Addr} {l : List UInt8} (h : BAt B w a l) {k : Nat} (hk : k ≤ l.length) : BAt B w a (l.take k) := by
  refine ⟨by rw [List.length_take]; have := h.1; omega, ?_⟩
  rcases h.2 with h0 | ⟨b, off, e, hlt, hc⟩
  · exact .inl (by rw [h0]; simp)
  · refine .inr ⟨b, off, e, hlt, fun i hi => ?_⟩
    rw [List.length_take] at hi
    rw [hc i (by omega)]
    simp [List.getD, show i < k by omega]
theorem own_empty (B : Nat) (w : World) (hB : B ≤ w.heap.size) : OwnB B (w.alloc (.cells #[] 5)) (.slice (some ⟨w.heap.size, 0, none⟩) 0 0) [] :=
  World.ownsRow_made w #[] 0 hB (by unfold maxLen; omega) rfl
end Go.Proofs.YthdaibmminibhaaDoor
