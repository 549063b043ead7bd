/- The contract of the document's Value of an int below 0. -/
import Derived.Test.YtnfpomjcofhppaaDoorVal
namespace Go.Proofs.YtnfpomjcofhppaaDoor
open Go.RowKit

theorem addValue_any (B : Nat) (v : Value) (l : List UInt8) (k n : Int) (s : ByteArray) (w : World) (h : goodB k n s = true) (h0 : -9223372036854775808 ≤ n) (h1 : n ≤ 9223372036854775807) (ho : OwnB B w v l) (hB : B ≤ w.heap.size) (hl : l.length ≤ 90000000) :
    Calls Tryd.prog 21 #[v, .agg #[.int .i64 k, .int .i64 n, .string s]] w (Adds B w (l ++ valB k n s)) := by
  unfold goodB at h
  unfold valB
  by_cases k0 : k = 0
  · subst k0
    exact addValue_0 B v l n s w ho hB (by omega)
  · rw [if_neg k0] at h
    by_cases k1 : k = 1
    · subst k1
      simp at h
      by_cases hn : n = 0
      · subst hn
        exact addValue_10 B v l s w ho hB (by omega)
      · rw [if_pos rfl, if_neg hn]
        exact addValue_11 B v l n s hn w ho hB (by omega)
    · rw [if_neg k1] at h ⊢
      by_cases k2 : k = 2
      · subst k2
        exact addValue_2 B v l n s w ho hB hl h0 h1
      · rw [if_neg k2] at h ⊢
        by_cases k3 : k = 3
        · subst k3
          simp at h
          obtain ⟨rfl, hs⟩ := h
          exact addValue_3 B v l s w ho hB hl hs
        · rw [if_neg k3] at h
          cases h
end Go.Proofs.YtnfpomjcofhppaaDoor
