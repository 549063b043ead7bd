/- The contract of value.Text at good values. Asked: the table of powers of ten, which strconv.Itoa reads, is as the library's text lays it. -/
import Derived.Test.YtiahojbliaaklaaGreatDoorGoodLaw
import Derived.Test.YtiahojbliaaklaaGreatDoorOrdMath
import Derived.Lib.ItoaNum
import Derived.Lib.ItoaMem
import Derived.Lib.AppendIntMem
import Derived.Lib.LaidTab
import Derived.Stop.LaidErr
import Derived.MakeChecks
namespace Go.Proofs.YtiahojbliaaklaaGreatDoor
open Go.RowKit

/-- The table of powers of ten stands in memory. -/
def Tab10 (w : World) : Prop := Lib.TabIs Tryz.prog w "internal/strconv.uint64pow10" .u64 Lib.pow10Tab
theorem Tab10.keep {w w' : World} (h : Tab10 w) (hb : Below w.heap.size w w') : Tab10 w' := Lib.tabBelow_of_tabIs h w' hb

theorem tab10_data {H : Type} : (Rows.laid_internal_strconv_uint64pow10 : DataW H) = Lib.tabData .u64 Lib.pow10Tab := rfl

/-- A value's text. -/
def textL (k n : Int) (s : ByteArray) : List UInt8 :=
  if k = 0 then [78, 85, 76, 76] else if k = 1 then (if n = 0 then [70, 65, 76, 83, 69] else [84, 82, 85, 69]) else if k = 2 then Lib.itoa n else 39 :: (qs s.data.toList ++ [39])

theorem good_kinds {k n : Int} {s : ByteArray} (h : goodB k n s = true) : (k = 0 ∧ n = 0 ∧ s.data.toList = []) ∨ (k = 1 ∧ (n = 0 ∨ n = 1) ∧ s.data.toList = []) ∨ (k = 2 ∧ s.data.toList = []) ∨ (k = 3 ∧ n = 0 ∧ s.size ≤ 60) := by
  unfold goodB at h
  by_cases h0 : k = 0
  · subst h0; simp at h; exact .inl ⟨rfl, h.1, toList_nil (by simp [h.2])⟩
  · by_cases h1 : k = 1
    · subst h1; simp at h; exact .inr (.inl ⟨rfl, h.1, toList_nil (by simp [h.2])⟩)
    · by_cases h2 : k = 2
      · subst h2; simp at h; exact .inr (.inr (.inl ⟨rfl, toList_nil (by simp [h])⟩))
      · by_cases h3 : k = 3
        · subst h3; simp at h; exact .inr (.inr (.inr ⟨rfl, h.1, h.2⟩))
        · simp [h0, h1, h2, h3] at h

end Go.Proofs.YtiahojbliaaklaaGreatDoor
