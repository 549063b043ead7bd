/- Contracts of the two orders of values. -/
import Derived.Test.YtiahojbliaaklaaGreatDoorCmp
import Derived.Deep.RegionHeld3
import Derived.Deep.RegionWith
import Derived.Deep.QuietTactic
import Derived.BigQuiet
namespace Go.Proofs.YtiahojbliaaklaaGreatDoor
open Go.RowKit

theorem drop_bytes (a : ByteArray) (k : Nat) (h : k < a.size) : a.data.toList.drop k = a[k] :: a.data.toList.drop (k + 1) := by
  rw [List.drop_eq_getElem_cons (by simpa using h)]; rfl
theorem cb_lt {a b : ByteArray} {k : Nat} (ha : k < a.size) (hb : k < b.size) (h : a[k].toNat < b[k].toNat) : Lib.compareBytes (a.data.toList.drop k) (b.data.toList.drop k) = -1 := by
  rw [drop_bytes a k ha, drop_bytes b k hb]
  simp only [Lib.compareBytes]
  rw [if_pos (UInt8.lt_iff_toNat_lt.2 h)]
theorem cb_gt {a b : ByteArray} {k : Nat} (ha : k < a.size) (hb : k < b.size) (h : b[k].toNat < a[k].toNat) : Lib.compareBytes (a.data.toList.drop k) (b.data.toList.drop k) = 1 := by
  rw [drop_bytes a k ha, drop_bytes b k hb]
  simp only [Lib.compareBytes]
  rw [if_neg (by rw [UInt8.lt_iff_toNat_lt]; omega), if_pos (UInt8.lt_iff_toNat_lt.2 h)]
theorem cb_eq {a b : ByteArray} {k : Nat} (ha : k < a.size) (hb : k < b.size) (h : ¬ a[k].toNat < b[k].toNat) (h' : ¬ b[k].toNat < a[k].toNat) : Lib.compareBytes (a.data.toList.drop k) (b.data.toList.drop k) = Lib.compareBytes (a.data.toList.drop (k + 1)) (b.data.toList.drop (k + 1)) := by
  rw [drop_bytes a k ha, drop_bytes b k hb]
  simp only [Lib.compareBytes]
  rw [if_neg (by rw [UInt8.lt_iff_toNat_lt]; omega), if_neg (by rw [UInt8.lt_iff_toNat_lt]; omega)]
theorem drop_end (a : ByteArray) (k : Nat) (h : a.size ≤ k) : a.data.toList.drop k = [] := List.drop_of_length_le (by simpa using h)
theorem cb_end {a b : ByteArray} {k : Nat} (ha : k ≤ a.size) (hb : k ≤ b.size) (h : ¬ (k < a.size ∧ k < b.size)) : Lib.compareBytes (a.data.toList.drop k) (b.data.toList.drop k) = cmp3 (a.size : Int) (b.size : Int) := by
  unfold cmp3
  by_cases h1 : k < a.size
  · have h2 : ¬ k < b.size := fun h2 => h ⟨h1, h2⟩
    rw [drop_bytes a k h1, drop_end b k (by omega), if_neg (by omega), if_pos (by omega)]; rfl
  · by_cases h2 : k < b.size
    · rw [drop_bytes b k h2, drop_end a k (by omega), if_pos (by omega)]; rfl
    · rw [drop_end a k (by omega), drop_end b k (by omega), if_neg (by omega), if_neg (by omega)]; rfl

/-- The document's order of two values, by their cells. -/
def ordV (ak an : Int) (sa : ByteArray) (bk bn : Int) (sb : ByteArray) : Int :=
  if ak ≠ bk then cmp3 ak bk else if ak = 1 ∨ ak = 2 then cmp3 an bn else if ak = 3 then Lib.compareBytes sa.data.toList sb.data.toList else 0

theorem below2 (w : World) (o1 o2 : Obj) : Below w.heap.size w ((w.alloc o1).alloc o2) := ((Below.refl _ _).alloc (Nat.le_refl _) _).alloc (by simp) _

end Go.Proofs.YtiahojbliaaklaaGreatDoor
