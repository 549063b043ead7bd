/- Contracts of the reckoning with ints as values: sums, differences, products, the other sign. Asked: ints of 64 bits. -/
import Derived.Test.YtiahojbliaaklaaGreatDoorGood
import Derived.Test.YtiahojbliaaklaaGreatDoorBits
import Derived.Deep.QuietTactic
import Derived.BigQuiet
import Derived.Deep.RegionHeld3
import Derived.Deep.RegionWith
import Derived.Lib.Hide
namespace Go.Proofs.YtiahojbliaaklaaGreatDoor
open Go.RowKit

/-- But for draws the world is as it was. -/
def Drawn (w w' : World) : Prop := ∃ n, w' = w.drewN n

theorem ret_pair {a a' : Int} {b b' : Bool} (h : a = a') (h' : b = b') : Ending.returned (.tuple #[.int .i64 a, .bool b]) = .returned (.tuple #[.int .i64 a', .bool b']) := by rw [h, h']

/-- An int as a value; what stands beside an error. -/
abbrev vi (n : Int) : Value := .agg #[.int .i64 2, .int .i64 n, .string ⟨#[]⟩]
abbrev vz : Value := .agg #[.int .i64 0, .int .i64 0, .string ⟨#[]⟩]

set_option maxHeartbeats 400000 in
theorem number_any (n : Int) (w : World) :
    Calls Tryz.prog 54 #[.int .i64 n] w fun e w' => e = .returned (vi n) ∧ w.alloc (.cells #[.int .i64 2, .int .i64 n, .string ⟨#[]⟩] 63) = w' := by
  go_enter Tryz.func54, Tryz.ntmps54
  go_wp2
  exact bodyPost_ret (v := vi n) (by simp [results, Tryz.results54, go_sem, vi]) rfl ⟨rfl, rfl⟩

set_option maxHeartbeats 400000 in
theorem refInt_any (n : Int) (w : World) :
    Calls Tryz.prog 33 #[.int .i64 n] w fun e w' => e = .returned (vi n) ∧ w.alloc (.cells #[.int .i64 2, .int .i64 n, .string ⟨#[]⟩] 63) = w' := by
  go_enter Tryz.func33, Tryz.ntmps33
  go_wp2
  exact bodyPost_ret (v := vi n) (by simp [results, Tryz.results33, go_sem, vi]) rfl ⟨rfl, rfl⟩

theorem below3 (w : World) (o1 o2 o3 : Obj) : Below w.heap.size w (((w.alloc o1).alloc o2).alloc o3) := (((Below.refl _ _).alloc (Nat.le_refl _) _).alloc (by simp) _).alloc (by simp; omega) _

theorem below_store3 {B b : Nat} {w w1 : World} (h : Below B w w1) (hb : B ≤ b) (u0 u1 u2 : Value) : Below B w (((w1.setCell ⟨b, 0, none⟩ u0).setCell ⟨b, 1, none⟩ u1).setCell ⟨b, 2, none⟩ u2) :=
  ((h.setCell (p := ⟨b, 0, none⟩) hb u0).setCell (p := ⟨b, 1, none⟩) hb u1).setCell (p := ⟨b, 2, none⟩) hb u2
theorem below_made (w : World) (o1 o2 o3 : Obj) (n : Nat) (u0 u1 u2 : Value) : Below w.heap.size w ((((((w.alloc o1).alloc o2).alloc o3).drewN n).setCell ⟨w.heap.size + 1 + 1, 0, none⟩ u0).setCell ⟨w.heap.size + 1 + 1, 1, none⟩ u1 |>.setCell ⟨w.heap.size + 1 + 1, 2, none⟩ u2) :=
  below_store3 (below_drewN (below3 w o1 o2 o3) n) (by omega) _ _ _

end Go.Proofs.YtiahojbliaaklaaGreatDoor
