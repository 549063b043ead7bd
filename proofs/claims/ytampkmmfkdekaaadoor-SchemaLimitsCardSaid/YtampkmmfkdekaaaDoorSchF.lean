/- Contracts of schema's full where a table isn't too wide, and of a closure that holds a name against a column's. -/
import Derived.Test.YtampkmmfkdekaaaDoorSchN
namespace Go.Proofs.YtampkmmfkdekaaaDoor
open Go.RowKit

theorem grown_refl6 (w : World) (row : Option Nat) : w.grownBy w row := ⟨rfl, rfl, rfl, Nat.le_refl _, fun _ _ _ => rfl⟩
theorem grown_drewN6 {w w' : World} {row : Option Nat} (h : w.grownBy w' row) (n : Nat) : w.grownBy (w'.drewN n) row := ⟨h.os, h.tape, h.output, h.size, h.block⟩
set_option maxHeartbeats 1600000 in
theorem full_ok (num m c : Nat) (N : ByteArray) (a : Option Addr) (K : Int) (w : World) (h6 : num < 6) (h1 : 1 ≤ m) (h8 : m ≤ 8) :
    Calls Tryd.prog 21 #[.int .i64 num, .agg #[.string N, .slice a m c, .int .i64 K]] w fun e w' => e = .returned .nilIface ∧ w.grownBy w' none := by
  have h6' : (num : Int) < 6 := by omega
  have h1' : ((m : Int) == 0) = false := beq_eq_false_iff_ne.2 (by omega)
  have h8' : (m : Int) ≤ 8 := by omega
  go_enter Tryd.func21, Tryd.ntmps21
  go_wp2_with fail
  go_ret
  exact ⟨rfl, World.grownBy_alloc _ _ _⟩
/-- The closure of columnOf: is it the column's name? -/
theorem colIs_any (N M : ByteArray) (k : Int) (b : Bool) (g : Nat) (w : World) (hc : w.cell? ⟨g, 0, none⟩ = some (.string M)) :
    Calls Tryd.prog 37 #[.agg #[.string N, .int .i64 k, .bool b], .pointer (some ⟨g, 0, none⟩)] w fun e w' => e = .returned (.bool (N.toList == M.toList)) ∧ w.grownBy w' none := by
  have hc2 : ∀ o, (w.alloc o).cell? ⟨g, 0, none⟩ = some (.string M) := fun o => (World.grownBy_alloc w o none).cell hc (by simp)
  go_enter Tryd.func37, Tryd.ntmps37
  go_wp2_with fail
  go_ret
  exact ⟨rfl, World.grownBy_alloc _ _ _⟩
end Go.Proofs.YtampkmmfkdekaaaDoor
