import Derived.Test.YtfambadamebjjaaZs15
import Derived.Test.YtfambadamebjjaaZs16
set_option linter.unusedSimpArgs false
set_option linter.unusedVariables false
namespace Go.Proofs.Ytfambadamebjjaa
open Go.RowKit

set_option maxRecDepth 100000 in
set_option maxHeartbeats 400000 in
theorem refRead_nil (s : ByteArray) (w : World) (h1 : (s.toList == [78, 85, 76, 76]) = false) (h2 : (s.toList == [70, 65, 76, 83, 69]) = false) (h3 : (s.toList == [84, 82, 85, 69]) = false)
  (hz : s.size = 0) :
  Calls Try.prog 40 #[.string s] w fun e w' => e = .returned (.tuple #[vz, .int .i64 2]) ∧ Below w.heap.size w w' := by
 go_enter Try.func40, Try.ntmps40
 go_wp2_with fail
 all_goals exact bodyPost_ret (v := .tuple #[vz, .int .i64 2]) (by simp [results, Try.results40, go_sem]) rfl ⟨rfl, by first | exact (Below.refl _ _).alloc (Nat.le_refl _) _ | exact below_store3 ((Below.refl _ _).alloc (Nat.le_refl _) _) (Nat.le_refl _) _ _ _⟩

set_option maxRecDepth 100000 in
set_option maxHeartbeats 400000 in
theorem refRead_lead (s : ByteArray) (w : World) (h1 : (s.toList == [78, 85, 76, 76]) = false) (h2 : (s.toList == [70, 65, 76, 83, 69]) = false) (h3 : (s.toList == [84, 82, 85, 69]) = false)
  (hz0 : 0 < s.size) (hz1 : (1 : Int) < s.size) (e48 : ((s[0].toNat : Int)) = 48) :
  Calls Try.prog 40 #[.string s] w fun e w' => e = .returned (.tuple #[vz, .int .i64 2]) ∧ Below w.heap.size w w' := by
 have e39 : ¬ ((s[0].toNat : Int)) = 39 := by omega
 have e45 : ((s[0].toNat : Int) == 45) = false := by rw [beq_eq_false_iff_ne]; omega
 have hz : (0 : Int) < s.size := by omega
 have hz2 : (2 : Int) ≤ s.size := by omega
 go_enter Try.func40, Try.ntmps40
 go_wp2_with fail
 all_goals exact bodyPost_ret (v := .tuple #[vz, .int .i64 2]) (by simp [results, Try.results40, go_sem]) rfl ⟨rfl, by first | exact (Below.refl _ _).alloc (Nat.le_refl _) _ | exact below_store3 ((Below.refl _ _).alloc (Nat.le_refl _) _) (Nat.le_refl _) _ _ _⟩

set_option maxRecDepth 100000 in
set_option maxHeartbeats 400000 in
theorem refRead_minus (s : ByteArray) (w : World) (h1 : (s.toList == [78, 85, 76, 76]) = false) (h2 : (s.toList == [70, 65, 76, 83, 69]) = false) (h3 : (s.toList == [84, 82, 85, 69]) = false)
  (hz0 : 0 < s.size) (hz1 : (s.size : Int) = 1) (e45 : ((s[0].toNat : Int) == 45) = true) :
  Calls Try.prog 40 #[.string s] w fun e w' => e = .returned (.tuple #[vz, .int .i64 2]) ∧ Below w.heap.size w w' := by
 have hz : (0 : Int) < s.size := by omega
 have hz2 : (s.size : Int) < 2 := by omega
 go_enter Try.func40, Try.ntmps40
 go_wp2_with fail
 all_goals exact bodyPost_ret (v := .tuple #[vz, .int .i64 2]) (by simp [results, Try.results40, go_sem]) rfl ⟨rfl, by first | exact (Below.refl _ _).alloc (Nat.le_refl _) _ | exact below_store3 ((Below.refl _ _).alloc (Nat.le_refl _) _) (Nat.le_refl _) _ _ _⟩

set_option maxRecDepth 100000 in
set_option maxHeartbeats 400000 in
theorem refRead_minus0 (s : ByteArray) (w : World) (h1 : (s.toList == [78, 85, 76, 76]) = false) (h2 : (s.toList == [70, 65, 76, 83, 69]) = false) (h3 : (s.toList == [84, 82, 85, 69]) = false)
  (hz0 : 0 < s.size) (hz1 : 1 < s.size) (e45 : ((s[0].toNat : Int) == 45) = true) (e48 : ((s[1].toNat : Int)) = 48) :
  Calls Try.prog 40 #[.string s] w fun e w' => e = .returned (.tuple #[vz, .int .i64 2]) ∧ Below w.heap.size w w' := by
 have e39 : ¬ ((s[0].toNat : Int)) = 39 := by have := beq_iff_eq.1 e45; omega
 have hz : (0 : Int) < s.size := by omega
 have hz3 : (1 : Int) < s.size := by omega
 have hz2 : (2 : Int) ≤ s.size := by omega
 go_enter Try.func40, Try.ntmps40
 go_wp2_with fail
 all_goals exact bodyPost_ret (v := .tuple #[vz, .int .i64 2]) (by simp [results, Try.results40, go_sem]) rfl ⟨rfl, by first | exact (Below.refl _ _).alloc (Nat.le_refl _) _ | exact below_store3 ((Below.refl _ _).alloc (Nat.le_refl _) _) (Nat.le_refl _) _ _ _⟩
end Go.Proofs.Ytfambadamebjjaa
namespace Go.Proofs.Ytfambadamebjjaa
open Go.RowKit

end Go.Proofs.Ytfambadamebjjaa
namespace Go.Proofs.Ytfambadamebjjaa
open Go.RowKit

end Go.Proofs.Ytfambadamebjjaa
namespace Go.Proofs.Ytfambadamebjjaa
open Go.RowKit

end Go.Proofs.Ytfambadamebjjaa
