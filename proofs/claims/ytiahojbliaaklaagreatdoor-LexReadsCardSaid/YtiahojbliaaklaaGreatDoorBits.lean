/- Plain facts on the signs of 64-bit numbers put together bit by bit, and on when a sum, a difference or a product of two goes round. No program is named. -/
import Derived.WalkKit
namespace Go.Proofs.YtiahojbliaaklaaGreatDoor
open Go.RowKit

/-- Is it an int? -/
def inI (n : Int) : Bool := decide (-9223372036854775808 ≤ n) && decide (n ≤ 9223372036854775807)
theorem inI_iff {n : Int} : inI n = true ↔ -9223372036854775808 ≤ n ∧ n ≤ 9223372036854775807 := by simp [inI]

theorem wrap_nonneg (v : BitVec 64) : (0 ≤ IntKind.i64.wrap v.toNat) ↔ v.msb = false := by
  rw [IntKind.wrap_i64, BitVec.msb_eq_decide]
  have := v.isLt
  simp
  omega
theorem ofInt_wrap (v : BitVec 64) : BitVec.ofInt 64 (IntKind.i64.wrap v.toNat) = v := by
  apply BitVec.eq_of_toNat_eq
  rw [BitVec.toNat_ofInt, IntKind.wrap_i64]
  have := v.isLt
  omega
theorem msb_ofInt (x : Int) (h : inI x = true) : (BitVec.ofInt 64 x).msb = decide (x < 0) := by
  rw [inI_iff] at h
  rw [BitVec.msb_eq_decide, BitVec.toNat_ofInt, Bool.eq_iff_iff]
  simp
  omega
theorem xorxor_sign (x y m n : Int) (hx : inI x = true) (hy : inI y = true) (hm : inI m = true) (hn : inI n = true) :
    (0 ≤ bits .and .i64 (bits .xor .i64 x m) (bits .xor .i64 y n)) ↔ ¬ ((x < 0 ↔ ¬ m < 0) ∧ (y < 0 ↔ ¬ n < 0)) := by
  have e : bits .and .i64 (bits .xor .i64 x m) (bits .xor .i64 y n) = IntKind.i64.wrap ((BitVec.ofInt 64 x ^^^ BitVec.ofInt 64 m) &&& (BitVec.ofInt 64 y ^^^ BitVec.ofInt 64 n)).toNat := by
    simp only [bits, IntKind.bits, ofInt_wrap]
    rfl
  rw [e, wrap_nonneg, BitVec.msb_and, BitVec.msb_xor, BitVec.msb_xor, msb_ofInt x hx, msb_ofInt y hy, msb_ofInt m hm, msb_ofInt n hn]
  by_cases h1 : x < 0 <;> by_cases h2 : y < 0 <;> by_cases h3 : m < 0 <;> by_cases h4 : n < 0 <;> simp [h1, h2, h3, h4]
theorem inI_wrap (n : Int) : inI (wrap64 n) = true := by rw [inI_iff]; unfold wrap64; omega
/-- A sum fits just if it didn't go round. -/
theorem plus_fits (x y : Int) (hx : inI x = true) (hy : inI y = true) :
    decide (0 ≤ bits .and .i64 (bits .xor .i64 x (wrap64 (x + y))) (bits .xor .i64 y (wrap64 (x + y)))) = inI (x + y) := by
  rw [Bool.eq_iff_iff, decide_eq_true_iff, xorxor_sign x y _ _ hx hy (inI_wrap _) (inI_wrap _), inI_iff]
  rw [inI_iff] at hx hy
  unfold wrap64
  omega
theorem minus_fits (x y : Int) (hx : inI x = true) (hy : inI y = true) :
    decide (0 ≤ bits .and .i64 (bits .xor .i64 x y) (bits .xor .i64 x (wrap64 (x - y)))) = inI (x - y) := by
  rw [Bool.eq_iff_iff, decide_eq_true_iff, xorxor_sign x x _ _ hx hx hy (inI_wrap _), inI_iff]
  rw [inI_iff] at hx hy
  unfold wrap64
  omega
theorem wrap64_of {n : Int} (h : inI n = true) : wrap64 n = n := by
  rw [inI_iff] at h
  unfold wrap64
  omega
theorem tdiv_in {n y : Int} (hn : inI n = true) (h0 : y ≠ 0) (h1 : y ≠ -1) : inI (n.tdiv y) = true := by
  rw [inI_iff] at hn ⊢
  have h : (n.tdiv y).natAbs = n.natAbs / y.natAbs := Int.natAbs_tdiv n y
  by_cases h4 : y = 1
  · subst h4; rw [Int.tdiv_one]; exact hn
  · have h5 : n.natAbs / y.natAbs ≤ n.natAbs / 2 := Nat.div_le_div_left (by omega) (by omega)
    generalize n.tdiv y = q at *
    generalize n.natAbs / y.natAbs = d at *
    omega
/-- A product fits just if division leads back; by 0 and by -1 aside. -/
theorem times_fits (x y : Int) (hy : inI y = true) (h0 : y ≠ 0) (h1 : y ≠ -1) :
    (wrap64 ((wrap64 (x * y)).tdiv y) == x) = inI (x * y) := by
  rw [wrap64_of (tdiv_in (inI_wrap _) h0 h1), Bool.eq_iff_iff, beq_iff_eq]
  constructor
  · intro h
    have hd := Int.mul_tdiv_add_tmod (wrap64 (x * y)) y
    rw [h, Int.mul_comm y x] at hd
    have hr := Int.natAbs_tmod (wrap64 (x * y)) y
    have hlt : (wrap64 (x * y)).natAbs % y.natAbs < y.natAbs := Nat.mod_lt _ (by omega)
    rw [inI_iff] at hy ⊢
    have hw : ∃ q : Int, wrap64 (x * y) = x * y + 18446744073709551616 * q := by
      unfold wrap64
      exact ⟨-((x * y + 9223372036854775808) / 18446744073709551616), by omega⟩
    obtain ⟨q, hq⟩ := hw
    have hi := inI_iff.1 (inI_wrap (x * y))
    generalize x * y = p at *
    generalize wrap64 p = n at *
    generalize n.tmod y = r at *
    omega
  · intro h
    rw [wrap64_of h, Int.mul_tdiv_cancel _ h0]
end Go.Proofs.YtiahojbliaaklaaGreatDoor
