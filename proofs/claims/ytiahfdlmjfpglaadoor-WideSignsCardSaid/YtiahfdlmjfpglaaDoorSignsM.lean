/- Plain mathematics for WideSigns: the signs of differences of sums of two ints. -/
import Derived.Test.YtiahfdlmjfpglaaDoorIntM
namespace Go.Proofs.YtiahfdlmjfpglaaDoor

/-- Far from the ends. -/
def farB (x : BitVec 128) : Prop := -36893488147419103232 ≤ x.toInt ∧ x.toInt ≤ 36893488147419103232
theorem far_two (m n : Int) (hm : -9223372036854775808 ≤ m ∧ m ≤ 9223372036854775807) (hn : -9223372036854775808 ≤ n ∧ n ≤ 9223372036854775807) : farB (BitVec.ofInt 128 m + BitVec.ofInt 128 n) := by
  have e : (BitVec.ofInt 128 m + BitVec.ofInt 128 n).toInt = m + n := by
    rw [← BitVec.ofInt_add, BitVec.toInt_ofInt, Int.bmod_eq_of_le] <;> omega
  unfold farB
  rw [e]
  omega
theorem sub_far {x y : BitVec 128} (hx : farB x) (hy : farB y) : (x - y).toInt = x.toInt - y.toInt := by
  unfold farB at *
  rw [BitVec.toInt_sub, Int.bmod_eq_of_le] <;> omega
theorem sign_cmp {x y : BitVec 128} (hx : farB x) (hy : farB y) : cmpI (x - y).toInt (0#128).toInt = cmpI x.toInt y.toInt := by
  rw [sub_far hx hy, show (0#128).toInt = 0 from rfl]
  unfold cmpI
  repeat' split
  all_goals omega
theorem sign_turn (a b : Int) : cmpI b a = -cmpI a b := by
  unfold cmpI
  repeat' split
  all_goals omega
theorem sign_zero (x y : BitVec 128) : (cmpI x.toInt y.toInt = 0) ↔ x = y := by
  constructor
  · intro h
    apply BitVec.eq_of_toInt_eq
    unfold cmpI at h
    split at h
    · omega
    · split at h <;> omega
  · rintro rfl
    exact cmp_self x
theorem sign_sum (x y : BitVec 128) : (x - y) + (y - x) = 0#128 := by
  apply BitVec.eq_of_toNat_eq
  rw [BitVec.toNat_add, BitVec.toNat_sub, BitVec.toNat_sub]
  have := x.isLt
  have := y.isLt
  simp
  omega
end Go.Proofs.YtiahfdlmjfpglaaDoor
