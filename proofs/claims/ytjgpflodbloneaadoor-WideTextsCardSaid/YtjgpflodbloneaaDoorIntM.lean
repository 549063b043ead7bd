/- Plain mathematics: which numbers of 128 bits are ints of 64; orders by halves. -/
import Derived.Test.YtjgpflodbloneaaDoorSumM
namespace Go.Proofs.YtjgpflodbloneaaDoor

theorem cmp_halves (x y : BitVec 128) : cmpI x.toInt y.toInt = if cmpI (hiB x) (hiB y) = 0 then cmpI (loB x) (loB y) else cmpI (hiB x) (hiB y) := by
  have hx := hi_eq x
  have hy := hi_eq y
  have lx := lo_lt x
  have ly := lo_lt y
  unfold cmpI
  rw [← hx, ← hy]
  generalize hiB x = a at *
  generalize hiB y = b at *
  generalize loB x = c at *
  generalize loB y = d at *
  clear hx hy
  repeat' split
  all_goals omega

theorem fit_iff (x : BitVec 128) : fitB x = true ↔ (-9223372036854775808 ≤ x.toInt ∧ x.toInt ≤ 9223372036854775807) := by
  unfold fitB; simp
theorem fit_not (x : BitVec 128) (h : fitB x = false) : ¬ (-9223372036854775808 ≤ x.toInt ∧ x.toInt ≤ 9223372036854775807) := by
  intro h'
  rw [(fit_iff x).2 h'] at h
  cases h
/-- The low half as an int is the number itself, if that is one. -/
theorem fit_low (x : BitVec 128) (h : fitB x = true) : w64 (loB x) = x.toInt := by
  rw [fit_iff] at h
  have hx := toInt_case x
  unfold w64 loB
  omega
theorem low_range (x : BitVec 128) : -9223372036854775808 ≤ w64 (loB x) ∧ w64 (loB x) ≤ 9223372036854775807 := by
  unfold w64; omega
theorem low_lo (x : BitVec 128) : loB (BitVec.ofInt 128 (w64 (loB x))) = loB x := by
  rw [of_lo]
  have := lo_lt x
  unfold hN w64
  omega
theorem low_hi_fit (x : BitVec 128) (h : fitB x = true) : hiB (BitVec.ofInt 128 (w64 (loB x))) = hiB x := by
  rw [fit_low x h, BitVec.ofInt_toInt]
theorem low_hi_not (x : BitVec 128) (h : fitB x = false) : (hiB (BitVec.ofInt 128 (w64 (loB x))) == hiB x) = false := by
  have h' := fit_not x h
  have h1 := low_range x
  have h2 := of_hi (w64 (loB x)) h1.1 h1.2
  have h3 := hi_eq x
  have h4 := lo_lt x
  have : hiB (BitVec.ofInt 128 (w64 (loB x))) ≠ hiB x := by
    rw [h2]
    intro e
    apply h'
    revert e
    unfold w64
    omega
  simpa using this

/-- From bit 64 on as far as k all bits are bit 63. -/
def allTop (x : BitVec 128) (k : Nat) : Prop := ∀ j, 64 ≤ j → j < k → x.getLsbD j = x.getLsbD 63
theorem top_start (x : BitVec 128) : allTop x 64 := fun j h1 h2 => by omega
theorem top_step {x : BitVec 128} {k : Nat} (h : allTop x k) (e : x.getLsbD k = x.getLsbD 63) : allTop x (k + 1) := fun j h1 h2 => by
  by_cases e' : j = k
  · subst e'; exact e
  · exact h j h1 (by omega)
theorem ext_toInt (y : BitVec 64) : (y.signExtend 128).toInt = y.toInt := BitVec.toInt_signExtend_of_le (by decide)
theorem ext_bit (y : BitVec 64) {j : Nat} (h : j < 128) : (y.signExtend 128).getLsbD j = if j < 64 then y.getLsbD j else y.getLsbD 63 := by
  rw [BitVec.getLsbD_signExtend]
  simp [h, BitVec.msb_eq_getLsbD_last]
theorem fit_ext (x : BitVec 128) : fitB x = true ↔ x = (x.setWidth 64).signExtend 128 := by
  rw [fit_iff]
  constructor
  · intro h
    apply BitVec.eq_of_toInt_eq
    rw [ext_toInt]
    have hx := toInt_case x
    have e : (x.setWidth 64).toNat = x.toNat % 18446744073709551616 := BitVec.toNat_setWidth ..
    have h2 := BitVec.toInt_eq_toNat_cond (x.setWidth 64)
    rw [e] at h2
    split at h2 <;> omega
  · intro h
    have h1 := ext_toInt (x.setWidth 64)
    rw [← h] at h1
    have h2 := BitVec.toInt_eq_toNat_cond (x.setWidth 64)
    have h3 := (x.setWidth 64).isLt
    split at h2 <;> omega
theorem top_fit {x : BitVec 128} (h : allTop x 128) : fitB x = true := by
  rw [fit_ext]
  apply BitVec.eq_of_getLsbD_eq
  intro j hj
  rw [ext_bit _ hj]
  split
  · next h1 => simp [h1]
  · next h1 =>
    rw [h j (by omega) hj]
    simp
theorem not_fit {x : BitVec 128} {k : Nat} (h1 : 64 ≤ k) (h2 : k < 128) (e : x.getLsbD k ≠ x.getLsbD 63) : fitB x = false := by
  cases h : fitB x
  · rfl
  · rw [fit_ext] at h
    exfalso
    apply e
    rw [h, ext_bit _ h2, ext_bit _ (by decide), if_neg (by omega), if_pos (by decide)]
theorem low_step (x : BitVec 128) (k : Nat) : x.toNat % 2 ^ (k + 1) = x.toNat % 2 ^ k + 2 ^ k * (x.getLsbD k).toNat := by
  rw [bit_nat, Nat.mod_pow_succ]
  by_cases h : x.toNat / 2 ^ k % 2 = 1
  · simp [h]
  · simp [show x.toNat / 2 ^ k % 2 = 0 by omega]
end Go.Proofs.YtjgpflodbloneaaDoor
