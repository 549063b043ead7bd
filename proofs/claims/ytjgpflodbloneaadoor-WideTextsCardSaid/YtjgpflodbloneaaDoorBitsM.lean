/- Plain mathematics: a sum's two halves and its 128 bits. -/
import Derived.Test.YtjgpflodbloneaaDoorWArr
namespace Go.Proofs.YtjgpflodbloneaaDoor

/-- High times 2^64, and Low, as 128 bits. -/
def mkB (h : Int) (l : Nat) : BitVec 128 := BitVec.ofInt 128 (h * 18446744073709551616 + l)
/-- High's 64 bits as a number from 0 on. -/
def hN (h : Int) : Nat := (h % 18446744073709551616).toNat
theorem hN_lt (h : Int) : hN h < 18446744073709551616 := by unfold hN; omega
theorem mkB_nat (h : Int) (l : Nat) (hl : l < 18446744073709551616) : mkB h l = BitVec.ofNat 128 (2 ^ 64 * hN h + l) := by
  unfold mkB hN
  apply BitVec.eq_of_toNat_eq
  rw [BitVec.toNat_ofInt, BitVec.toNat_ofNat]
  omega
theorem mkB_bit (h : Int) (l : Nat) (hl : l < 18446744073709551616) {j : Nat} (hj : j < 128) : (mkB h l).getLsbD j = if j < 64 then l.testBit j else (hN h).testBit (j - 64) := by
  rw [mkB_nat h l hl, BitVec.getLsbD_ofNat, Nat.testBit_two_pow_mul_add _ (by omega)]
  simp [hj]
theorem bit_div (n k : Nat) : n.testBit k = decide (n / 2 ^ k % 2 = 1) := by
  rw [Nat.testBit_eq_decide_div_mod_eq]
theorem div_step (n k : Nat) : n / 2 ^ k / 2 = n / 2 ^ (k + 1) := by
  rw [Nat.div_div_eq_div_mul, Nat.pow_succ]
/-- How far the bits are laid: the first k of each half. -/
def bF (l hu k : Nat) (j : Nat) : Bool := if j < 64 then decide (j < k) && l.testBit j else decide (j - 64 < k) && hu.testBit (j - 64)
theorem bF_zero (l hu : Nat) : fArr (bF l hu 0) = fArr fun _ => false := fArr_ext fun j _ => by unfold bF; split <;> simp
theorem bF_step (l hu k : Nat) (hk : k < 64) {b c : Bool} (hb : b = l.testBit k) (hc : c = hu.testBit k) :
    fArr (fun j => if j = 64 + k then c else if j = k then b else bF l hu k j) = fArr (bF l hu (k + 1)) := fArr_ext fun j hj => by
  unfold bF
  by_cases e : j = 64 + k
  · subst e; simp [hc, show ¬ 64 + k < 64 by omega]
  · by_cases e' : j = k
    · subst e'; simp [hb, hk]
    · by_cases h1 : j < 64
      · have : (j < k + 1) = (j < k) := by simp; omega
        simp [e, e', h1, this]
      · have : (j - 64 < k + 1) = (j - 64 < k) := by simp; omega
        simp [e, e', h1, this]
theorem bF_end (h : Int) (l : Nat) (hl : l < 18446744073709551616) : fArr (bF l (hN h) 64) = wArr (mkB h l) := fArr_ext fun j hj => by
  rw [mkB_bit h l hl hj]
  unfold bF
  split
  · next h1 => simp [h1]
  · next h1 => have : j - 64 < 64 := by omega
               simp [this]
end Go.Proofs.YtjgpflodbloneaaDoor
