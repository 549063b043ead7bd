/- Plain mathematics: sums, signs and tenths of numbers of 128 bits, bit by bit. -/
import Derived.Test.YtjgpflodbloneaaDoorBitsM
namespace Go.Proofs.YtjgpflodbloneaaDoor

theorem ofInt_neg (n : Int) (h0 : -9223372036854775808 ≤ n) (h1 : n < 0) : mkB (-1) (hN n) = BitVec.ofInt 128 n := by
  unfold mkB hN
  congr 1
  omega
theorem ofInt_pos (n : Int) (h0 : 0 ≤ n) (h1 : n ≤ 9223372036854775807) : mkB 0 (hN n) = BitVec.ofInt 128 n := by
  unfold mkB hN
  congr 1
  omega

/-- The first k bits of a sum. -/
def aF (x y : BitVec 128) (k j : Nat) : Bool := decide (j < k) && (x + y).getLsbD j
theorem aF_zero (x y : BitVec 128) : fArr (aF x y 0) = fArr fun _ => false := fArr_ext fun j _ => by simp [aF]
theorem aF_end (x y : BitVec 128) : fArr (aF x y 128) = wArr (x + y) := fArr_ext fun j hj => by simp [aF, hj]
/-- What is carried into bit k. -/
def cF (x y : BitVec 128) (k : Nat) : Bool := BitVec.carry k x y false
theorem cF_zero (x y : BitVec 128) : cF x y 0 = false := by unfold cF; exact BitVec.carry_zero
theorem aF_step (x y : BitVec 128) (k : Nat) (hk : k < 128) {b : Bool} (hb : b = (x.getLsbD k ^^ (y.getLsbD k ^^ cF x y k))) :
    fArr (fun j => if j = k then b else aF x y k j) = fArr (aF x y (k + 1)) := fArr_ext fun j hj => by
  unfold aF
  by_cases e : j = k
  · subst e
    rw [if_pos rfl, hb, BitVec.getLsbD_add hk]
    simp [cF]
  · have : (j < k + 1) = (j < k) := by simp; omega
    simp [e, this]
theorem cF_step (x y : BitVec 128) (k : Nat) : cF x y (k + 1) = Bool.atLeastTwo (x.getLsbD k) (y.getLsbD k) (cF x y k) := by
  unfold cF; rw [BitVec.carry_succ]

/-- The first k bits turned. -/
def nF (x : BitVec 128) (k j : Nat) : Bool := if j < k then !x.getLsbD j else x.getLsbD j
theorem nF_zero (x : BitVec 128) : fArr (nF x 0) = wArr x := fArr_ext fun j _ => by simp [nF]
theorem nF_end (x : BitVec 128) : fArr (nF x 128) = wArr (~~~x) := fArr_ext fun j hj => by simp [nF, hj]
theorem nF_step (x : BitVec 128) (k : Nat) (hk : k < 128) : fArr (fun j => if j = k then !nF x k k else nF x k j) = fArr (nF x (k + 1)) := fArr_ext fun j hj => by
  unfold nF
  by_cases e : j = k
  · subst e; simp
  · have : (j < k + 1) = (j < k) := by simp; omega
    simp [e, this]
theorem neg_not (x : BitVec 128) : ~~~x + BitVec.ofInt 128 1 = -x := by
  rw [BitVec.neg_eq_not_add]; rfl

/-- -1, 0, 1. -/
def cmpI (a b : Int) : Int := if a < b then -1 else if b < a then 1 else 0
theorem msb_get (x : BitVec 128) : x.getLsbD 127 = decide (x.toInt < 0) := by
  have := BitVec.msb_eq_getLsbD_last x
  rw [show (128 - 1) = 127 from rfl] at this
  rw [← this, BitVec.msb_eq_toInt]
theorem bit_nat (x : BitVec 128) (k : Nat) : x.getLsbD k = decide (x.toNat / 2 ^ k % 2 = 1) := by
  rw [← BitVec.testBit_toNat, bit_div]
theorem toInt_case (x : BitVec 128) : (0 ≤ x.toInt ∧ x.toInt = x.toNat ∧ x.toNat < 170141183460469231731687303715884105728) ∨ (x.toInt < 0 ∧ x.toInt = x.toNat - 340282366920938463463374607431768211456 ∧ 170141183460469231731687303715884105728 ≤ x.toNat) := by
  have h := BitVec.toInt_eq_toNat_cond x
  have hl := x.isLt
  split at h <;> omega
theorem top_zero (x : BitVec 128) : x.toNat / 2 ^ 128 = 0 := Nat.div_eq_of_lt x.isLt
/-- As far as both are the same from bit k on. -/
def sameFrom (x y : BitVec 128) (k : Nat) : Prop := x.toNat / 2 ^ k = y.toNat / 2 ^ k
theorem same_step {x y : BitVec 128} {k : Nat} (h : sameFrom x y (k + 1)) (e : x.getLsbD k = y.getLsbD k) : sameFrom x y k := by
  unfold sameFrom at *
  rw [← div_step, ← div_step] at h
  rw [bit_nat, bit_nat, decide_eq_decide] at e
  omega
theorem same_lt {x y : BitVec 128} {k : Nat} (h : sameFrom x y (k + 1)) (e : x.getLsbD k = false) (e' : y.getLsbD k = true) : x.toNat < y.toNat := by
  unfold sameFrom at h
  rw [← div_step, ← div_step] at h
  rw [bit_nat, decide_eq_false_iff_not] at e
  rw [bit_nat, decide_eq_true_eq] at e'
  have h2 : x.toNat / 2 ^ k < y.toNat / 2 ^ k := by omega
  rcases Nat.lt_or_ge x.toNat y.toNat with h3 | h3
  · exact h3
  · have := Nat.div_le_div_right (c := 2 ^ k) h3; omega
theorem same_end {x y : BitVec 128} (h : sameFrom x y 0) : x = y := by
  unfold sameFrom at h
  apply BitVec.eq_of_toNat_eq
  simpa using h
theorem same_top {x y : BitVec 128} (e : x.getLsbD 127 = y.getLsbD 127) : sameFrom x y 127 := by
  refine same_step ?_ e
  show x.toNat / 2 ^ 128 = y.toNat / 2 ^ 128
  rw [top_zero, top_zero]
theorem cmp_msb_lt {x y : BitVec 128} (e : x.getLsbD 127 = true) (e' : y.getLsbD 127 = false) : cmpI x.toInt y.toInt = -1 := by
  rw [msb_get] at e e'
  simp at e e'
  unfold cmpI
  rw [if_pos (by omega)]
theorem cmp_msb_gt {x y : BitVec 128} (e : x.getLsbD 127 = false) (e' : y.getLsbD 127 = true) : cmpI x.toInt y.toInt = 1 := by
  rw [msb_get] at e e'
  simp at e e'
  unfold cmpI
  rw [if_neg (by omega), if_pos (by omega)]
theorem cmp_nat {x y : BitVec 128} (e : x.getLsbD 127 = y.getLsbD 127) : cmpI x.toInt y.toInt = if x.toNat < y.toNat then -1 else if y.toNat < x.toNat then 1 else 0 := by
  rw [msb_get, msb_get, decide_eq_decide] at e
  have h1 := toInt_case x
  have h2 := toInt_case y
  have e1 : (x.toInt < y.toInt) = (x.toNat < y.toNat) := by simp; omega
  have e2 : (y.toInt < x.toInt) = (y.toNat < x.toNat) := by simp; omega
  unfold cmpI
  simp only [e1, e2]
theorem cmp_at_lt {x y : BitVec 128} {k : Nat} (e : x.getLsbD 127 = y.getLsbD 127) (h : sameFrom x y (k + 1)) (e1 : x.getLsbD k = false) (e2 : y.getLsbD k = true) : cmpI x.toInt y.toInt = -1 := by
  rw [cmp_nat e, if_pos (same_lt h e1 e2)]
theorem cmp_at_gt {x y : BitVec 128} {k : Nat} (e : x.getLsbD 127 = y.getLsbD 127) (h : sameFrom x y (k + 1)) (e1 : x.getLsbD k = true) (e2 : y.getLsbD k = false) : cmpI x.toInt y.toInt = 1 := by
  have := same_lt (x := y) (y := x) (k := k) (by unfold sameFrom at *; exact h.symm) e2 e1
  rw [cmp_nat e, if_neg (by omega), if_pos this]
theorem cmp_self (x : BitVec 128) : cmpI x.toInt x.toInt = 0 := by
  unfold cmpI; rw [if_neg (by omega), if_neg (by omega)]

/-- What is left of the bits from k on, by ten. -/
def rF (x : BitVec 128) (k : Nat) : Nat := x.toNat / 2 ^ k % 10
/-- The tenth's bits from k on. -/
def tF (x : BitVec 128) (k j : Nat) : Bool := decide (k ≤ j) && (x / 10#128).getLsbD j
theorem tF_start (x : BitVec 128) : fArr (tF x 128) = fArr fun _ => false := fArr_ext fun j hj => by simp [tF]; omega
theorem tF_end (x : BitVec 128) : fArr (tF x 0) = wArr (x / 10#128) := fArr_ext fun j _ => by simp [tF]
theorem rF_start (x : BitVec 128) : rF x 128 = 0 := by unfold rF; rw [top_zero]
theorem rF_end (x : BitVec 128) : rF x 0 = x.toNat % 10 := by simp [rF]
theorem rF_lt (x : BitVec 128) (k : Nat) : rF x k < 10 := Nat.mod_lt _ (by decide)
theorem ten_nat (x : BitVec 128) : (x / 10#128).toNat = x.toNat / 10 := by rw [BitVec.toNat_udiv]; rfl
theorem ten_bit (x : BitVec 128) (k : Nat) : (x / 10#128).getLsbD k = decide (10 ≤ 2 * rF x (k + 1) + (x.getLsbD k).toNat) := by
  rw [bit_nat, ten_nat, bit_nat, decide_eq_decide, Nat.div_div_eq_div_mul, Nat.mul_comm, ← Nat.div_div_eq_div_mul]
  unfold rF
  rw [← div_step]
  generalize x.toNat / 2 ^ k = m
  by_cases h : m % 2 = 1
  · simp [h]; omega
  · simp [h]; omega
theorem rF_step (x : BitVec 128) (k : Nat) : rF x k = (2 * rF x (k + 1) + (x.getLsbD k).toNat) % 10 := by
  rw [bit_nat]
  unfold rF
  rw [← div_step]
  generalize x.toNat / 2 ^ k = m
  by_cases h : m % 2 = 1
  · simp [h]; omega
  · simp [h]; omega
theorem tF_on (x : BitVec 128) (k : Nat) (h : (x / 10#128).getLsbD k = true) : fArr (fun j => if j = k then true else tF x (k + 1) j) = fArr (tF x k) := fArr_ext fun j hj => by
  unfold tF
  by_cases e : j = k
  · subst e; simp [h]
  · have : (k + 1 ≤ j) = (k ≤ j) := by simp; omega
    simp [e, this]
theorem tF_off (x : BitVec 128) (k : Nat) (h : (x / 10#128).getLsbD k = false) : fArr (tF x (k + 1)) = fArr (tF x k) := fArr_ext fun j hj => by
  unfold tF
  by_cases e : j = k
  · subst e; simp [h]
  · have : (k + 1 ≤ j) = (k ≤ j) := by simp; omega
    simp [this]
end Go.Proofs.YtjgpflodbloneaaDoor
