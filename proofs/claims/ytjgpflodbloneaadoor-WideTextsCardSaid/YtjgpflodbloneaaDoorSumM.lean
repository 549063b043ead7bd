/- Plain mathematics: a number of 128 bits as a sum's High and Low. -/
import Derived.Test.YtjgpflodbloneaaDoorRefM
namespace Go.Proofs.YtjgpflodbloneaaDoor

/-- High. -/
def hiB (x : BitVec 128) : Int := x.toInt / 18446744073709551616
/-- Low. -/
def loB (x : BitVec 128) : Nat := x.toNat % 18446744073709551616
theorem hi_eq (x : BitVec 128) : hiB x * 18446744073709551616 + loB x = x.toInt := by
  have := toInt_case x
  unfold hiB loB
  omega
theorem hi_lo (x : BitVec 128) : -9223372036854775808 ≤ hiB x := by
  have := toInt_case x
  have := x.isLt
  unfold hiB
  omega
theorem hi_hi (x : BitVec 128) : hiB x ≤ 9223372036854775807 := by
  have := toInt_case x
  have h1 := BitVec.toInt_lt (x := x)
  unfold hiB
  omega
theorem lo_lt (x : BitVec 128) : loB x < 18446744073709551616 := by unfold loB; omega
theorem mk_hi_lo (x : BitVec 128) : mkB (hiB x) (loB x) = x := by
  unfold mkB
  rw [hi_eq, BitVec.ofInt_toInt]
theorem mk_toInt (h : Int) (l : Nat) (h0 : -9223372036854775808 ≤ h) (h1 : h ≤ 9223372036854775807) (hl : l < 18446744073709551616) : (mkB h l).toInt = h * 18446744073709551616 + l := by
  unfold mkB
  rw [BitVec.toInt_ofInt, Int.bmod_eq_of_le] <;> omega
theorem hi_mk (h : Int) (l : Nat) (h0 : -9223372036854775808 ≤ h) (h1 : h ≤ 9223372036854775807) (hl : l < 18446744073709551616) : hiB (mkB h l) = h := by
  unfold hiB
  rw [mk_toInt h l h0 h1 hl]
  omega
theorem lo_mk (h : Int) (l : Nat) (h0 : -9223372036854775808 ≤ h) (h1 : h ≤ 9223372036854775807) (hl : l < 18446744073709551616) : loB (mkB h l) = l := by
  have h2 := hi_eq (mkB h l)
  rw [mk_toInt h l h0 h1 hl, hi_mk h l h0 h1 hl] at h2
  omega
theorem sum_ext {x y : BitVec 128} (h : hiB x = hiB y) (l : loB x = loB y) : x = y := by
  rw [← mk_hi_lo x, ← mk_hi_lo y, h, l]
theorem hi_nat (x : BitVec 128) : (hiB x = (x.toNat / 18446744073709551616 : Nat) ∧ x.toNat / 18446744073709551616 < 9223372036854775808) ∨ (hiB x = (x.toNat / 18446744073709551616 : Nat) - 18446744073709551616 ∧ 9223372036854775808 ≤ x.toNat / 18446744073709551616 ∧ x.toNat / 18446744073709551616 < 18446744073709551616) := by
  have h := toInt_case x
  have h1 := hi_lo x
  have h2 := hi_hi x
  have h3 := x.isLt
  unfold hiB at *
  omega
/-- An int of 64 bits, gone round. -/
def w64 (n : Int) : Int := (n + 9223372036854775808) % 18446744073709551616 - 9223372036854775808
theorem w64_eq (n : Int) : ∃ q : Int, w64 n = n + q * 18446744073709551616 ∧ -9223372036854775808 ≤ w64 n ∧ w64 n ≤ 9223372036854775807 := by
  unfold w64
  exact ⟨-((n + 9223372036854775808) / 18446744073709551616), by omega, by omega, by omega⟩
theorem add_lo (x y : BitVec 128) : loB (x + y) = (loB x + loB y) % 18446744073709551616 := by
  unfold loB
  rw [BitVec.toNat_add]
  omega
theorem add_hi (x y : BitVec 128) : hiB (x + y) = w64 (w64 (hiB x + hiB y) + ((loB x + loB y) / 18446744073709551616 : Nat)) := by
  obtain ⟨q1, e1, a1, b1⟩ := w64_eq (hiB x + hiB y)
  obtain ⟨q2, e2, a2, b2⟩ := w64_eq (w64 (hiB x + hiB y) + ((loB x + loB y) / 18446744073709551616 : Nat))
  have hx := hi_nat x
  have hy := hi_nat y
  have hz := hi_nat (x + y)
  have e := BitVec.toNat_add x y
  have lx := x.isLt
  have ly := y.isLt
  unfold loB at *
  generalize hiB (x + y) = hz' at *
  generalize hiB x = hx' at *
  generalize hiB y = hy' at *
  generalize (x + y).toNat = nz at *
  generalize x.toNat = nx at *
  generalize y.toNat = ny at *
  omega
theorem sub_lo (x y : BitVec 128) : (loB (x - y) : Int) = ((loB x : Int) - loB y) % 18446744073709551616 := by
  unfold loB
  rw [BitVec.toNat_sub]
  have := y.isLt
  omega
theorem sub_hi (x y : BitVec 128) {b : Nat} (hb : b = if loB x < loB y then 1 else 0) : hiB (x - y) = w64 (w64 (hiB x - hiB y) - b) := by
  obtain ⟨q1, e1, a1, b1⟩ := w64_eq (hiB x - hiB y)
  obtain ⟨q2, e2, a2, b2⟩ := w64_eq (w64 (hiB x - hiB y) - b)
  have hx := hi_nat x
  have hy := hi_nat y
  have hz := hi_nat (x - y)
  have e := BitVec.toNat_sub x y
  have lx := x.isLt
  have ly := y.isLt
  unfold loB at *
  generalize hiB (x - y) = hz' at *
  generalize hiB x = hx' at *
  generalize hiB y = hy' at *
  generalize (x - y).toNat = nz at *
  generalize x.toNat = nx at *
  generalize y.toNat = ny at *
  split at hb <;> omega
theorem of_hi (n : Int) (h0 : -9223372036854775808 ≤ n) (h1 : n ≤ 9223372036854775807) : hiB (BitVec.ofInt 128 n) = n / 9223372036854775808 := by
  have e : (BitVec.ofInt 128 n).toInt = n := by rw [BitVec.toInt_ofInt, Int.bmod_eq_of_le] <;> omega
  unfold hiB
  rw [e]
  omega
theorem of_toInt (n : Int) (h0 : -9223372036854775808 ≤ n) (h1 : n ≤ 9223372036854775807) : (BitVec.ofInt 128 n).toInt = n := by
  rw [BitVec.toInt_ofInt, Int.bmod_eq_of_le] <;> omega
theorem of_lo (n : Int) : loB (BitVec.ofInt 128 n) = hN n := by
  unfold loB hN
  rw [BitVec.toNat_ofInt]
  omega
/-- Is it an int of 64 bits? -/
def fitB (x : BitVec 128) : Bool := decide (-9223372036854775808 ≤ x.toInt) && decide (x.toInt ≤ 9223372036854775807)
theorem fit_of (n : Int) (h0 : -9223372036854775808 ≤ n) (h1 : n ≤ 9223372036854775807) : fitB (BitVec.ofInt 128 n) = true := by
  unfold fitB; rw [of_toInt n h0 h1]; simp [h0, h1]
end Go.Proofs.YtjgpflodbloneaaDoor
