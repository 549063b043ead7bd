/- Plain mathematics for the division by 10^19: y = 2328306436 * 2^32 + 2313682944, one digit of 32 bits at a time. -/
namespace Go.Proofs.YtjgpflodbloneaaDoor

/-- The true digit of u * 2^32 + n by y. -/
def qD (u n : Nat) : Nat := (u * 4294967296 + n) / 10000000000000000000
/-- What a round of the correction knows of its guess q and its rest r. -/
def guess (u n q r : Nat) : Prop := u = q * 2328306436 + r ∧ qD u n ≤ q ∧ q ≤ 4294967298
theorem guess_start (u n : Nat) (hu : u < 10000000000000000000) (hn : n < 4294967296) : guess u n (u / 2328306436) (u % 2328306436) := by
  unfold guess qD
  omega
theorem guess_more {u n q r : Nat} (hu : u < 10000000000000000000) (hn : n < 4294967296) (h : guess u n q r) (t : 4294967296 ≤ q ∨ r * 4294967296 + n < q * 2313682944) : guess u n (q - 1) (r + 2328306436) ∧ 1 ≤ q := by
  unfold guess qD at *
  omega
theorem guess_end {u n q r : Nat} (h : guess u n q r) (t : ¬ (4294967296 ≤ q ∨ r * 4294967296 + n < q * 2313682944)) : q = qD u n := by
  unfold guess qD at *
  omega
theorem guess_over {u n q r : Nat} (hn : n < 4294967296) (h : guess u n q r) (t : 4294967296 ≤ r) (hq : q ≤ 4294967297) : q = qD u n := by
  unfold guess qD at *
  omega
end Go.Proofs.YtjgpflodbloneaaDoor
