/- The contract of the program's digits, whatever the sum without a sign. -/
import Derived.Test.YtjgpflodbloneaaDoorDivH
namespace Go.Proofs.YtjgpflodbloneaaDoor
open Go.RowKit

theorem div_sum (hi lo n1 n0 u Q1 Q0 R : Nat) (en1 : n1 = lo / 4294967296) (en0 : n0 = lo % 4294967296) (eu : u = (hi * 4294967296 + n1) % 10000000000000000000) (eR : R = (u * 4294967296 + n0) % 10000000000000000000) (eQ1 : Q1 = qD hi n1) (eQ0 : Q0 = qD u n0) :
    (Q1 * 4294967296 + Q0) * 10000000000000000000 + R = hi * 18446744073709551616 + lo ∧ R < 10000000000000000000 := by
  unfold qD at *
  omega
/-- The division's answer, whatever it is of. -/
theorem div_split (hi lo : Nat) (h1 : hi < 10000000000000000000) (h2 : lo < 18446744073709551616) : ∃ f b : Nat, f < 18446744073709551616 ∧ b < 10000000000000000000 ∧ f * 10000000000000000000 + b = hi * 18446744073709551616 + lo
    ∧ Hid (∀ w, Calls Tryd.prog 37 #[.int .u64 hi, .int .u64 lo, .int .u64 10000000000000000000] w fun e w' => e = .returned (.tuple #[.int .u64 f, .int .u64 b]) ∧ Below w.heap.size w w') := by
  by_cases h0 : hi = 0
  · subst h0
    exact ⟨lo / 10000000000000000000, lo % 10000000000000000000, by omega, by omega, by omega, Lib.hid fun w => div_low lo w h2⟩
  · obtain ⟨n1, en1⟩ : ∃ n1, n1 = lo / 4294967296 := ⟨_, rfl⟩
    obtain ⟨n0, en0⟩ : ∃ n0, n0 = lo % 4294967296 := ⟨_, rfl⟩
    obtain ⟨u, eu⟩ : ∃ u, u = (hi * 4294967296 + n1) % 10000000000000000000 := ⟨_, rfl⟩
    obtain ⟨R, eR⟩ : ∃ R, R = (u * 4294967296 + n0) % 10000000000000000000 := ⟨_, rfl⟩
    obtain ⟨Q1, eQ1⟩ : ∃ Q1, Q1 = qD hi n1 := ⟨_, rfl⟩
    obtain ⟨Q0, eQ0⟩ : ∃ Q0, Q0 = qD u n0 := ⟨_, rfl⟩
    have l1 : n1 < 4294967296 := by omega
    have l0 : n0 < 4294967296 := by omega
    have lu : u < 10000000000000000000 := by omega
    obtain ⟨e1, e2⟩ := div_sum hi lo n1 n0 u Q1 Q0 R en1 en0 eu eR eQ1 eQ0
    have q1 : Q1 < 4294967296 := eQ1 ▸ qD_lt hi n1 h1 l1
    have q0 : Q0 < 4294967296 := eQ0 ▸ qD_lt u n0 lu l0
    exact ⟨Q1 * 4294967296 + Q0, R, by omega, e2, e1, Lib.hid fun w => (div_letters hi lo n1 n0 u Q1 Q0 R w (by omega) h1 h2 en1 en0 l1 l0 eu lu eR eQ1 eQ0).mono fun e w' h => ⟨h.1, by rw [← h.2]; exact Below.refl _ _⟩⟩
theorem prog_digits (h : Int) (hu l : Nat) (w : World) (hw : IntKind.u64.wrap h = (hu : Int)) (h1 : hu < 10000000000000000000) (h2 : l < 18446744073709551616) (htab : TabW w) :
    Calls Tryd.prog 18 #[.agg #[.int .i64 h, .int .u64 l]] w fun e w' => e = .returned (.string ⟨(Lib.decDigits (hu * 18446744073709551616 + l)).toArray⟩) ∧ Below w.heap.size w w' := by
  obtain ⟨f, b, hf, hb, e, HD⟩ := div_split hu l h1 h2
  rw [← e]
  exact digits_any h hu l f b w hw hf hb HD htab
end Go.Proofs.YtjgpflodbloneaaDoor
