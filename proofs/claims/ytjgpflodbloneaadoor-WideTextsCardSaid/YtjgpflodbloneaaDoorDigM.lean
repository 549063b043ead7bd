/- Plain mathematics: the digits of a number in blocks. -/
import Derived.Lib.ItoaNum
import Derived.Lib.Repeat
namespace Go.Proofs.YtjgpflodbloneaaDoor

theorem rep_snoc (k : Nat) : Lib.repeatL [48] (k + 1) = Lib.repeatL [48] k ++ [48] := by
  induction k with
  | zero => rfl
  | succ k ih =>
    have e : ∀ n, Lib.repeatL [48] (n + 1) = [48] ++ Lib.repeatL [48] n := fun _ => rfl
    rw [e (k + 1), ih, ← List.append_assoc, ← e k, ih]
theorem dig_len : ∀ (k b : Nat), b < 10 ^ (k + 1) → 1 ≤ (Lib.decDigits b).length ∧ (Lib.decDigits b).length ≤ k + 1
  | 0, b, h => by rw [Lib.decDigits, dif_pos (by omega)]; simp
  | k + 1, b, h => by
    rw [Lib.decDigits]
    split
    · simp
    · have := dig_len k (b / 10) (by rw [Nat.pow_succ] at h; omega)
      rw [List.length_append]
      simp only [List.length_cons, List.length_nil]
      omega
/-- A front of at least 1, then k + 1 places. -/
theorem dig_blocks (f : Nat) (hf : 1 ≤ f) : ∀ (k b : Nat), b < 10 ^ (k + 1) →
    Lib.decDigits (f * 10 ^ (k + 1) + b) = Lib.decDigits f ++ Lib.repeatL [48] (k + 1 - (Lib.decDigits b).length) ++ Lib.decDigits b
  | 0, b, h => by
    have hb : b < 10 := by omega
    rw [Lib.decDigits, dif_neg (by omega)]
    have e1 : (f * 10 ^ (0 + 1) + b) / 10 = f := by omega
    have e2 : (f * 10 ^ (0 + 1) + b) % 10 = b := by omega
    have e3 : Lib.decDigits b = [UInt8.ofNat (48 + b)] := by rw [Lib.decDigits, dif_pos hb]
    rw [e1, e2, e3]
    simp [Lib.repeatL]
  | k + 1, b, h => by
    have hb : b / 10 < 10 ^ (k + 1) := by rw [Nat.pow_succ] at h; omega
    have ih := dig_blocks f hf k (b / 10) hb
    have hl := dig_len k (b / 10) hb
    have hp : 10 ^ (k + 1 + 1) = 10 * 10 ^ (k + 1) := by rw [Nat.pow_succ]; omega
    have hge : 1 ≤ 10 ^ (k + 1) := Nat.pos_of_ne_zero (by simp)
    have e1 : (f * 10 ^ (k + 1 + 1) + b) / 10 = f * 10 ^ (k + 1) + b / 10 := by
      rw [hp, show f * (10 * 10 ^ (k + 1)) = 10 * (f * 10 ^ (k + 1)) by rw [Nat.mul_left_comm]]
      omega
    have e2 : (f * 10 ^ (k + 1 + 1) + b) % 10 = b % 10 := by
      rw [hp, show f * (10 * 10 ^ (k + 1)) = 10 * (f * 10 ^ (k + 1)) by rw [Nat.mul_left_comm]]
      omega
    have hbig : ¬ f * 10 ^ (k + 1 + 1) + b < 10 := by
      have : 10 ≤ f * 10 ^ (k + 1 + 1) := by
        calc 10 ≤ 10 * 10 ^ (k + 1) := by omega
          _ = 1 * 10 ^ (k + 1 + 1) := by rw [hp]; omega
          _ ≤ f * 10 ^ (k + 1 + 1) := Nat.mul_le_mul_right _ hf
      omega
    rw [Lib.decDigits, dif_neg hbig, e1, e2, ih]
    by_cases hb10 : b < 10
    · have e0 : b / 10 = 0 := by omega
      have e3 : Lib.decDigits b = [UInt8.ofNat (48 + b)] := by rw [Lib.decDigits, dif_pos hb10]
      have e4 : Lib.decDigits 0 = [48] := by rw [Lib.decDigits, dif_pos (by omega)]; rfl
      have e5 : b % 10 = b := by omega
      rw [e0, e3, e4, e5]
      simp only [List.length_cons, List.length_nil]
      rw [show k + 1 + 1 - (0 + 1) = k + 1 - (0 + 1) + 1 by omega, rep_snoc]
      simp
    · have e3 : Lib.decDigits b = Lib.decDigits (b / 10) ++ [UInt8.ofNat (48 + b % 10)] := by
        rw [Lib.decDigits, dif_neg hb10]
      rw [e3, List.length_append]
      simp only [List.length_cons, List.length_nil]
      rw [show k + 1 + 1 - ((Lib.decDigits (b / 10)).length + (0 + 1)) = k + 1 - (Lib.decDigits (b / 10)).length by omega]
      simp
end Go.Proofs.YtjgpflodbloneaaDoor
