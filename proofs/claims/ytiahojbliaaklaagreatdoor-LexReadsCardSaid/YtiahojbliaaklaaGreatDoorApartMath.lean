/- Plain facts on texts of values: two good values have one text just if they are the same. -/
import Derived.Test.YtiahojbliaaklaaGreatDoorText
namespace Go.Proofs.YtiahojbliaaklaaGreatDoor
open Go.RowKit

theorem hexd_inj {a b : Nat} (ha : a < 16) (hb : b < 16) (h : hexd a = hexd b) : a = b := by
  have : ∀ i j : Fin 16, hexd i.val = hexd j.val → i = j := by decide +kernel
  exact congrArg Fin.val (this ⟨a, ha⟩ ⟨b, hb⟩ h)
theorem q1_ne_nil (c : UInt8) : q1 c ≠ [] := by
  unfold q1; split
  · simp
  · split <;> simp
theorem q1_cases (c : UInt8) : (c = 39 ∧ q1 c = [39, 39]) ∨ (c ≠ 39 ∧ c ≠ 92 ∧ plainB c.toNat = true ∧ q1 c = [c]) ∨ (c ≠ 39 ∧ plainB c.toNat = false ∧ q1 c = [92, hexd (c.toNat / 16), hexd (c.toNat % 16)]) := by
  unfold q1
  by_cases h : c = 39
  · exact .inl ⟨h, by rw [if_pos h]⟩
  · by_cases hp : plainB c.toNat = true
    · refine .inr (.inl ⟨h, ?_, hp, by rw [if_neg h, if_pos hp]⟩)
      rintro rfl
      exact absurd hp (by decide)
    · exact .inr (.inr ⟨h, by simpa using hp, by rw [if_neg h, if_neg hp]⟩)
theorem q1_apart {c d : UInt8} {x y : List UInt8} (h : q1 c ++ x = q1 d ++ y) : c = d ∧ x = y := by
  rcases q1_cases c with ⟨rfl, e⟩ | ⟨h1, h2, _, e⟩ | ⟨h1, _, e⟩ <;> rcases q1_cases d with ⟨rfl, f⟩ | ⟨g1, g2, _, f⟩ | ⟨g1, _, f⟩ <;> rw [e] at h <;> (try rw [f] at h) <;> simp only [List.cons_append, List.nil_append, List.cons.injEq] at h
  · exact ⟨rfl, h.2.2⟩
  · exact absurd h.1.symm g1
  · exact absurd h.1 (by decide)
  · exact absurd h.1 h1
  · exact h
  · exact absurd h.1 h2
  · exact absurd h.1 (by decide)
  · exact absurd h.1.symm g2
  · obtain ⟨_, e1, e2, e3⟩ := h
    have hc := byte_lt c
    have hd := byte_lt d
    have i1 := hexd_inj (by omega) (by omega) e1
    have i2 := hexd_inj (by omega) (by omega) e2
    exact ⟨UInt8.toNat_inj.1 (by omega), e3⟩
theorem qs_inj : ∀ a b : List UInt8, qs a = qs b → a = b
  | [], [], _ => rfl
  | [], d :: b, h => by
    simp only [qs, List.flatMap_nil, List.flatMap_cons] at h
    exact absurd (List.append_eq_nil_iff.1 h.symm).1 (q1_ne_nil d)
  | c :: a, [], h => by
    simp only [qs, List.flatMap_nil, List.flatMap_cons] at h
    exact absurd (List.append_eq_nil_iff.1 h).1 (q1_ne_nil c)
  | c :: a, d :: b, h => by
    simp only [qs, List.flatMap_cons] at h
    obtain ⟨rfl, h2⟩ := q1_apart h
    rw [qs_inj a b h2]

/-- What digits say. -/
def dval (l : List UInt8) : Nat := l.foldl (fun n c => 10 * n + (c.toNat - 48)) 0
theorem dval_snoc (l : List UInt8) (c : UInt8) : dval (l ++ [c]) = 10 * dval l + (c.toNat - 48) := by simp [dval]
theorem dig_byte {d : Nat} (h : d < 10) : (UInt8.ofNat (48 + d)).toNat = 48 + d := by
  rw [UInt8.toNat_ofNat']; omega
theorem dval_digits (u : Nat) : dval (Lib.decDigits u) = u := by
  induction u using Nat.strongRecOn with
  | ind u ih =>
    rw [Lib.decDigits]
    split
    · rename_i h
      rw [show [UInt8.ofNat (48 + u)] = [] ++ [UInt8.ofNat (48 + u)] from rfl, dval_snoc, dig_byte h]
      simp [dval]
    · rename_i h
      rw [dval_snoc, ih (u / 10) (by omega), dig_byte (by omega)]
      omega
theorem digits_range (u : Nat) : ∀ c ∈ Lib.decDigits u, 48 ≤ c.toNat ∧ c.toNat ≤ 57 := by
  induction u using Nat.strongRecOn with
  | ind u ih =>
    rw [Lib.decDigits]
    split
    · rename_i h
      intro c hc
      simp only [List.mem_singleton] at hc
      subst hc
      rw [dig_byte h]; omega
    · rename_i h
      intro c hc
      rw [List.mem_append] at hc
      rcases hc with hc | hc
      · exact ih (u / 10) (by omega) c hc
      · simp only [List.mem_singleton] at hc
        subst hc
        rw [dig_byte (by omega)]; omega
theorem digits_ne_nil (u : Nat) : Lib.decDigits u ≠ [] := by
  rw [Lib.decDigits]; split <;> simp
/-- The first byte of an int's text: a digit, or the sign. -/
theorem itoa_head (n : Int) : ∃ c r, Lib.itoa n = c :: r ∧ ((n < 0 ∧ c = 45 ∧ r = Lib.decDigits n.natAbs) ∨ (0 ≤ n ∧ 48 ≤ c.toNat ∧ c.toNat ≤ 57 ∧ c :: r = Lib.decDigits n.toNat)) := by
  unfold Lib.itoa
  by_cases h : n < 0
  · rw [if_pos h]; exact ⟨45, _, rfl, .inl ⟨h, rfl, rfl⟩⟩
  · rw [if_neg h]
    cases e : Lib.decDigits n.toNat with
    | nil => exact absurd e (digits_ne_nil _)
    | cons c r =>
      have := digits_range n.toNat c (by rw [e]; simp)
      exact ⟨c, r, rfl, .inr ⟨by omega, this.1, this.2, rfl⟩⟩
theorem itoa_inj {a b : Int} (h : Lib.itoa a = Lib.itoa b) : a = b := by
  obtain ⟨c, r, e, hc⟩ := itoa_head a
  obtain ⟨d, t, f, hd⟩ := itoa_head b
  rw [e, f] at h
  obtain ⟨rfl, rfl⟩ := List.cons.inj h
  rcases hc with ⟨h1, rfl, h3⟩ | ⟨h1, h2, h3, h4⟩ <;> rcases hd with ⟨g1, g2, g3⟩ | ⟨g1, g2, g3, g4⟩
  · have := congrArg dval (h3.symm.trans g3)
    rw [dval_digits, dval_digits] at this
    omega
  · exact absurd g2 (by decide)
  · subst g2; exact absurd h2 (by decide)
  · have := congrArg dval (h4.symm.trans g4)
    rw [dval_digits, dval_digits] at this
    omega
theorem itoa_first {n : Int} {c : UInt8} {r : List UInt8} (h : Lib.itoa n = c :: r) : c = 45 ∨ (48 ≤ c.toNat ∧ c.toNat ≤ 57) := by
  obtain ⟨d, t, f, hd⟩ := itoa_head n
  rw [f] at h
  obtain ⟨rfl, rfl⟩ := List.cons.inj h
  rcases hd with ⟨_, rfl, _⟩ | ⟨_, h2, h3, _⟩
  · exact .inl rfl
  · exact .inr ⟨h2, h3⟩

/-- Of what kind a good value is, its text's first byte tells. -/
theorem textL_inj {k n : Int} {s : ByteArray} {k' n' : Int} {s' : ByteArray} (ha : goodB k n s = true) (hb : goodB k' n' s' = true) (h : textL k n s = textL k' n' s') : k = k' ∧ n = n' ∧ s.data.toList = s'.data.toList := by
  rcases good_kinds ha with ⟨rfl, rfl, e⟩ | ⟨rfl, rfl | rfl, e⟩ | ⟨rfl, e⟩ | ⟨rfl, rfl, _⟩ <;> rcases good_kinds hb with ⟨rfl, rfl, f⟩ | ⟨rfl, rfl | rfl, f⟩ | ⟨rfl, f⟩ | ⟨rfl, rfl, _⟩ <;> simp [textL] at h
  all_goals first | exact ⟨rfl, rfl, by rw [e, f]⟩ | exact ⟨rfl, itoa_inj h, by rw [e, f]⟩ | exact ⟨rfl, rfl, qs_inj _ _ h⟩ | (exfalso; rcases itoa_first h with h | h <;> revert h <;> decide) | (exfalso; rcases itoa_first h.symm with h | h <;> revert h <;> decide)
end Go.Proofs.YtiahojbliaaklaaGreatDoor
