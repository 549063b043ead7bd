/- Plain mathematics: bytes of numbers, values and rows end where they end: neither of two that differ begins the other. -/
import Derived.Test.YtnfpomjcofhppaaDoorSame4
namespace Go.Proofs.YtnfpomjcofhppaaDoor

theorem ofNat_lt {n : Nat} (h : n < 256) : (UInt8.ofNat n).toNat = n := UInt8.toNat_ofNat_of_lt' (by simp [UInt8.size]; omega)
theorem numB_split (n : Nat) : ∀ (m : Nat) (x y : List UInt8), numB n ++ x = numB m ++ y → n = m ∧ x = y := by
  induction n using Nat.strongRecOn with
  | ind n ih =>
    intro m x y h
    by_cases hn : n < 128 <;> by_cases hm : m < 128
    · rw [numB_small hn, numB_small hm] at h
      simp only [List.cons_append, List.nil_append, List.cons.injEq] at h
      have e := congrArg UInt8.toNat h.1
      rw [ofNat_lt (by omega), ofNat_lt (by omega)] at e
      exact ⟨e, h.2⟩
    · rw [numB_small hn, numB_great hm] at h
      simp only [List.cons_append, List.nil_append, List.cons.injEq] at h
      have e := congrArg UInt8.toNat h.1
      rw [ofNat_lt (by omega), ofNat_lt (by omega)] at e
      omega
    · rw [numB_great hn, numB_small hm] at h
      simp only [List.cons_append, List.nil_append, List.cons.injEq] at h
      have e := congrArg UInt8.toNat h.1
      rw [ofNat_lt (by omega), ofNat_lt (by omega)] at e
      omega
    · rw [numB_great hn, numB_great hm] at h
      simp only [List.cons_append, List.cons.injEq] at h
      have e := congrArg UInt8.toNat h.1
      rw [ofNat_lt (by omega), ofNat_lt (by omega)] at e
      obtain ⟨e1, e2⟩ := ih (n / 128) (by omega) (m / 128) x y h.2
      exact ⟨by omega, e2⟩
theorem zig_inj {n m : Int} (h : zig n = zig m) : n = m := by
  unfold zig at h
  split at h <;> split at h <;> omega
theorem strB_split {s t : ByteArray} {x y : List UInt8} (h : strB s ++ x = strB t ++ y) : s = t ∧ x = y := by
  unfold strB at h
  rw [List.append_assoc, List.append_assoc] at h
  obtain ⟨h1, h2⟩ := numB_split _ _ _ _ h
  have hl : s.data.toList.length = t.data.toList.length := by rw [size_list, size_list, h1]
  obtain ⟨h3, h4⟩ := List.append_inj h2 hl
  exact ⟨bytes_ext h3, h4⟩
theorem empty_of {s : ByteArray} (h : s.toList.isEmpty = true) : s = ⟨#[]⟩ := by
  apply bytes_ext
  rw [← Lib.toList_data]
  simpa using h
/-- A good value's shape, and its bytes. -/
theorem Vl.shape {x : Vl} (h : x.good = true) : (x = ⟨0, 0, ⟨#[]⟩⟩ ∧ x.bytes = [0]) ∨ (x = ⟨1, 0, ⟨#[]⟩⟩ ∧ x.bytes = [1]) ∨ (x = ⟨1, 1, ⟨#[]⟩⟩ ∧ x.bytes = [2]) ∨ (∃ n, x = ⟨2, n, ⟨#[]⟩⟩ ∧ x.bytes = 3 :: numB (zig n)) ∨ ∃ s, x = ⟨3, 0, s⟩ ∧ x.bytes = 4 :: strB s := by
  obtain ⟨k, n, s⟩ := x
  unfold Vl.good goodB at h
  unfold Vl.bytes valB
  simp only at h ⊢
  by_cases k0 : k = 0
  · subst k0
    rw [if_pos rfl, Bool.and_eq_true] at h
    have e := empty_of h.2
    have e2 : n = 0 := by simpa using h.1
    subst e e2
    exact .inl ⟨rfl, rfl⟩
  · rw [if_neg k0] at h
    by_cases k1 : k = 1
    · subst k1
      rw [if_pos rfl, Bool.and_eq_true] at h
      have e := empty_of h.2
      have e2 : n = 0 ∨ n = 1 := by simpa using h.1
      subst e
      rcases e2 with rfl | rfl
      · exact .inr (.inl ⟨rfl, rfl⟩)
      · exact .inr (.inr (.inl ⟨rfl, rfl⟩))
    · rw [if_neg k1] at h ⊢
      by_cases k2 : k = 2
      · subst k2
        rw [if_pos rfl] at h ⊢
        have e := empty_of h
        subst e
        exact .inr (.inr (.inr (.inl ⟨n, rfl, rfl⟩)))
      · rw [if_neg k2] at h ⊢
        by_cases k3 : k = 3
        · subst k3
          rw [if_pos rfl] at h ⊢
          have e2 : n = 0 ∧ s.size ≤ 60 := by simpa using h
          obtain ⟨rfl, _⟩ := e2
          exact .inr (.inr (.inr (.inr ⟨s, rfl, rfl⟩)))
        · rw [if_neg k3] at h
          cases h
theorem val_split {x y : Vl} (hx : x.good = true) (hy : y.good = true) {p q : List UInt8} (h : x.bytes ++ p = y.bytes ++ q) : x = y ∧ p = q := by
  rcases Vl.shape hx with ⟨e, b⟩ | ⟨e, b⟩ | ⟨e, b⟩ | ⟨n, e, b⟩ | ⟨s, e, b⟩ <;> rcases Vl.shape hy with ⟨e', b'⟩ | ⟨e', b'⟩ | ⟨e', b'⟩ | ⟨m, e', b'⟩ | ⟨t, e', b'⟩ <;> rw [b, b'] at h <;> simp only [List.cons_append, List.nil_append, List.cons.injEq] at h
  all_goals first
    | exact absurd h.1 (by decide)
    | exact ⟨by rw [e, e'], h.2⟩
    | (obtain ⟨h1, h2⟩ := numB_split _ _ _ _ h.2; exact ⟨by rw [e, e', zig_inj h1], h2⟩)
    | (obtain ⟨h1, h2⟩ := strB_split h.2; exact ⟨by rw [e, e', h1], h2⟩)
theorem flat_split : ∀ {l m : List Vl} {p q : List UInt8}, l.length = m.length → (∀ x ∈ l, x.good = true) → (∀ x ∈ m, x.good = true) → l.flatMap Vl.bytes ++ p = m.flatMap Vl.bytes ++ q → l = m ∧ p = q
  | [], [], p, q, _, _, _, h => ⟨rfl, by simpa using h⟩
  | x :: l, y :: m, p, q, hl, gl, gm, h => by
    rw [List.flatMap_cons, List.flatMap_cons, List.append_assoc, List.append_assoc] at h
    obtain ⟨rfl, h2⟩ := val_split (gl x (by simp)) (gm y (by simp)) h
    obtain ⟨rfl, h3⟩ := flat_split (by simpa using hl) (fun z hz => gl z (by simp [hz])) (fun z hz => gm z (by simp [hz])) h2
    exact ⟨rfl, h3⟩
theorem row_split {l m : List Vl} {p q : List UInt8} (gl : ∀ x ∈ l, x.good = true) (gm : ∀ x ∈ m, x.good = true) (h : rowB l ++ p = rowB m ++ q) : l = m ∧ p = q := by
  unfold rowB at h
  rw [List.append_assoc, List.append_assoc] at h
  obtain ⟨h1, h2⟩ := numB_split _ _ _ _ h
  exact flat_split h1 gl gm h2
theorem row_apart {l m : List Vl} (gl : ∀ x ∈ l, x.good = true) (gm : ∀ x ∈ m, x.good = true) (h : ¬ l = m) : ¬ rowB l <+: rowB m := by
  rintro ⟨t, ht⟩
  exact h (row_split gl gm (q := []) (by rw [ht]; simp)).1
end Go.Proofs.YtnfpomjcofhppaaDoor
