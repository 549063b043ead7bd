/- Plain facts on texts of values: two good values have one text just if they are the same. Runs with one or two boxed arguments: what a law's boxes hold stays through every call that touches nothing old. Plain words on how a text is read as a value. No program is named. -/
import Derived.Test.YtddbnmiennjnlaaGreatDoorZk06
namespace Go.Proofs.YtddbnmiennjnlaaGreatDoor
open Go.RowKit

theorem hexd_inj {a b : Nat} (ha : a < 16) (hb : b < 16) (h : hexd a = hexd b) : a = b := by
  have : ∀ i j : Fin 16, hexd i.val = hexd j.val → i = j := by decide +kernel
  exact congrArg Fin.val (this ⟨a, ha⟩ ⟨b, hb⟩ h)
theorem q1_ne_nil (c : UInt8) : q1 c ≠ [] := by
  unfold q1; split
  · simp
  · split <;> simp
theorem q1_cases (c : UInt8) : (c = 39 ∧ q1 c = [39, 39]) ∨ (c ≠ 39 ∧ c ≠ 92 ∧ plainB c.toNat = true ∧ q1 c = [c]) ∨ (c ≠ 39 ∧ plainB c.toNat = false ∧ q1 c = [92, hexd (c.toNat / 16), hexd (c.toNat % 16)]) := by
  unfold q1
  by_cases h : c = 39
  · exact .inl ⟨h, by rw [if_pos h]⟩
  · by_cases hp : plainB c.toNat = true
    · refine .inr (.inl ⟨h, ?_, hp, by rw [if_neg h, if_pos hp]⟩)
      rintro rfl
      exact absurd hp (by decide)
    · exact .inr (.inr ⟨h, by simpa using hp, by rw [if_neg h, if_neg hp]⟩)
theorem q1_apart {c d : UInt8} {x y : List UInt8} (h : q1 c ++ x = q1 d ++ y) : c = d ∧ x = y := by
  rcases q1_cases c with ⟨rfl, e⟩ | ⟨h1, h2, _, e⟩ | ⟨h1, _, e⟩ <;> rcases q1_cases d with ⟨rfl, f⟩ | ⟨g1, g2, _, f⟩ | ⟨g1, _, f⟩ <;> rw [e] at h <;> (try rw [f] at h) <;> simp only [List.cons_append, List.nil_append, List.cons.injEq] at h
  · exact ⟨rfl, h.2.2⟩
  · exact absurd h.1.symm g1
  · exact absurd h.1 (by decide)
  · exact absurd h.1 h1
  · exact h
  · exact absurd h.1 h2
  · exact absurd h.1 (by decide)
  · exact absurd h.1.symm g2
  · obtain ⟨_, e1, e2, e3⟩ := h
    have hc := byte_lt c
    have hd := byte_lt d
    have i1 := hexd_inj (by omega) (by omega) e1
    have i2 := hexd_inj (by omega) (by omega) e2
    exact ⟨UInt8.toNat_inj.1 (by omega), e3⟩
theorem qs_inj : ∀ a b : List UInt8, qs a = qs b → a = b
  | [], [], _ => rfl
  | [], d :: b, h => by
    simp only [qs, List.flatMap_nil, List.flatMap_cons] at h
    exact absurd (List.append_eq_nil_iff.1 h.symm).1 (q1_ne_nil d)
  | c :: a, [], h => by
    simp only [qs, List.flatMap_nil, List.flatMap_cons] at h
    exact absurd (List.append_eq_nil_iff.1 h).1 (q1_ne_nil c)
  | c :: a, d :: b, h => by
    simp only [qs, List.flatMap_cons] at h
    obtain ⟨rfl, h2⟩ := q1_apart h
    rw [qs_inj a b h2]

/-- What digits say. -/
def dval (l : List UInt8) : Nat := l.foldl (fun n c => 10 * n + (c.toNat - 48)) 0
theorem dval_snoc (l : List UInt8) (c : UInt8) : dval (l ++ [c]) = 10 * dval l + (c.toNat - 48) := by simp [dval]
theorem dig_byte {d : Nat} (h : d < 10) : (UInt8.ofNat (48 + d)).toNat = 48 + d := by
  rw [UInt8.toNat_ofNat']; omega
theorem dval_digits (u : Nat) : dval (Lib.decDigits u) = u := by
  induction u using Nat.strongRecOn with
  | ind u ih =>
    rw [Lib.decDigits]
    split
    · rename_i h
      rw [show [UInt8.ofNat (48 + u)] = [] ++ [UInt8.ofNat (48 + u)] from rfl, dval_snoc, dig_byte h]
      simp [dval]
    · rename_i h
      rw [dval_snoc, ih (u / 10) (by omega), dig_byte (by omega)]
      omega
theorem digits_range (u : Nat) : ∀ c ∈ Lib.decDigits u, 48 ≤ c.toNat ∧ c.toNat ≤ 57 := by
  induction u using Nat.strongRecOn with
  | ind u ih =>
    rw [Lib.decDigits]
    split
    · rename_i h
      intro c hc
      simp only [List.mem_singleton] at hc
      subst hc
      rw [dig_byte h]; omega
    · rename_i h
      intro c hc
      rw [List.mem_append] at hc
      rcases hc with hc | hc
      · exact ih (u / 10) (by omega) c hc
      · simp only [List.mem_singleton] at hc
        subst hc
        rw [dig_byte (by omega)]; omega
theorem digits_ne_nil (u : Nat) : Lib.decDigits u ≠ [] := by
  rw [Lib.decDigits]; split <;> simp
/-- The first byte of an int's text: a digit, or the sign. -/
theorem itoa_head (n : Int) : ∃ c r, Lib.itoa n = c :: r ∧ ((n < 0 ∧ c = 45 ∧ r = Lib.decDigits n.natAbs) ∨ (0 ≤ n ∧ 48 ≤ c.toNat ∧ c.toNat ≤ 57 ∧ c :: r = Lib.decDigits n.toNat)) := by
  unfold Lib.itoa
  by_cases h : n < 0
  · rw [if_pos h]; exact ⟨45, _, rfl, .inl ⟨h, rfl, rfl⟩⟩
  · rw [if_neg h]
    cases e : Lib.decDigits n.toNat with
    | nil => exact absurd e (digits_ne_nil _)
    | cons c r =>
      have := digits_range n.toNat c (by rw [e]; simp)
      exact ⟨c, r, rfl, .inr ⟨by omega, this.1, this.2, rfl⟩⟩
theorem itoa_inj {a b : Int} (h : Lib.itoa a = Lib.itoa b) : a = b := by
  obtain ⟨c, r, e, hc⟩ := itoa_head a
  obtain ⟨d, t, f, hd⟩ := itoa_head b
  rw [e, f] at h
  obtain ⟨rfl, rfl⟩ := List.cons.inj h
  rcases hc with ⟨h1, rfl, h3⟩ | ⟨h1, h2, h3, h4⟩ <;> rcases hd with ⟨g1, g2, g3⟩ | ⟨g1, g2, g3, g4⟩
  · have := congrArg dval (h3.symm.trans g3)
    rw [dval_digits, dval_digits] at this
    omega
  · exact absurd g2 (by decide)
  · subst g2; exact absurd h2 (by decide)
  · have := congrArg dval (h4.symm.trans g4)
    rw [dval_digits, dval_digits] at this
    omega
theorem itoa_first {n : Int} {c : UInt8} {r : List UInt8} (h : Lib.itoa n = c :: r) : c = 45 ∨ (48 ≤ c.toNat ∧ c.toNat ≤ 57) := by
  obtain ⟨d, t, f, hd⟩ := itoa_head n
  rw [f] at h
  obtain ⟨rfl, rfl⟩ := List.cons.inj h
  rcases hd with ⟨_, rfl, _⟩ | ⟨_, h2, h3, _⟩
  · exact .inl rfl
  · exact .inr ⟨h2, h3⟩

/-- Of what kind a good value is, its text's first byte tells. -/
theorem textL_inj {k n : Int} {s : ByteArray} {k' n' : Int} {s' : ByteArray} (ha : goodB k n s = true) (hb : goodB k' n' s' = true) (h : textL k n s = textL k' n' s') : k = k' ∧ n = n' ∧ s.data.toList = s'.data.toList := by
  rcases good_kinds ha with ⟨rfl, rfl, e⟩ | ⟨rfl, rfl | rfl, e⟩ | ⟨rfl, e⟩ | ⟨rfl, rfl, _⟩ <;> rcases good_kinds hb with ⟨rfl, rfl, f⟩ | ⟨rfl, rfl | rfl, f⟩ | ⟨rfl, f⟩ | ⟨rfl, rfl, _⟩ <;> simp [textL] at h
  all_goals first | exact ⟨rfl, rfl, by rw [e, f]⟩ | exact ⟨rfl, itoa_inj h, by rw [e, f]⟩ | exact ⟨rfl, rfl, qs_inj _ _ h⟩ | (exfalso; rcases itoa_first h with h | h <;> revert h <;> decide) | (exfalso; rcases itoa_first h.symm with h | h <;> revert h <;> decide)
end Go.Proofs.YtddbnmiennjnlaaGreatDoor
namespace Go.Proofs.YtddbnmiennjnlaaGreatDoor
open Go.RowKit

theorem keep6 {w w1 w2 : World} {v0 v1 v2 u0 u1 u2 : Value}
    (K : Ran w 2 w1 ∧ w1.cell? ⟨w.heap.size, 0, none⟩ = some v0 ∧ w1.cell? ⟨w.heap.size, 1, none⟩ = some v1 ∧ w1.cell? ⟨w.heap.size, 2, none⟩ = some v2 ∧ w1.cell? ⟨w.heap.size + 1, 0, none⟩ = some u0 ∧ w1.cell? ⟨w.heap.size + 1, 1, none⟩ = some u1 ∧ w1.cell? ⟨w.heap.size + 1, 2, none⟩ = some u2)
    (hb : Below w1.heap.size w1 w2) :
    Ran w 2 w2 ∧ w2.cell? ⟨w.heap.size, 0, none⟩ = some v0 ∧ w2.cell? ⟨w.heap.size, 1, none⟩ = some v1 ∧ w2.cell? ⟨w.heap.size, 2, none⟩ = some v2 ∧ w2.cell? ⟨w.heap.size + 1, 0, none⟩ = some u0 ∧ w2.cell? ⟨w.heap.size + 1, 1, none⟩ = some u1 ∧ w2.cell? ⟨w.heap.size + 1, 2, none⟩ = some u2 := by
  obtain ⟨r, a0, a1, a2, b0, b1, b2⟩ := K
  exact ⟨r.step hb, r.cell hb (by omega) a0, r.cell hb (by omega) a1, r.cell hb (by omega) a2, r.cell hb (by omega) b0, r.cell hb (by omega) b1, r.cell hb (by omega) b2⟩
theorem start6 (w : World) (v0 v1 v2 u0 u1 u2 : Value) (T : TypeId) :
    Ran w 2 ((w.alloc (.cells #[v0, v1, v2] T)).alloc (.cells #[u0, u1, u2] T)) ∧ ((w.alloc (.cells #[v0, v1, v2] T)).alloc (.cells #[u0, u1, u2] T)).cell? ⟨w.heap.size, 0, none⟩ = some v0 ∧ ((w.alloc (.cells #[v0, v1, v2] T)).alloc (.cells #[u0, u1, u2] T)).cell? ⟨w.heap.size, 1, none⟩ = some v1 ∧ ((w.alloc (.cells #[v0, v1, v2] T)).alloc (.cells #[u0, u1, u2] T)).cell? ⟨w.heap.size, 2, none⟩ = some v2 ∧ ((w.alloc (.cells #[v0, v1, v2] T)).alloc (.cells #[u0, u1, u2] T)).cell? ⟨w.heap.size + 1, 0, none⟩ = some u0 ∧ ((w.alloc (.cells #[v0, v1, v2] T)).alloc (.cells #[u0, u1, u2] T)).cell? ⟨w.heap.size + 1, 1, none⟩ = some u1 ∧ ((w.alloc (.cells #[v0, v1, v2] T)).alloc (.cells #[u0, u1, u2] T)).cell? ⟨w.heap.size + 1, 2, none⟩ = some u2 := by
  refine ⟨⟨below2 _ _ _, by simp⟩, ?_⟩
  have e0 : ((w.alloc (.cells #[v0, v1, v2] T)).alloc (.cells #[u0, u1, u2] T)).heap[w.heap.size]? = some (.cells #[v0, v1, v2] T) := by
    rw [Below.heap_alloc _ _ _ (by simp)]
    exact heap_new w _
  have e1 : ((w.alloc (.cells #[v0, v1, v2] T)).alloc (.cells #[u0, u1, u2] T)).heap[w.heap.size + 1]? = some (.cells #[u0, u1, u2] T) := by
    simpa using heap_new (w.alloc (.cells #[v0, v1, v2] T)) (.cells #[u0, u1, u2] T)
  simp only [World.cell?, e0, e1]
  simp
theorem keep3 {w w1 w2 : World} {v0 v1 v2 : Value}
    (K : Ran w 1 w1 ∧ w1.cell? ⟨w.heap.size, 0, none⟩ = some v0 ∧ w1.cell? ⟨w.heap.size, 1, none⟩ = some v1 ∧ w1.cell? ⟨w.heap.size, 2, none⟩ = some v2)
    (hb : Below w1.heap.size w1 w2) :
    Ran w 1 w2 ∧ w2.cell? ⟨w.heap.size, 0, none⟩ = some v0 ∧ w2.cell? ⟨w.heap.size, 1, none⟩ = some v1 ∧ w2.cell? ⟨w.heap.size, 2, none⟩ = some v2 := by
  obtain ⟨r, a0, a1, a2⟩ := K
  exact ⟨r.step hb, r.cell hb (by omega) a0, r.cell hb (by omega) a1, r.cell hb (by omega) a2⟩
theorem start3 (w : World) (v0 v1 v2 : Value) (T : TypeId) :
    Ran w 1 (w.alloc (.cells #[v0, v1, v2] T)) ∧ (w.alloc (.cells #[v0, v1, v2] T)).cell? ⟨w.heap.size, 0, none⟩ = some v0 ∧ (w.alloc (.cells #[v0, v1, v2] T)).cell? ⟨w.heap.size, 1, none⟩ = some v1 ∧ (w.alloc (.cells #[v0, v1, v2] T)).cell? ⟨w.heap.size, 2, none⟩ = some v2 := by
  refine ⟨⟨(Below.refl _ _).alloc (Nat.le_refl _) _, by simp⟩, ?_⟩
  simp only [World.cell?, heap_new]
  simp
end Go.Proofs.YtddbnmiennjnlaaGreatDoor
namespace Go.Proofs.YtddbnmiennjnlaaGreatDoor
open Go.RowKit

/-- What a hexadecimal digit says. -/
def hexv (c : UInt8) : Option Nat := if 48 ≤ c.toNat ∧ c.toNat ≤ 57 then some (c.toNat - 48) else if 97 ≤ c.toNat ∧ c.toNat ≤ 102 then some (c.toNat - 87) else none
/-- What stands behind a backslash: the byte, and the rest. -/
def escL : List UInt8 → Option (UInt8 × List UInt8)
  | a :: b :: r => match hexv a, hexv b with
    | some h, some l => if plainB (16 * h + l) then none else some (UInt8.ofNat (16 * h + l), r)
    | _, _ => none
  | _ => none
/-- The first byte of a quoted text, and the rest. -/
def firstL : List UInt8 → Option (UInt8 × List UInt8)
  | [] => none
  | c :: r => if c = 92 then escL r else if c = 39 then (match r with | d :: r' => if d = 39 then some (39, r') else none | [] => none) else if plainB c.toNat then some (c, r) else none

theorem escL_len {l : List UInt8} {c : UInt8} {r : List UInt8} (h : escL l = some (c, r)) : l.length = r.length + 2 := by
  match l with
  | [] => simp [escL] at h
  | [_] => simp [escL] at h
  | a :: b :: t =>
    simp only [escL] at h
    split at h
    · split at h
      · cases h
      · simp only [Option.some.injEq, Prod.mk.injEq] at h
        simp [h.2]
    · cases h
theorem firstL_len {l : List UInt8} {c : UInt8} {r : List UInt8} (h : firstL l = some (c, r)) : r.length < l.length ∧ l.length ≤ r.length + 3 := by
  match l with
  | [] => simp [firstL] at h
  | a :: t =>
    simp only [firstL] at h
    split at h
    · have := escL_len h; simp only [List.length_cons]; omega
    · split at h
      · split at h
        · split at h
          · simp only [Option.some.injEq, Prod.mk.injEq] at h; simp [← h.2]; omega
          · cases h
        · cases h
      · split at h
        · simp only [Option.some.injEq, Prod.mk.injEq] at h; simp [← h.2]
        · cases h
/-- All bytes of a quoted text, behind the first quote, to the end. -/
def readB (l : List UInt8) : Option (List UInt8) :=
  if l = [39] then some [] else
    match _h : firstL l with
    | none => none
    | some (c, r) => (readB r).map (c :: ·)
termination_by l.length
decreasing_by exact (firstL_len (by assumption)).1
theorem readB_end : readB [39] = some [] := by rw [readB, if_pos rfl]
theorem readB_none {l : List UInt8} (h : l ≠ [39]) (hf : firstL l = none) : readB l = none := by
  rw [readB, if_neg h]
  split
  · rfl
  · rename_i c r e; rw [hf] at e; cases e
theorem readB_some {l r : List UInt8} {c : UInt8} (h : l ≠ [39]) (hf : firstL l = some (c, r)) : readB l = (readB r).map (c :: ·) := by
  rw [readB, if_neg h]
  split
  · rename_i e; rw [hf] at e; cases e
  · rename_i c' r' e; rw [hf] at e; cases e; rfl

/-- The digits of the alphabet, looked for: the place, or -1. -/
def hexI (c : UInt8) : Int := match hexv c with | some n => n | none => -1
theorem hex_index (c : UInt8) : Lib.indexByte [48, 49, 50, 51, 52, 53, 54, 55, 56, 57, 97, 98, 99, 100, 101, 102] c = hexI c := by
  have : ∀ i : Fin 256, Lib.indexByte [48, 49, 50, 51, 52, 53, 54, 55, 56, 57, 97, 98, 99, 100, 101, 102] (UInt8.ofNat i.val) = hexI (UInt8.ofNat i.val) := by decide +kernel
  have h := this ⟨c.toNat, c.toNat_lt⟩
  rwa [UInt8.ofNat_toNat] at h
theorem hexv_lt {c : UInt8} {n : Nat} (h : hexv c = some n) : n < 16 := by
  unfold hexv at h
  split at h
  · simp only [Option.some.injEq] at h; omega
  · split at h
    · simp only [Option.some.injEq] at h; omega
    · cases h
theorem hexI_some {c : UInt8} {n : Nat} (h : hexv c = some n) : hexI c = n := by unfold hexI; rw [h]
theorem hexI_none {c : UInt8} (h : hexv c = none) : hexI c = -1 := by unfold hexI; rw [h]
end Go.Proofs.YtddbnmiennjnlaaGreatDoor
