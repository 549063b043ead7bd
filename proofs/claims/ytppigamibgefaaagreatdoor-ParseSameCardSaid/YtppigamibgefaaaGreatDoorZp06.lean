/- The contract of value.Text at good values. Asked: the table of powers of ten, which strconv.Itoa reads, is as the library's text lays it. The law ValueOrder walked: true at any three values. Plain facts on texts of values: two good values have one text just if they are the same. -/
import Derived.Test.YtppigamibgefaaaGreatDoorZp05
import Derived.Lib.ItoaNum
import Derived.Lib.ItoaMem
import Derived.Lib.AppendIntMem
import Derived.Lib.LaidTab
import Derived.Stop.LaidErr
import Derived.MakeChecks
namespace Go.Proofs.YtppigamibgefaaaGreatDoor
open Go.RowKit

/-- The table of powers of ten stands in memory. -/
def Tab10 (w : World) : Prop := Lib.TabIs Tryz.prog w "internal/strconv.uint64pow10" .u64 Lib.pow10Tab
theorem Tab10.keep {w w' : World} (h : Tab10 w) (hb : Below w.heap.size w w') : Tab10 w' := Lib.tabBelow_of_tabIs h w' hb

theorem tab10_data {H : Type} : (Rows.laid_internal_strconv_uint64pow10 : DataW H) = Lib.tabData .u64 Lib.pow10Tab := rfl

/-- A value's text. -/
def textL (k n : Int) (s : ByteArray) : List UInt8 :=
  if k = 0 then [78, 85, 76, 76] else if k = 1 then (if n = 0 then [70, 65, 76, 83, 69] else [84, 82, 85, 69]) else if k = 2 then Lib.itoa n else 39 :: (qs s.data.toList ++ [39])

theorem good_kinds {k n : Int} {s : ByteArray} (h : goodB k n s = true) : (k = 0 ∧ n = 0 ∧ s.data.toList = []) ∨ (k = 1 ∧ (n = 0 ∨ n = 1) ∧ s.data.toList = []) ∨ (k = 2 ∧ s.data.toList = []) ∨ (k = 3 ∧ n = 0 ∧ s.size ≤ 60) := by
  unfold goodB at h
  by_cases h0 : k = 0
  · subst h0; simp at h; exact .inl ⟨rfl, h.1, toList_nil (by simp [h.2])⟩
  · by_cases h1 : k = 1
    · subst h1; simp at h; exact .inr (.inl ⟨rfl, h.1, toList_nil (by simp [h.2])⟩)
    · by_cases h2 : k = 2
      · subst h2; simp at h; exact .inr (.inr (.inl ⟨rfl, toList_nil (by simp [h])⟩))
      · by_cases h3 : k = 3
        · subst h3; simp at h; exact .inr (.inr (.inr ⟨rfl, h.1, h.2⟩))
        · simp [h0, h1, h2, h3] at h

end Go.Proofs.YtppigamibgefaaaGreatDoor
namespace Go.Proofs.YtppigamibgefaaaGreatDoor
open Go.RowKit

/-- How far a run has come: nothing old has turned, and c blocks at least are new. -/
def Ran (w : World) (c : Nat) (w1 : World) : Prop := Below w.heap.size w w1 ∧ w.heap.size + c ≤ w1.heap.size
theorem Ran.step {w w1 w2 : World} {c : Nat} (h : Ran w c w1) (hb : Below w1.heap.size w1 w2) : Ran w c w2 :=
  ⟨h.1.trans (hb.mono (by have := h.2; omega)), by have := h.2; have := hb.size; omega⟩
theorem Ran.cell {w w1 w2 : World} {c : Nat} (h : Ran w c w1) (hb : Below w1.heap.size w1 w2) {b o : Nat} (hlt : b < w.heap.size + c) {v : Option Value} (hv : w1.cell? ⟨b, o, none⟩ = v) : w2.cell? ⟨b, o, none⟩ = v :=
  (hb.cell (p := ⟨b, o, none⟩) (by have := h.2; show b < _; omega)).trans hv

theorem keep9 {w w1 w2 : World} {v0 v1 v2 u0 u1 u2 x0 x1 x2 : Value}
    (K : Ran w 3 w1 ∧ w1.cell? ⟨w.heap.size, 0, none⟩ = some v0 ∧ w1.cell? ⟨w.heap.size, 1, none⟩ = some v1 ∧ w1.cell? ⟨w.heap.size, 2, none⟩ = some v2 ∧ w1.cell? ⟨w.heap.size + 1, 0, none⟩ = some u0 ∧ w1.cell? ⟨w.heap.size + 1, 1, none⟩ = some u1 ∧ w1.cell? ⟨w.heap.size + 1, 2, none⟩ = some u2 ∧ w1.cell? ⟨w.heap.size + 1 + 1, 0, none⟩ = some x0 ∧ w1.cell? ⟨w.heap.size + 1 + 1, 1, none⟩ = some x1 ∧ w1.cell? ⟨w.heap.size + 1 + 1, 2, none⟩ = some x2)
    (hb : Below w1.heap.size w1 w2) :
    Ran w 3 w2 ∧ w2.cell? ⟨w.heap.size, 0, none⟩ = some v0 ∧ w2.cell? ⟨w.heap.size, 1, none⟩ = some v1 ∧ w2.cell? ⟨w.heap.size, 2, none⟩ = some v2 ∧ w2.cell? ⟨w.heap.size + 1, 0, none⟩ = some u0 ∧ w2.cell? ⟨w.heap.size + 1, 1, none⟩ = some u1 ∧ w2.cell? ⟨w.heap.size + 1, 2, none⟩ = some u2 ∧ w2.cell? ⟨w.heap.size + 1 + 1, 0, none⟩ = some x0 ∧ w2.cell? ⟨w.heap.size + 1 + 1, 1, none⟩ = some x1 ∧ w2.cell? ⟨w.heap.size + 1 + 1, 2, none⟩ = some x2 := by
  obtain ⟨r, a0, a1, a2, b0, b1, b2, c0, c1, c2⟩ := K
  exact ⟨r.step hb, r.cell hb (by omega) a0, r.cell hb (by omega) a1, r.cell hb (by omega) a2, r.cell hb (by omega) b0, r.cell hb (by omega) b1, r.cell hb (by omega) b2, r.cell hb (by omega) c0, r.cell hb (by omega) c1, r.cell hb (by omega) c2⟩
theorem start9 (w : World) (v0 v1 v2 u0 u1 u2 x0 x1 x2 : Value) (T : TypeId) {W : World} (hW : W = ((w.alloc (.cells #[v0, v1, v2] T)).alloc (.cells #[u0, u1, u2] T)).alloc (.cells #[x0, x1, x2] T)) :
    Ran w 3 W ∧ W.cell? ⟨w.heap.size, 0, none⟩ = some v0 ∧ W.cell? ⟨w.heap.size, 1, none⟩ = some v1 ∧ W.cell? ⟨w.heap.size, 2, none⟩ = some v2 ∧ W.cell? ⟨w.heap.size + 1, 0, none⟩ = some u0 ∧ W.cell? ⟨w.heap.size + 1, 1, none⟩ = some u1 ∧ W.cell? ⟨w.heap.size + 1, 2, none⟩ = some u2 ∧ W.cell? ⟨w.heap.size + 1 + 1, 0, none⟩ = some x0 ∧ W.cell? ⟨w.heap.size + 1 + 1, 1, none⟩ = some x1 ∧ W.cell? ⟨w.heap.size + 1 + 1, 2, none⟩ = some x2 := by
  subst hW
  refine ⟨⟨below3 _ _ _ _, by simp⟩, ?_⟩
  have e0 := heap_new3a w (.cells #[v0, v1, v2] T) (.cells #[u0, u1, u2] T) (.cells #[x0, x1, x2] T)
  have e1 := heap_new3b w (.cells #[v0, v1, v2] T) (.cells #[u0, u1, u2] T) (.cells #[x0, x1, x2] T)
  have e2 := heap_new3 w (.cells #[v0, v1, v2] T) (.cells #[u0, u1, u2] T) (.cells #[x0, x1, x2] T)
  simp only [World.cell?, e0, e1, e2]
  simp

end Go.Proofs.YtppigamibgefaaaGreatDoor
namespace Go.Proofs.YtppigamibgefaaaGreatDoor
open Go.RowKit

theorem hexd_inj {a b : Nat} (ha : a < 16) (hb : b < 16) (h : hexd a = hexd b) : a = b := by
  have : ∀ i j : Fin 16, hexd i.val = hexd j.val → i = j := by decide +kernel
  exact congrArg Fin.val (this ⟨a, ha⟩ ⟨b, hb⟩ h)
theorem q1_ne_nil (c : UInt8) : q1 c ≠ [] := by
  unfold q1; split
  · simp
  · split <;> simp
theorem q1_cases (c : UInt8) : (c = 39 ∧ q1 c = [39, 39]) ∨ (c ≠ 39 ∧ c ≠ 92 ∧ plainB c.toNat = true ∧ q1 c = [c]) ∨ (c ≠ 39 ∧ plainB c.toNat = false ∧ q1 c = [92, hexd (c.toNat / 16), hexd (c.toNat % 16)]) := by
  unfold q1
  by_cases h : c = 39
  · exact .inl ⟨h, by rw [if_pos h]⟩
  · by_cases hp : plainB c.toNat = true
    · refine .inr (.inl ⟨h, ?_, hp, by rw [if_neg h, if_pos hp]⟩)
      rintro rfl
      exact absurd hp (by decide)
    · exact .inr (.inr ⟨h, by simpa using hp, by rw [if_neg h, if_neg hp]⟩)
theorem q1_apart {c d : UInt8} {x y : List UInt8} (h : q1 c ++ x = q1 d ++ y) : c = d ∧ x = y := by
  rcases q1_cases c with ⟨rfl, e⟩ | ⟨h1, h2, _, e⟩ | ⟨h1, _, e⟩ <;> rcases q1_cases d with ⟨rfl, f⟩ | ⟨g1, g2, _, f⟩ | ⟨g1, _, f⟩ <;> rw [e] at h <;> (try rw [f] at h) <;> simp only [List.cons_append, List.nil_append, List.cons.injEq] at h
  · exact ⟨rfl, h.2.2⟩
  · exact absurd h.1.symm g1
  · exact absurd h.1 (by decide)
  · exact absurd h.1 h1
  · exact h
  · exact absurd h.1 h2
  · exact absurd h.1 (by decide)
  · exact absurd h.1.symm g2
  · obtain ⟨_, e1, e2, e3⟩ := h
    have hc := byte_lt c
    have hd := byte_lt d
    have i1 := hexd_inj (by omega) (by omega) e1
    have i2 := hexd_inj (by omega) (by omega) e2
    exact ⟨UInt8.toNat_inj.1 (by omega), e3⟩
theorem qs_inj : ∀ a b : List UInt8, qs a = qs b → a = b
  | [], [], _ => rfl
  | [], d :: b, h => by
    simp only [qs, List.flatMap_nil, List.flatMap_cons] at h
    exact absurd (List.append_eq_nil_iff.1 h.symm).1 (q1_ne_nil d)
  | c :: a, [], h => by
    simp only [qs, List.flatMap_nil, List.flatMap_cons] at h
    exact absurd (List.append_eq_nil_iff.1 h).1 (q1_ne_nil c)
  | c :: a, d :: b, h => by
    simp only [qs, List.flatMap_cons] at h
    obtain ⟨rfl, h2⟩ := q1_apart h
    rw [qs_inj a b h2]

/-- What digits say. -/
def dval (l : List UInt8) : Nat := l.foldl (fun n c => 10 * n + (c.toNat - 48)) 0
theorem dval_snoc (l : List UInt8) (c : UInt8) : dval (l ++ [c]) = 10 * dval l + (c.toNat - 48) := by simp [dval]
theorem dig_byte {d : Nat} (h : d < 10) : (UInt8.ofNat (48 + d)).toNat = 48 + d := by
  rw [UInt8.toNat_ofNat']; omega
theorem dval_digits (u : Nat) : dval (Lib.decDigits u) = u := by
  induction u using Nat.strongRecOn with
  | ind u ih =>
    rw [Lib.decDigits]
    split
    · rename_i h
      rw [show [UInt8.ofNat (48 + u)] = [] ++ [UInt8.ofNat (48 + u)] from rfl, dval_snoc, dig_byte h]
      simp [dval]
    · rename_i h
      rw [dval_snoc, ih (u / 10) (by omega), dig_byte (by omega)]
      omega
theorem digits_range (u : Nat) : ∀ c ∈ Lib.decDigits u, 48 ≤ c.toNat ∧ c.toNat ≤ 57 := by
  induction u using Nat.strongRecOn with
  | ind u ih =>
    rw [Lib.decDigits]
    split
    · rename_i h
      intro c hc
      simp only [List.mem_singleton] at hc
      subst hc
      rw [dig_byte h]; omega
    · rename_i h
      intro c hc
      rw [List.mem_append] at hc
      rcases hc with hc | hc
      · exact ih (u / 10) (by omega) c hc
      · simp only [List.mem_singleton] at hc
        subst hc
        rw [dig_byte (by omega)]; omega
theorem digits_ne_nil (u : Nat) : Lib.decDigits u ≠ [] := by
  rw [Lib.decDigits]; split <;> simp
/-- The first byte of an int's text: a digit, or the sign. -/
theorem itoa_head (n : Int) : ∃ c r, Lib.itoa n = c :: r ∧ ((n < 0 ∧ c = 45 ∧ r = Lib.decDigits n.natAbs) ∨ (0 ≤ n ∧ 48 ≤ c.toNat ∧ c.toNat ≤ 57 ∧ c :: r = Lib.decDigits n.toNat)) := by
  unfold Lib.itoa
  by_cases h : n < 0
  · rw [if_pos h]; exact ⟨45, _, rfl, .inl ⟨h, rfl, rfl⟩⟩
  · rw [if_neg h]
    cases e : Lib.decDigits n.toNat with
    | nil => exact absurd e (digits_ne_nil _)
    | cons c r =>
      have := digits_range n.toNat c (by rw [e]; simp)
      exact ⟨c, r, rfl, .inr ⟨by omega, this.1, this.2, rfl⟩⟩
theorem itoa_inj {a b : Int} (h : Lib.itoa a = Lib.itoa b) : a = b := by
  obtain ⟨c, r, e, hc⟩ := itoa_head a
  obtain ⟨d, t, f, hd⟩ := itoa_head b
  rw [e, f] at h
  obtain ⟨rfl, rfl⟩ := List.cons.inj h
  rcases hc with ⟨h1, rfl, h3⟩ | ⟨h1, h2, h3, h4⟩ <;> rcases hd with ⟨g1, g2, g3⟩ | ⟨g1, g2, g3, g4⟩
  · have := congrArg dval (h3.symm.trans g3)
    rw [dval_digits, dval_digits] at this
    omega
  · exact absurd g2 (by decide)
  · subst g2; exact absurd h2 (by decide)
  · have := congrArg dval (h4.symm.trans g4)
    rw [dval_digits, dval_digits] at this
    omega
theorem itoa_first {n : Int} {c : UInt8} {r : List UInt8} (h : Lib.itoa n = c :: r) : c = 45 ∨ (48 ≤ c.toNat ∧ c.toNat ≤ 57) := by
  obtain ⟨d, t, f, hd⟩ := itoa_head n
  rw [f] at h
  obtain ⟨rfl, rfl⟩ := List.cons.inj h
  rcases hd with ⟨_, rfl, _⟩ | ⟨_, h2, h3, _⟩
  · exact .inl rfl
  · exact .inr ⟨h2, h3⟩

/-- Of what kind a good value is, its text's first byte tells. -/
theorem textL_inj {k n : Int} {s : ByteArray} {k' n' : Int} {s' : ByteArray} (ha : goodB k n s = true) (hb : goodB k' n' s' = true) (h : textL k n s = textL k' n' s') : k = k' ∧ n = n' ∧ s.data.toList = s'.data.toList := by
  rcases good_kinds ha with ⟨rfl, rfl, e⟩ | ⟨rfl, rfl | rfl, e⟩ | ⟨rfl, e⟩ | ⟨rfl, rfl, _⟩ <;> rcases good_kinds hb with ⟨rfl, rfl, f⟩ | ⟨rfl, rfl | rfl, f⟩ | ⟨rfl, f⟩ | ⟨rfl, rfl, _⟩ <;> simp [textL] at h
  all_goals first | exact ⟨rfl, rfl, by rw [e, f]⟩ | exact ⟨rfl, itoa_inj h, by rw [e, f]⟩ | exact ⟨rfl, rfl, qs_inj _ _ h⟩ | (exfalso; rcases itoa_first h with h | h <;> revert h <;> decide) | (exfalso; rcases itoa_first h.symm with h | h <;> revert h <;> decide)
end Go.Proofs.YtppigamibgefaaaGreatDoor
