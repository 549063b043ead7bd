/- A value's own text is one token: the mathematics. -/
import Derived.Test.YtiahojbliaaklaaGreatDoorLxK
import Derived.Test.YtiahojbliaaklaaGreatDoorTextsMath
namespace Go.Proofs.YtiahojbliaaklaaGreatDoor
open Go.RowKit

theorem hexd_ne {n : Nat} (h : n < 16) : hexd n ≠ 39 := by
  have : ∀ i : Fin 16, hexd i.val ≠ 39 := by decide
  exact this ⟨n, h⟩
theorem qN_q1 (c : UInt8) (x : List UInt8) : qN (q1 c ++ x) = (q1 c).length + qN x := by
  rcases q1_cases c with ⟨rfl, e⟩ | ⟨h39, h92, hp, e⟩ | ⟨h39, hp, e⟩
  · rw [e]; exact qN_two x
  · rw [e]; exact qN_ne c x h39
  · rw [e]
    have h1 : c.toNat / 16 < 16 := by have := c.toNat_lt; omega
    have h2 : c.toNat % 16 < 16 := by omega
    show qN (92 :: hexd (c.toNat / 16) :: hexd (c.toNat % 16) :: x) = _
    rw [qN_ne _ _ (by decide), qN_ne _ _ (hexd_ne h1), qN_ne _ _ (hexd_ne h2)]
    simp; omega
theorem qN_qs : ∀ l : List UInt8, qN (qs l ++ [39]) = (qs l).length + 1
  | [] => rfl
  | c :: l => by
    have e : qs (c :: l) ++ [39] = q1 c ++ (qs l ++ [39]) := by simp [qs]
    rw [e, qN_q1, qN_qs l]
    simp [qs]; omega
theorem runL_dig : ∀ l : List UInt8, l.all digB = true → runL partB l = l.length
  | [], _ => rfl
  | c :: r, h => by
    rw [List.all_cons, Bool.and_eq_true] at h
    have hp : partB c = true := by unfold partB; rw [h.1]; simp
    rw [runL, hp]
    simp [runL_dig r h.2]
theorem litC_text {k n : Int} {s : ByteArray} (hg : goodB k n s = true) (hn : inI n = true) : litC (textL k n s) = 0 := by
  have h := readV_text hg hn
  obtain ⟨a, b, c, hc⟩ := readV_code (textL k n s)
  rw [hc] at h
  simp only [Value.tuple.injEq, Array.mk.injEq, List.cons.injEq, Value.int.injEq] at h
  rcases litC_cases (textL k n s) with h1 | h1 | h1 <;> omega
theorem tok_int (n : Int) (s : ByteArray) (hg : goodB 2 n s = true) (hn : inI n = true) : tokL (textL 2 n s) = (2, (textL 2 n s).length, 0) ∧ ∃ c r, textL 2 n s = c :: r ∧ blankB c = false := by
  have hl := litC_text hg hn
  have e : textL 2 n s = Lib.itoa n := rfl
  rw [e] at hl ⊢
  by_cases h : n < 0
  · have ei : Lib.itoa n = 45 :: Lib.decDigits n.natAbs := by unfold Lib.itoa; rw [if_pos h]
    rw [ei] at hl ⊢
    have hr := runL_dig _ (digits_all n.natAbs)
    refine ⟨?_, _, _, rfl, by decide⟩
    have t1 : ((45 : UInt8).toNat = 39) = False := by decide
    have t2 : ((45 : UInt8).toNat = 45) = True := by decide
    unfold tokL
    simp only [t1, t2, if_false, if_true, hr]
    have h1 : 1 + (Lib.decDigits n.natAbs).length = (45 :: Lib.decDigits n.natAbs).length := by simp; omega
    rw [h1, List.take_length, hl]
  · have ei : Lib.itoa n = Lib.decDigits n.toNat := by unfold Lib.itoa; rw [if_neg h]
    rw [ei] at hl ⊢
    have hd := digits_all n.toNat
    have hr := runL_dig _ hd
    cases hc : Lib.decDigits n.toNat with
    | nil =>
      have := wrB_digits n.toNat
      rw [hc] at this
      exact absurd this (by decide)
    | cons c r =>
      rw [hc] at hl hr hd
      rw [List.all_cons, Bool.and_eq_true] at hd
      have hcd := digB_iff.1 hd.1
      refine ⟨?_, _, _, rfl, by unfold blankB; simp; omega⟩
      have t1 : (c.toNat = 39) = False := by simp; omega
      have t2 : (c.toNat = 45) = False := by simp; omega
      unfold tokL
      simp only [t1, t2, if_false, hd.1, if_true, hr, List.take_length, hl]
theorem tok_text (s : ByteArray) (hg : goodB 3 0 s = true) : tokL (textL 3 0 s) = (3, (textL 3 0 s).length, 0) ∧ ∃ c r, textL 3 0 s = c :: r ∧ blankB c = false := by
  have hl := litC_text hg (by decide)
  have e : textL 3 0 s = 39 :: (qs s.data.toList ++ [39]) := rfl
  rw [e] at hl ⊢
  refine ⟨?_, _, _, rfl, by decide⟩
  have t1 : ((39 : UInt8).toNat = 39) = True := by decide
  unfold tokL
  simp only [t1, if_true, qN_qs]
  have h1 : 1 + ((qs s.data.toList).length + 1) = (39 :: (qs s.data.toList ++ [39])).length := by simp; omega
  rw [h1, List.take_length, hl]
theorem lex_single (s : ByteArray) (kd : Nat) (hs : s.size ≤ 1500) (ht : tokL s.data.toList = (kd, s.size, 0)) (hb : ∃ c r, s.data.toList = c :: r ∧ blankB c = false) :
    lexL s = .ok [⟨kd, s, 0⟩, ⟨0, ⟨#[]⟩, s.size⟩] := by
  obtain ⟨c, r, hc, hcb⟩ := hb
  have hsz := size_list hc
  rw [List.length_cons] at hsz
  have hn : nxt s 0 = 0 := by
    unfold nxt
    rw [List.drop_zero, hc, runL, hcb]
    simp
  unfold lexL
  rw [if_neg (by omega)]
  have hr := (lexF_round s s.size 0 []).2 (by rw [hn]; omega) kd s.size 0 (by rw [hn, List.drop_zero]; exact ht)
  rw [hr.2.2 rfl (by simp), hn, Nat.zero_add]
  have he : s.extract 0 s.size = s := by ext1; simp
  rw [he, List.nil_append]
  obtain ⟨f, hf⟩ : ∃ f, s.size = f + 1 := ⟨s.size - 1, by omega⟩
  have hn2 : nxt s s.size = s.size := by
    unfold nxt
    rw [List.drop_of_length_le (by rw [Array.length_toList]; exact Nat.le_refl _)]
    rfl
  have h3 : ∀ q, lexF s s.size s.size q = lexF s (f + 1) s.size q := fun q => congrArg (fun n => lexF s n s.size q) hf
  rw [h3, (lexF_round s f s.size _).1 hn2]
  rfl
end Go.Proofs.YtiahojbliaaklaaGreatDoor
