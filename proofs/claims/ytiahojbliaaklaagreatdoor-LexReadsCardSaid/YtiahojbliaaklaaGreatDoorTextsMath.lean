/- What is written is read back, and what is read was written so: plain mathematics of the texts. -/
import Derived.Test.YtiahojbliaaklaaGreatDoorReadAllL
namespace Go.Proofs.YtiahojbliaaklaaGreatDoor
open Go.RowKit

theorem hexv_hexd {n : Nat} (h : n < 16) : hexv (hexd n) = some n := by
  have : ∀ i : Fin 16, hexv (hexd i.val) = some i.val := by decide
  exact this ⟨n, h⟩
theorem first_q1 (c : UInt8) (x : List UInt8) : firstL (q1 c ++ x) = some (c, x) ∧ (q1 c ++ x) ≠ [39] := by
  rcases q1_cases c with ⟨rfl, e⟩ | ⟨h39, h92, hp, e⟩ | ⟨h39, hp, e⟩
  · rw [e]; exact ⟨rfl, by simp⟩
  · rw [e]
    refine ⟨?_, fun h => h39 (List.cons.inj h).1⟩
    simp only [List.cons_append, List.nil_append, firstL, if_neg h92, if_neg h39, hp, if_true]
  · rw [e]
    refine ⟨?_, fun h => absurd (List.cons.inj h).1 (by decide)⟩
    have h1 : c.toNat / 16 < 16 := by have := c.toNat_lt; omega
    have h2 : c.toNat % 16 < 16 := by omega
    have h3 : 16 * (c.toNat / 16) + c.toNat % 16 = c.toNat := by omega
    simp only [List.cons_append, List.nil_append, firstL, if_true, escL, hexv_hexd h1, hexv_hexd h2, h3, hp, Bool.false_eq_true, if_false, UInt8.ofNat_toNat]
theorem readB_qs : ∀ l : List UInt8, readB (qs l ++ [39]) = some l
  | [] => readB_end
  | c :: l => by
    have e : qs (c :: l) ++ [39] = q1 c ++ (qs l ++ [39]) := by simp [qs]
    rw [e, readB_some (first_q1 c _).2 (first_q1 c _).1, readB_qs l]
    rfl
theorem hexv_back {a : UInt8} {h : Nat} (e : hexv a = some h) : hexd h = a := by
  have : ∀ i : Fin 256, ∀ j : Fin 16, hexv (UInt8.ofNat i.val) = some j.val → hexd j.val = UInt8.ofNat i.val := by decide +kernel
  have h2 := this ⟨a.toNat, a.toNat_lt⟩ ⟨h, hexv_lt e⟩
  simp only [UInt8.ofNat_toNat] at h2
  exact h2 e
theorem plain39 : plainB 39 = true := by decide
theorem q1_of_esc {l r : List UInt8} {c : UInt8} (h : escL l = some (c, r)) : 92 :: l = q1 c ++ r := by
  match l with
  | [] => simp [escL] at h
  | [_] => simp [escL] at h
  | a :: b :: t =>
    simp only [escL] at h
    cases ha : hexv a with
    | none => rw [ha] at h; cases h
    | some x =>
      cases hb : hexv b with
      | none => rw [ha, hb] at h; cases h
      | some y =>
        rw [ha, hb] at h
        simp only at h
        by_cases hp : plainB (16 * x + y) = true
        · rw [if_pos hp] at h; cases h
        · rw [if_neg hp] at h
          simp only [Option.some.injEq, Prod.mk.injEq] at h
          obtain ⟨rfl, rfl⟩ := h
          have hx := hexv_lt ha
          have hy := hexv_lt hb
          have hn : (UInt8.ofNat (16 * x + y)).toNat = 16 * x + y := by rw [UInt8.toNat_ofNat']; omega
          have h39 : UInt8.ofNat (16 * x + y) ≠ 39 := fun e => hp (by rw [← hn, e]; exact plain39)
          unfold q1
          rw [if_neg h39, hn, if_neg hp, show (16 * x + y) / 16 = x by omega, show (16 * x + y) % 16 = y by omega, hexv_back ha, hexv_back hb]
          rfl
theorem q1_of_first {l r : List UInt8} {c : UInt8} (h : firstL l = some (c, r)) : l = q1 c ++ r := by
  match l with
  | [] => simp [firstL] at h
  | a :: t =>
    simp only [firstL] at h
    by_cases h92 : a = 92
    · rw [if_pos h92] at h
      subst h92
      exact q1_of_esc h
    · rw [if_neg h92] at h
      by_cases h39 : a = 39
      · rw [if_pos h39] at h
        subst h39
        match t with
        | [] => cases h
        | d :: t' =>
          simp only at h
          by_cases hd : d = 39
          · rw [if_pos hd] at h
            simp only [Option.some.injEq, Prod.mk.injEq] at h
            obtain ⟨rfl, rfl⟩ := h
            subst hd
            rfl
          · rw [if_neg hd] at h; cases h
      · rw [if_neg h39] at h
        by_cases hp : plainB a.toNat = true
        · rw [if_pos hp] at h
          simp only [Option.some.injEq, Prod.mk.injEq] at h
          obtain ⟨rfl, rfl⟩ := h
          unfold q1
          rw [if_neg h39, if_pos hp]
          rfl
        · rw [if_neg hp] at h; cases h
theorem qs_of_readB : ∀ (n : Nat) (l t : List UInt8), l.length ≤ n → readB l = some t → l = qs t ++ [39]
  | 0, l, t, hn, h => by
    have : l = [] := List.eq_nil_of_length_eq_zero (by omega)
    subst this
    rw [readB_none (by simp) rfl] at h
    cases h
  | n + 1, l, t, hn, h => by
    by_cases h39 : l = [39]
    · subst h39
      rw [readB_end] at h
      cases h
      rfl
    · cases hf : firstL l with
      | none => rw [readB_none h39 hf] at h; cases h
      | some x =>
        obtain ⟨c, r⟩ := x
        rw [readB_some h39 hf] at h
        cases hr : readB r with
        | none => rw [hr] at h; cases h
        | some t' =>
          rw [hr] at h
          simp only [Option.map_some, Option.some.injEq] at h
          subst h
          have hl := (firstL_len hf).1
          rw [q1_of_first hf, qs_of_readB n r t' (by omega) hr]
          simp [qs]

theorem dval_pos {l : List UInt8} (hne : l ≠ []) (hd : l.all digB = true) (h0 : l.head? ≠ some 48) : 1 ≤ dval l := by
  cases l with
  | nil => exact absurd rfl hne
  | cons c r =>
    rw [List.all_cons, Bool.and_eq_true] at hd
    have hc := digB_iff.1 hd.1
    have h48 : c.toNat ≠ 48 := fun e => h0 (by rw [List.head?_cons, UInt8.toNat_inj.1 (show c.toNat = (48 : UInt8).toNat from e)])
    have := dfrom_ge r (10 * 0 + (c.toNat - 48))
    rw [dval_dfrom, dfrom_cons]
    omega
theorem digits_of : ∀ (n : Nat) (l : List UInt8), l.length ≤ n → l ≠ [] → l.all digB = true → (l.head? ≠ some 48 ∨ l = [48]) → Lib.decDigits (dval l) = l
  | 0, l, hn, hne, _, _ => absurd (List.eq_nil_of_length_eq_zero (by omega)) hne
  | n + 1, l, hn, hne, hd, h0 => by
    rcases List.eq_nil_or_concat l with rfl | ⟨l', c, rfl⟩
    · exact absurd rfl hne
    · simp only [List.concat_eq_append] at *
      rw [List.all_append, Bool.and_eq_true] at hd
      have hc : 48 ≤ c.toNat ∧ c.toNat ≤ 57 := by
        have := hd.2
        simp only [List.all_cons, List.all_nil, Bool.and_true] at this
        exact digB_iff.1 this
      have hcc : UInt8.ofNat (48 + (c.toNat - 48)) = c := by rw [show 48 + (c.toNat - 48) = c.toNat by omega, UInt8.ofNat_toNat]
      rw [dval_snoc]
      by_cases he : l' = []
      · subst he
        rw [Lib.decDigits, dif_pos (by simp [dval]; omega)]
        simp [dval, hcc]
      · have hh : l'.head? ≠ some 48 := by
          rcases h0 with h0 | h0
          · cases l' with
            | nil => exact absurd rfl he
            | cons a t => exact h0
          · have := congrArg List.length h0
            simp at this
            exact absurd this he
        have hp := dval_pos he hd.1 hh
        rw [Lib.decDigits, dif_neg (by omega), show (10 * dval l' + (c.toNat - 48)) / 10 = dval l' by omega, show (10 * dval l' + (c.toNat - 48)) % 10 = c.toNat - 48 by omega, hcc, digits_of n l' (by simp at hn; omega) he hd.1 (.inl hh)]
theorem digits_all (u : Nat) : (Lib.decDigits u).all digB = true := by
  rw [List.all_eq_true]
  intro c hc
  exact digB_iff.2 (digits_range u c hc)
theorem digits_lead (u : Nat) (h : 1 ≤ u) : (Lib.decDigits u).head? ≠ some 48 := by
  induction u using Nat.strongRecOn with
  | ind u ih =>
    rw [Lib.decDigits]
    split
    · rename_i h10
      simp only [List.head?_cons, ne_eq, Option.some.injEq]
      intro e
      have := congrArg UInt8.toNat e
      rw [dig_byte h10] at this
      have h48 : (48 : UInt8).toNat = 48 := rfl
      omega
    · rename_i h10
      have := ih (u / 10) (by omega) (by omega)
      cases hd : Lib.decDigits (u / 10) with
      | nil => exact absurd hd (digits_ne_nil _)
      | cons a t => rw [hd] at this; exact this
theorem wrB_digits (u : Nat) : wrB (Lib.decDigits u) = true := by
  by_cases h0 : u = 0
  · subst h0; rw [Lib.decDigits]; decide
  have hl := digits_lead u (by omega)
  have ha := digits_all u
  cases e : Lib.decDigits u with
  | nil => exact absurd e (digits_ne_nil _)
  | cons c r =>
    rw [e] at hl ha
    have hc := digB_iff.1 (by rw [List.all_cons, Bool.and_eq_true] at ha; exact ha.1)
    have h45 : c ≠ 45 := fun e => by subst e; exact absurd hc.1 (by decide)
    have h48 : c ≠ 48 := fun e => hl (by rw [e]; rfl)
    have hp : ([45] : List UInt8).isPrefixOf (c :: r) = false := by simp [List.isPrefixOf, Ne.symm h45]
    unfold wrB Lib.trimPrefix Lib.hasPrefix
    rw [hp]
    simp only [Bool.false_eq_true, if_false, if_neg h48]
    exact ha
theorem wrB_neg (u : Nat) (h : 1 ≤ u) : wrB (45 :: Lib.decDigits u) = true := by
  have hl := digits_lead u h
  have ha := digits_all u
  cases e : Lib.decDigits u with
  | nil => exact absurd e (digits_ne_nil _)
  | cons c r =>
    rw [e] at hl ha
    have h48 : c ≠ 48 := fun e => hl (by rw [e]; rfl)
    have hp : ([45] : List UInt8).isPrefixOf (45 :: c :: r) = true := by simp [List.isPrefixOf]
    unfold wrB Lib.trimPrefix Lib.hasPrefix
    rw [hp]
    simp only [if_true, List.length_cons, List.length_nil, List.drop_succ_cons, List.drop_zero, if_neg h48]
    exact ha
theorem wrB_itoa (n : Int) : wrB (Lib.itoa n) = true := by
  unfold Lib.itoa
  by_cases h : n < 0
  · rw [if_pos h]; exact wrB_neg _ (by omega)
  · rw [if_neg h]; exact wrB_digits _
theorem ival_itoa (n : Int) : ival (Lib.itoa n) = n := by
  obtain ⟨c, r, e, h | h⟩ := itoa_head n
  · obtain ⟨h1, rfl, rfl⟩ := h
    rw [e]
    simp only [ival, if_true]
    rw [dval_digits]; omega
  · obtain ⟨h1, h2, h3, h4⟩ := h
    have h45 : c ≠ 45 := fun e => by subst e; exact absurd h2 (by decide)
    rw [e]
    simp only [ival, if_neg h45]
    rw [h4, dval_digits]; omega
theorem itoa_ival {l : List UInt8} (h : wrB l = true) : Lib.itoa (ival l) = l := by
  rcases wrB_cases h with ⟨r, rfl, hr, hd, h48⟩ | ⟨hne, hd, hm⟩
  · have hp := dval_pos hr hd h48
    have e : ival (45 :: r) = -(dval r : Int) := rfl
    rw [e]
    unfold Lib.itoa
    rw [if_pos (by omega), show (-(dval r : Int)).natAbs = dval r by omega, digits_of _ r (Nat.le_refl _) hr hd (.inl h48)]
  · have e : ival l = (dval l : Int) := by
      cases l with
      | nil => exact absurd rfl hne
      | cons c r =>
        have h45 : c ≠ 45 := fun e => hm r (by rw [e])
        simp only [ival, if_neg h45]
    rw [e]
    unfold Lib.itoa
    rw [if_neg (by omega), Int.toNat_natCast]
    refine digits_of _ l (Nat.le_refl _) hne hd ?_
    cases l with
    | nil => exact absurd rfl hne
    | cons c r =>
      by_cases h48 : c = 48
      · refine .inr ?_
        subst h48
        have : wrB (48 :: r) = ((48 :: r) == [48]) := by
          unfold wrB Lib.trimPrefix Lib.hasPrefix
          have hp : ([45] : List UInt8).isPrefixOf (48 :: r) = false := by simp [List.isPrefixOf]
          rw [hp]
          simp only [Bool.false_eq_true, if_false, if_true]
        rw [this] at h
        exact eq_of_beq h
      · exact .inl (by simpa using h48)

/-- A good value's text is read as that value. -/
theorem readV_text {k n : Int} {s : ByteArray} (hg : goodB k n s = true) (hn : inI n = true) : readV (textL k n s) = .tuple #[.agg #[.int .i64 k, .int .i64 n, .string s], .int .i64 0] := by
  rcases good_kinds hg with ⟨rfl, rfl, hs⟩ | ⟨rfl, h01, hs⟩ | ⟨rfl, hs⟩ | ⟨rfl, rfl, hs⟩
  · have : s = ⟨#[]⟩ := bytes_ext hs
    subst this; rfl
  · have : s = ⟨#[]⟩ := bytes_ext hs
    subst this
    rcases h01 with rfl | rfl <;> rfl
  · have : s = ⟨#[]⟩ := bytes_ext hs
    subst this
    have e : textL 2 n ⟨#[]⟩ = Lib.itoa n := rfl
    rw [e]
    obtain ⟨c, r, hc, _⟩ := itoa_head n
    have hf := itoa_first hc
    have hr : readV (c :: r) = intRes (c :: r) := by
      have h39 : c ≠ 39 := by rintro rfl; rcases hf with h | h; exact absurd h (by decide); exact absurd h.1 (by decide)
      have h78 : c ≠ 78 := by rintro rfl; rcases hf with h | h; exact absurd h (by decide); exact absurd h.2 (by decide)
      have h70 : c ≠ 70 := by rintro rfl; rcases hf with h | h; exact absurd h (by decide); exact absurd h.2 (by decide)
      have h84 : c ≠ 84 := by rintro rfl; rcases hf with h | h; exact absurd h (by decide); exact absurd h.2 (by decide)
      unfold readV
      rw [if_neg (fun e => h78 (List.cons.inj e).1), if_neg (fun e => h70 (List.cons.inj e).1), if_neg (fun e => h84 (List.cons.inj e).1)]
      simp only [if_neg h39]
    rw [hc, hr, ← hc, intRes, wrB_itoa, ival_itoa, hn]
    rfl
  · have e : textL 3 0 s = 39 :: (qs s.data.toList ++ [39]) := rfl
    have hr : readV (39 :: (qs s.data.toList ++ [39])) = textRes (readB (qs s.data.toList ++ [39])) := rfl
    rw [e, hr, readB_qs, textRes, if_pos (by rw [← size_list rfl]; exact hs)]
end Go.Proofs.YtiahojbliaaklaaGreatDoor
