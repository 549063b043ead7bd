/- The tokens of a text stand one behind the other, blanks between. What is written is read back, and what is read was written so: plain mathematics of the texts. A value's own text is one token: the mathematics. Tokens with blanks between are the same tokens: the mathematics. The tokens of a text that is put together of tokens and blanks. Texts as tokens one behind the other, whatever stands behind them: the mathematics. Contracts of the reference's Text and what it calls. The contract of the reference's Text, at texts. The contract of the reference's Text, at all good values. The law LexValues, walked: true at any value. Values' texts within queries: the mathematics. The texts that ParseTurns reads, as queries: the mathematics. -/
import Derived.Test.YtppigamibgefaaaGreatDoorZp19
import Derived.Test.YtppigamibgefaaaGreatDoorZp10
import Derived.Test.YtppigamibgefaaaGreatDoorZp20
import Derived.Test.YtppigamibgefaaaGreatDoorZp14
namespace Go.Proofs.YtppigamibgefaaaGreatDoor
open Go.RowKit

/-- Blanks from k to q. -/
def Blk (s : ByteArray) (k q : Nat) : Prop := ∀ j, k ≤ j → j < q → blankB (s.data.toList.getD j 0) = true
inductive Seq (s : ByteArray) : Nat → List Tk → Prop
  | last (k : Nat) (hk : k ≤ s.size) (hb : Blk s k s.size) : Seq s k [⟨0, ⟨#[]⟩, s.size⟩]
  | more (k q M kd : Nat) (r : List Tk) (h1 : k ≤ q) (h2 : q + M ≤ s.size) (h3 : 1 ≤ M) (hk : kd ≠ 0) (hb : Blk s k q) (ht : tokL (s.data.toList.drop q) = (kd, M, 0)) (hr : Seq s (q + M) r) : Seq s k (⟨kd, s.extract q (q + M), q⟩ :: r)
theorem runL_all (f : UInt8 → Bool) : ∀ (l : List UInt8) (j : Nat), j < runL f l → f (l.getD j 0) = true
  | [], j, h => by simp [runL] at h
  | c :: r, j, h => by
    rw [runL] at h
    split at h
    · rename_i hc
      cases j with
      | zero => simpa using hc
      | succ j => have := runL_all f r j (by omega); simpa using this
    · omega
theorem blk_nxt (s : ByteArray) (k : Nat) : Blk s k (nxt s k) := by
  intro j h1 h2
  unfold nxt at h2
  have := runL_all blankB (s.data.toList.drop k) (j - k) (by omega)
  rw [List.getD, List.getElem?_drop, show k + (j - k) = j by omega] at this
  exact this
theorem lexF_seq (s : ByteArray) : ∀ (f k : Nat) (acc l : List Tk), k ≤ s.size → s.size - k < f → lexF s f k acc = .ok l → ∃ r, l = acc ++ r ∧ Seq s k r
  | 0, _, _, _, _, hf, _ => by omega
  | f + 1, k, acc, l, hk, hf, h => by
    have hr := lexF_round s f k acc
    have hn := nxt_le s k hk
    by_cases he : nxt s k = s.size
    · rw [hr.1 he] at h
      cases h
      exact ⟨_, rfl, .last k hk (he ▸ blk_nxt s k)⟩
    · cases ht : tokL (s.data.toList.drop (nxt s k)) with | mk kd NC =>
      obtain ⟨M, d⟩ := NC
      have h2 := hr.2 he kd M d ht
      by_cases h0 : d = 0
      · by_cases hl : acc.length = 250
        · rw [h2.2.1 h0 hl] at h; cases h
        · rw [h2.2.2 h0 hl] at h
          subst h0
          have hM := tokL_len _ _ _ _ ht
          have hM2 := hM.1
          rw [List.length_drop, Array.length_toList] at hM2
          have hsz : s.data.size = s.size := rfl
          have hM1 := hM.2.1 rfl
          obtain ⟨r, hr1, hr2⟩ := lexF_seq s f (nxt s k + M) _ l (by omega) (by omega) h
          exact ⟨_ :: r, by rw [hr1, List.append_assoc]; rfl, .more k (nxt s k) M kd r hn.1 (by omega) hM1 (tokL_kind _ _ _ ht) (blk_nxt s k) ht hr2⟩
      · rw [h2.1 h0] at h; cases h
theorem lexL_seq (s : ByteArray) (l : List Tk) (h : lexL s = .ok l) : Seq s 0 l ∧ s.size ≤ 1500 := by
  unfold lexL at h
  split at h
  · cases h
  · obtain ⟨r, hr, hs⟩ := lexF_seq s _ _ _ _ (by omega) (by omega) h
    rw [List.nil_append] at hr
    subst hr
    exact ⟨hs, by omega⟩
theorem Seq.ne {s : ByteArray} {k : Nat} {l : List Tk} (h : Seq s k l) : l ≠ [] := by cases h <;> simp
theorem lexF_len (s : ByteArray) : ∀ (f k : Nat) (acc l : List Tk), acc.length ≤ 250 → lexF s f k acc = .ok l → l.length ≤ 251
  | 0, _, acc, l, ha, h => by simp [lexF] at h; subst h; omega
  | f + 1, k, acc, l, ha, h => by
    have hr := lexF_round s f k acc
    by_cases he : nxt s k = s.size
    · rw [hr.1 he] at h; cases h; simp; omega
    · cases ht : tokL (s.data.toList.drop (nxt s k)) with | mk kd NC =>
      obtain ⟨M, d⟩ := NC
      have h2 := hr.2 he kd M d ht
      by_cases h0 : d = 0
      · by_cases hl : acc.length = 250
        · rw [h2.2.1 h0 hl] at h; cases h
        · rw [h2.2.2 h0 hl] at h; exact lexF_len s f _ _ l (by simp; omega) h
      · rw [h2.1 h0] at h; cases h
theorem lexL_len (s : ByteArray) (l : List Tk) (h : lexL s = .ok l) : l.length ≤ 251 := by
  unfold lexL at h
  split at h
  · cases h
  · exact lexF_len s _ _ _ _ (by simp) h
end Go.Proofs.YtppigamibgefaaaGreatDoor
namespace Go.Proofs.YtppigamibgefaaaGreatDoor
open Go.RowKit

theorem hexv_hexd {n : Nat} (h : n < 16) : hexv (hexd n) = some n := by
  have : ∀ i : Fin 16, hexv (hexd i.val) = some i.val := by decide
  exact this ⟨n, h⟩
theorem first_q1 (c : UInt8) (x : List UInt8) : firstL (q1 c ++ x) = some (c, x) ∧ (q1 c ++ x) ≠ [39] := by
  rcases q1_cases c with ⟨rfl, e⟩ | ⟨h39, h92, hp, e⟩ | ⟨h39, hp, e⟩
  · rw [e]; exact ⟨rfl, by simp⟩
  · rw [e]
    refine ⟨?_, fun h => h39 (List.cons.inj h).1⟩
    simp only [List.cons_append, List.nil_append, firstL, if_neg h92, if_neg h39, hp, if_true]
  · rw [e]
    refine ⟨?_, fun h => absurd (List.cons.inj h).1 (by decide)⟩
    have h1 : c.toNat / 16 < 16 := by have := c.toNat_lt; omega
    have h2 : c.toNat % 16 < 16 := by omega
    have h3 : 16 * (c.toNat / 16) + c.toNat % 16 = c.toNat := by omega
    simp only [List.cons_append, List.nil_append, firstL, if_true, escL, hexv_hexd h1, hexv_hexd h2, h3, hp, Bool.false_eq_true, if_false, UInt8.ofNat_toNat]
theorem readB_qs : ∀ l : List UInt8, readB (qs l ++ [39]) = some l
  | [] => readB_end
  | c :: l => by
    have e : qs (c :: l) ++ [39] = q1 c ++ (qs l ++ [39]) := by simp [qs]
    rw [e, readB_some (first_q1 c _).2 (first_q1 c _).1, readB_qs l]
    rfl
theorem hexv_back {a : UInt8} {h : Nat} (e : hexv a = some h) : hexd h = a := by
  have : ∀ i : Fin 256, ∀ j : Fin 16, hexv (UInt8.ofNat i.val) = some j.val → hexd j.val = UInt8.ofNat i.val := by decide +kernel
  have h2 := this ⟨a.toNat, a.toNat_lt⟩ ⟨h, hexv_lt e⟩
  simp only [UInt8.ofNat_toNat] at h2
  exact h2 e
theorem plain39 : plainB 39 = true := by decide
theorem q1_of_esc {l r : List UInt8} {c : UInt8} (h : escL l = some (c, r)) : 92 :: l = q1 c ++ r := by
  match l with
  | [] => simp [escL] at h
  | [_] => simp [escL] at h
  | a :: b :: t =>
    simp only [escL] at h
    cases ha : hexv a with
    | none => rw [ha] at h; cases h
    | some x =>
      cases hb : hexv b with
      | none => rw [ha, hb] at h; cases h
      | some y =>
        rw [ha, hb] at h
        simp only at h
        by_cases hp : plainB (16 * x + y) = true
        · rw [if_pos hp] at h; cases h
        · rw [if_neg hp] at h
          simp only [Option.some.injEq, Prod.mk.injEq] at h
          obtain ⟨rfl, rfl⟩ := h
          have hx := hexv_lt ha
          have hy := hexv_lt hb
          have hn : (UInt8.ofNat (16 * x + y)).toNat = 16 * x + y := by rw [UInt8.toNat_ofNat']; omega
          have h39 : UInt8.ofNat (16 * x + y) ≠ 39 := fun e => hp (by rw [← hn, e]; exact plain39)
          unfold q1
          rw [if_neg h39, hn, if_neg hp, show (16 * x + y) / 16 = x by omega, show (16 * x + y) % 16 = y by omega, hexv_back ha, hexv_back hb]
          rfl
theorem q1_of_first {l r : List UInt8} {c : UInt8} (h : firstL l = some (c, r)) : l = q1 c ++ r := by
  match l with
  | [] => simp [firstL] at h
  | a :: t =>
    simp only [firstL] at h
    by_cases h92 : a = 92
    · rw [if_pos h92] at h
      subst h92
      exact q1_of_esc h
    · rw [if_neg h92] at h
      by_cases h39 : a = 39
      · rw [if_pos h39] at h
        subst h39
        match t with
        | [] => cases h
        | d :: t' =>
          simp only at h
          by_cases hd : d = 39
          · rw [if_pos hd] at h
            simp only [Option.some.injEq, Prod.mk.injEq] at h
            obtain ⟨rfl, rfl⟩ := h
            subst hd
            rfl
          · rw [if_neg hd] at h; cases h
      · rw [if_neg h39] at h
        by_cases hp : plainB a.toNat = true
        · rw [if_pos hp] at h
          simp only [Option.some.injEq, Prod.mk.injEq] at h
          obtain ⟨rfl, rfl⟩ := h
          unfold q1
          rw [if_neg h39, if_pos hp]
          rfl
        · rw [if_neg hp] at h; cases h
theorem qs_of_readB : ∀ (n : Nat) (l t : List UInt8), l.length ≤ n → readB l = some t → l = qs t ++ [39]
  | 0, l, t, hn, h => by
    have : l = [] := List.eq_nil_of_length_eq_zero (by omega)
    subst this
    rw [readB_none (by simp) rfl] at h
    cases h
  | n + 1, l, t, hn, h => by
    by_cases h39 : l = [39]
    · subst h39
      rw [readB_end] at h
      cases h
      rfl
    · cases hf : firstL l with
      | none => rw [readB_none h39 hf] at h; cases h
      | some x =>
        obtain ⟨c, r⟩ := x
        rw [readB_some h39 hf] at h
        cases hr : readB r with
        | none => rw [hr] at h; cases h
        | some t' =>
          rw [hr] at h
          simp only [Option.map_some, Option.some.injEq] at h
          subst h
          have hl := (firstL_len hf).1
          rw [q1_of_first hf, qs_of_readB n r t' (by omega) hr]
          simp [qs]

theorem dval_pos {l : List UInt8} (hne : l ≠ []) (hd : l.all digB = true) (h0 : l.head? ≠ some 48) : 1 ≤ dval l := by
  cases l with
  | nil => exact absurd rfl hne
  | cons c r =>
    rw [List.all_cons, Bool.and_eq_true] at hd
    have hc := digB_iff.1 hd.1
    have h48 : c.toNat ≠ 48 := fun e => h0 (by rw [List.head?_cons, UInt8.toNat_inj.1 (show c.toNat = (48 : UInt8).toNat from e)])
    have := dfrom_ge r (10 * 0 + (c.toNat - 48))
    rw [dval_dfrom, dfrom_cons]
    omega
theorem digits_of : ∀ (n : Nat) (l : List UInt8), l.length ≤ n → l ≠ [] → l.all digB = true → (l.head? ≠ some 48 ∨ l = [48]) → Lib.decDigits (dval l) = l
  | 0, l, hn, hne, _, _ => absurd (List.eq_nil_of_length_eq_zero (by omega)) hne
  | n + 1, l, hn, hne, hd, h0 => by
    rcases List.eq_nil_or_concat l with rfl | ⟨l', c, rfl⟩
    · exact absurd rfl hne
    · simp only [List.concat_eq_append] at *
      rw [List.all_append, Bool.and_eq_true] at hd
      have hc : 48 ≤ c.toNat ∧ c.toNat ≤ 57 := by
        have := hd.2
        simp only [List.all_cons, List.all_nil, Bool.and_true] at this
        exact digB_iff.1 this
      have hcc : UInt8.ofNat (48 + (c.toNat - 48)) = c := by rw [show 48 + (c.toNat - 48) = c.toNat by omega, UInt8.ofNat_toNat]
      rw [dval_snoc]
      by_cases he : l' = []
      · subst he
        rw [Lib.decDigits, dif_pos (by simp [dval]; omega)]
        simp [dval, hcc]
      · have hh : l'.head? ≠ some 48 := by
          rcases h0 with h0 | h0
          · cases l' with
            | nil => exact absurd rfl he
            | cons a t => exact h0
          · have := congrArg List.length h0
            simp at this
            exact absurd this he
        have hp := dval_pos he hd.1 hh
        rw [Lib.decDigits, dif_neg (by omega), show (10 * dval l' + (c.toNat - 48)) / 10 = dval l' by omega, show (10 * dval l' + (c.toNat - 48)) % 10 = c.toNat - 48 by omega, hcc, digits_of n l' (by simp at hn; omega) he hd.1 (.inl hh)]
theorem digits_all (u : Nat) : (Lib.decDigits u).all digB = true := by
  rw [List.all_eq_true]
  intro c hc
  exact digB_iff.2 (digits_range u c hc)
theorem digits_lead (u : Nat) (h : 1 ≤ u) : (Lib.decDigits u).head? ≠ some 48 := by
  induction u using Nat.strongRecOn with
  | ind u ih =>
    rw [Lib.decDigits]
    split
    · rename_i h10
      simp only [List.head?_cons, ne_eq, Option.some.injEq]
      intro e
      have := congrArg UInt8.toNat e
      rw [dig_byte h10] at this
      have h48 : (48 : UInt8).toNat = 48 := rfl
      omega
    · rename_i h10
      have := ih (u / 10) (by omega) (by omega)
      cases hd : Lib.decDigits (u / 10) with
      | nil => exact absurd hd (digits_ne_nil _)
      | cons a t => rw [hd] at this; exact this
theorem wrB_digits (u : Nat) : wrB (Lib.decDigits u) = true := by
  by_cases h0 : u = 0
  · subst h0; rw [Lib.decDigits]; decide
  have hl := digits_lead u (by omega)
  have ha := digits_all u
  cases e : Lib.decDigits u with
  | nil => exact absurd e (digits_ne_nil _)
  | cons c r =>
    rw [e] at hl ha
    have hc := digB_iff.1 (by rw [List.all_cons, Bool.and_eq_true] at ha; exact ha.1)
    have h45 : c ≠ 45 := fun e => by subst e; exact absurd hc.1 (by decide)
    have h48 : c ≠ 48 := fun e => hl (by rw [e]; rfl)
    have hp : ([45] : List UInt8).isPrefixOf (c :: r) = false := by simp [List.isPrefixOf, Ne.symm h45]
    unfold wrB Lib.trimPrefix Lib.hasPrefix
    rw [hp]
    simp only [Bool.false_eq_true, if_false, if_neg h48]
    exact ha
theorem wrB_neg (u : Nat) (h : 1 ≤ u) : wrB (45 :: Lib.decDigits u) = true := by
  have hl := digits_lead u h
  have ha := digits_all u
  cases e : Lib.decDigits u with
  | nil => exact absurd e (digits_ne_nil _)
  | cons c r =>
    rw [e] at hl ha
    have h48 : c ≠ 48 := fun e => hl (by rw [e]; rfl)
    have hp : ([45] : List UInt8).isPrefixOf (45 :: c :: r) = true := by simp [List.isPrefixOf]
    unfold wrB Lib.trimPrefix Lib.hasPrefix
    rw [hp]
    simp only [if_true, List.length_cons, List.length_nil, List.drop_succ_cons, List.drop_zero, if_neg h48]
    exact ha
theorem wrB_itoa (n : Int) : wrB (Lib.itoa n) = true := by
  unfold Lib.itoa
  by_cases h : n < 0
  · rw [if_pos h]; exact wrB_neg _ (by omega)
  · rw [if_neg h]; exact wrB_digits _
theorem ival_itoa (n : Int) : ival (Lib.itoa n) = n := by
  obtain ⟨c, r, e, h | h⟩ := itoa_head n
  · obtain ⟨h1, rfl, rfl⟩ := h
    rw [e]
    simp only [ival, if_true]
    rw [dval_digits]; omega
  · obtain ⟨h1, h2, h3, h4⟩ := h
    have h45 : c ≠ 45 := fun e => by subst e; exact absurd h2 (by decide)
    rw [e]
    simp only [ival, if_neg h45]
    rw [h4, dval_digits]; omega
theorem itoa_ival {l : List UInt8} (h : wrB l = true) : Lib.itoa (ival l) = l := by
  rcases wrB_cases h with ⟨r, rfl, hr, hd, h48⟩ | ⟨hne, hd, hm⟩
  · have hp := dval_pos hr hd h48
    have e : ival (45 :: r) = -(dval r : Int) := rfl
    rw [e]
    unfold Lib.itoa
    rw [if_pos (by omega), show (-(dval r : Int)).natAbs = dval r by omega, digits_of _ r (Nat.le_refl _) hr hd (.inl h48)]
  · have e : ival l = (dval l : Int) := by
      cases l with
      | nil => exact absurd rfl hne
      | cons c r =>
        have h45 : c ≠ 45 := fun e => hm r (by rw [e])
        simp only [ival, if_neg h45]
    rw [e]
    unfold Lib.itoa
    rw [if_neg (by omega), Int.toNat_natCast]
    refine digits_of _ l (Nat.le_refl _) hne hd ?_
    cases l with
    | nil => exact absurd rfl hne
    | cons c r =>
      by_cases h48 : c = 48
      · refine .inr ?_
        subst h48
        have : wrB (48 :: r) = ((48 :: r) == [48]) := by
          unfold wrB Lib.trimPrefix Lib.hasPrefix
          have hp : ([45] : List UInt8).isPrefixOf (48 :: r) = false := by simp [List.isPrefixOf]
          rw [hp]
          simp only [Bool.false_eq_true, if_false, if_true]
        rw [this] at h
        exact eq_of_beq h
      · exact .inl (by simpa using h48)

/-- A good value's text is read as that value. -/
theorem readV_text {k n : Int} {s : ByteArray} (hg : goodB k n s = true) (hn : inI n = true) : readV (textL k n s) = .tuple #[.agg #[.int .i64 k, .int .i64 n, .string s], .int .i64 0] := by
  rcases good_kinds hg with ⟨rfl, rfl, hs⟩ | ⟨rfl, h01, hs⟩ | ⟨rfl, hs⟩ | ⟨rfl, rfl, hs⟩
  · have : s = ⟨#[]⟩ := bytes_ext hs
    subst this; rfl
  · have : s = ⟨#[]⟩ := bytes_ext hs
    subst this
    rcases h01 with rfl | rfl <;> rfl
  · have : s = ⟨#[]⟩ := bytes_ext hs
    subst this
    have e : textL 2 n ⟨#[]⟩ = Lib.itoa n := rfl
    rw [e]
    obtain ⟨c, r, hc, _⟩ := itoa_head n
    have hf := itoa_first hc
    have hr : readV (c :: r) = intRes (c :: r) := by
      have h39 : c ≠ 39 := by rintro rfl; rcases hf with h | h; exact absurd h (by decide); exact absurd h.1 (by decide)
      have h78 : c ≠ 78 := by rintro rfl; rcases hf with h | h; exact absurd h (by decide); exact absurd h.2 (by decide)
      have h70 : c ≠ 70 := by rintro rfl; rcases hf with h | h; exact absurd h (by decide); exact absurd h.2 (by decide)
      have h84 : c ≠ 84 := by rintro rfl; rcases hf with h | h; exact absurd h (by decide); exact absurd h.2 (by decide)
      unfold readV
      rw [if_neg (fun e => h78 (List.cons.inj e).1), if_neg (fun e => h70 (List.cons.inj e).1), if_neg (fun e => h84 (List.cons.inj e).1)]
      simp only [if_neg h39]
    rw [hc, hr, ← hc, intRes, wrB_itoa, ival_itoa, hn]
    rfl
  · have e : textL 3 0 s = 39 :: (qs s.data.toList ++ [39]) := rfl
    have hr : readV (39 :: (qs s.data.toList ++ [39])) = textRes (readB (qs s.data.toList ++ [39])) := rfl
    rw [e, hr, readB_qs, textRes, if_pos (by rw [← size_list rfl]; exact hs)]
end Go.Proofs.YtppigamibgefaaaGreatDoor
namespace Go.Proofs.YtppigamibgefaaaGreatDoor
open Go.RowKit

theorem hexd_ne {n : Nat} (h : n < 16) : hexd n ≠ 39 := by
  have : ∀ i : Fin 16, hexd i.val ≠ 39 := by decide
  exact this ⟨n, h⟩
theorem qN_q1 (c : UInt8) (x : List UInt8) : qN (q1 c ++ x) = (q1 c).length + qN x := by
  rcases q1_cases c with ⟨rfl, e⟩ | ⟨h39, h92, hp, e⟩ | ⟨h39, hp, e⟩
  · rw [e]; exact qN_two x
  · rw [e]; exact qN_ne c x h39
  · rw [e]
    have h1 : c.toNat / 16 < 16 := by have := c.toNat_lt; omega
    have h2 : c.toNat % 16 < 16 := by omega
    show qN (92 :: hexd (c.toNat / 16) :: hexd (c.toNat % 16) :: x) = _
    rw [qN_ne _ _ (by decide), qN_ne _ _ (hexd_ne h1), qN_ne _ _ (hexd_ne h2)]
    simp; omega
theorem qN_qs : ∀ l : List UInt8, qN (qs l ++ [39]) = (qs l).length + 1
  | [] => rfl
  | c :: l => by
    have e : qs (c :: l) ++ [39] = q1 c ++ (qs l ++ [39]) := by simp [qs]
    rw [e, qN_q1, qN_qs l]
    simp [qs]; omega
theorem runL_dig : ∀ l : List UInt8, l.all digB = true → runL partB l = l.length
  | [], _ => rfl
  | c :: r, h => by
    rw [List.all_cons, Bool.and_eq_true] at h
    have hp : partB c = true := by unfold partB; rw [h.1]; simp
    rw [runL, hp]
    simp [runL_dig r h.2]
theorem litC_text {k n : Int} {s : ByteArray} (hg : goodB k n s = true) (hn : inI n = true) : litC (textL k n s) = 0 := by
  have h := readV_text hg hn
  obtain ⟨a, b, c, hc⟩ := readV_code (textL k n s)
  rw [hc] at h
  simp only [Value.tuple.injEq, Array.mk.injEq, List.cons.injEq, Value.int.injEq] at h
  rcases litC_cases (textL k n s) with h1 | h1 | h1 <;> omega
theorem tok_int (n : Int) (s : ByteArray) (hg : goodB 2 n s = true) (hn : inI n = true) : tokL (textL 2 n s) = (2, (textL 2 n s).length, 0) ∧ ∃ c r, textL 2 n s = c :: r ∧ blankB c = false := by
  have hl := litC_text hg hn
  have e : textL 2 n s = Lib.itoa n := rfl
  rw [e] at hl ⊢
  by_cases h : n < 0
  · have ei : Lib.itoa n = 45 :: Lib.decDigits n.natAbs := by unfold Lib.itoa; rw [if_pos h]
    rw [ei] at hl ⊢
    have hr := runL_dig _ (digits_all n.natAbs)
    refine ⟨?_, _, _, rfl, by decide⟩
    have t1 : ((45 : UInt8).toNat = 39) = False := by decide
    have t2 : ((45 : UInt8).toNat = 45) = True := by decide
    unfold tokL
    simp only [t1, t2, if_false, if_true, hr]
    have h1 : 1 + (Lib.decDigits n.natAbs).length = (45 :: Lib.decDigits n.natAbs).length := by simp; omega
    rw [h1, List.take_length, hl]
  · have ei : Lib.itoa n = Lib.decDigits n.toNat := by unfold Lib.itoa; rw [if_neg h]
    rw [ei] at hl ⊢
    have hd := digits_all n.toNat
    have hr := runL_dig _ hd
    cases hc : Lib.decDigits n.toNat with
    | nil =>
      have := wrB_digits n.toNat
      rw [hc] at this
      exact absurd this (by decide)
    | cons c r =>
      rw [hc] at hl hr hd
      rw [List.all_cons, Bool.and_eq_true] at hd
      have hcd := digB_iff.1 hd.1
      refine ⟨?_, _, _, rfl, by unfold blankB; simp; omega⟩
      have t1 : (c.toNat = 39) = False := by simp; omega
      have t2 : (c.toNat = 45) = False := by simp; omega
      unfold tokL
      simp only [t1, t2, if_false, hd.1, if_true, hr, List.take_length, hl]
theorem tok_text (s : ByteArray) (hg : goodB 3 0 s = true) : tokL (textL 3 0 s) = (3, (textL 3 0 s).length, 0) ∧ ∃ c r, textL 3 0 s = c :: r ∧ blankB c = false := by
  have hl := litC_text hg (by decide)
  have e : textL 3 0 s = 39 :: (qs s.data.toList ++ [39]) := rfl
  rw [e] at hl ⊢
  refine ⟨?_, _, _, rfl, by decide⟩
  have t1 : ((39 : UInt8).toNat = 39) = True := by decide
  unfold tokL
  simp only [t1, if_true, qN_qs]
  have h1 : 1 + ((qs s.data.toList).length + 1) = (39 :: (qs s.data.toList ++ [39])).length := by simp; omega
  rw [h1, List.take_length, hl]
theorem lex_single (s : ByteArray) (kd : Nat) (hs : s.size ≤ 1500) (ht : tokL s.data.toList = (kd, s.size, 0)) (hb : ∃ c r, s.data.toList = c :: r ∧ blankB c = false) :
    lexL s = .ok [⟨kd, s, 0⟩, ⟨0, ⟨#[]⟩, s.size⟩] := by
  obtain ⟨c, r, hc, hcb⟩ := hb
  have hsz := size_list hc
  rw [List.length_cons] at hsz
  have hn : nxt s 0 = 0 := by
    unfold nxt
    rw [List.drop_zero, hc, runL, hcb]
    simp
  unfold lexL
  rw [if_neg (by omega)]
  have hr := (lexF_round s s.size 0 []).2 (by rw [hn]; omega) kd s.size 0 (by rw [hn, List.drop_zero]; exact ht)
  rw [hr.2.2 rfl (by simp), hn, Nat.zero_add]
  have he : s.extract 0 s.size = s := by ext1; simp
  rw [he, List.nil_append]
  obtain ⟨f, hf⟩ : ∃ f, s.size = f + 1 := ⟨s.size - 1, by omega⟩
  have hn2 : nxt s s.size = s.size := by
    unfold nxt
    rw [List.drop_of_length_le (by rw [Array.length_toList]; exact Nat.le_refl _)]
    rfl
  have h3 : ∀ q, lexF s s.size s.size q = lexF s (f + 1) s.size q := fun q => congrArg (fun n => lexF s n s.size q) hf
  rw [h3, (lexF_round s f s.size _).1 hn2]
  rfl
end Go.Proofs.YtppigamibgefaaaGreatDoor
namespace Go.Proofs.YtppigamibgefaaaGreatDoor
open Go.RowKit

theorem run_stop (f : UInt8 → Bool) (b : UInt8) (hb : f b = false) : ∀ (l rest : List UInt8), runL f (l.take (runL f l) ++ b :: rest) = runL f l
  | [], rest => by simp [runL, hb]
  | c :: r, rest => by
    by_cases h : f c = true
    · have e : runL f (c :: r) = runL f r + 1 := by rw [runL, h]; rfl
      rw [e, List.take_succ_cons, List.cons_append, runL, h]
      simp [run_stop f b hb r rest]
    · have h' : f c = false := by simpa using h
      have e : runL f (c :: r) = 0 := by rw [runL, h']; rfl
      rw [e, List.take_zero, List.nil_append, runL, hb]; rfl
theorem qN_stop (b : UInt8) (hb : b ≠ 39) : ∀ (t rest : List UInt8), qN (qs t ++ 39 :: b :: rest) = (qs t).length + 1
  | [], rest => by
    show qN (39 :: b :: rest) = _
    rw [qN_end _ (by simp [Lib.hasPrefix, List.isPrefixOf, Ne.symm hb])]; rfl
  | c :: t, rest => by
    have e : qs (c :: t) ++ 39 :: b :: rest = q1 c ++ (qs t ++ 39 :: b :: rest) := by simp [qs]
    rw [e, qN_q1, qN_stop b hb t rest]
    simp [qs]; omega
theorem lit_quoted {r : List UInt8} (h : litC (39 :: r) = 0) : ∃ t, r = qs t ++ [39] := by
  have hr : readC (39 :: r) = textC (readB r) := by unfold readC; simp
  rcases litC_cases (39 :: r) with ⟨h1, _⟩ | ⟨_, h2⟩ | ⟨_, h2⟩
  · rw [hr] at h1
    cases hb : readB r with
    | none => rw [hb] at h1; exact absurd h1 (by decide)
    | some t => exact ⟨t, qs_of_readB _ _ _ (Nat.le_refl _) hb⟩
  · omega
  · omega
theorem sign_stop (l rest : List UInt8) (h : signN l ≠ 0) : signN (l.take (signN l) ++ 32 :: rest) = signN l := by
  match l, h with
  | [], h => exact absurd rfl h
  | [a], h =>
    have hp : ∀ x y : UInt8, Lib.hasPrefix [a] [x, y] = false := fun x y => by simp [Lib.hasPrefix, List.isPrefixOf]
    have e1 : signN [a] = 1 := by
      unfold signN at h ⊢
      simp only [hp, Bool.or_self, Bool.false_eq_true, if_false] at h ⊢
      split at h
      · rename_i hc; rw [if_pos hc]
      · exact absurd rfl h
    rw [e1]
    have hp2 : ∀ x y : UInt8, y ≠ 32 → Lib.hasPrefix (a :: 32 :: rest) [x, y] = false := fun x y hy => by simp [Lib.hasPrefix, List.isPrefixOf, hy]
    show signN (a :: 32 :: rest) = 1
    unfold signN at e1 ⊢
    simp only [hp, hp2 60 62 (by decide), hp2 60 61 (by decide), hp2 62 61 (by decide), Bool.or_self, Bool.false_eq_true, if_false] at e1 ⊢
    exact e1
  | a :: b :: r, h =>
    have hpp : ∀ (x y : UInt8) (z : List UInt8), Lib.hasPrefix (a :: b :: z) [x, y] = Lib.hasPrefix [a, b] [x, y] := fun x y z => by simp [Lib.hasPrefix, List.isPrefixOf]
    by_cases h2 : (Lib.hasPrefix [a, b] [60, 62] || Lib.hasPrefix [a, b] [60, 61] || Lib.hasPrefix [a, b] [62, 61]) = true
    · have e2 : ∀ z, signN (a :: b :: z) = 2 := fun z => by unfold signN; simp only [hpp]; rw [if_pos h2]
      rw [e2 r]
      exact e2 (32 :: rest)
    · have hp2 : ∀ x y : UInt8, y ≠ 32 → Lib.hasPrefix (a :: 32 :: rest) [x, y] = false := fun x y hy => by simp [Lib.hasPrefix, List.isPrefixOf, hy]
      have e1 : signN (a :: b :: r) = 1 := by
        unfold signN at h ⊢
        simp only [hpp] at h ⊢
        rw [if_neg h2] at h ⊢
        split at h
        · rename_i hc; rw [if_pos hc]
        · exact absurd rfl h
      rw [e1]
      show signN (a :: 32 :: rest) = 1
      unfold signN at e1 ⊢
      simp only [hpp, hp2 60 62 (by decide), hp2 60 61 (by decide), hp2 62 61 (by decide), Bool.or_self, Bool.false_eq_true, if_false] at e1 ⊢
      rw [if_neg h2] at e1
      exact e1
/-- What begins a text begins it too where a blank stands behind. -/
theorem tok_stop (l : List UInt8) (kd M : Nat) (h : tokL l = (kd, M, 0)) (rest : List UInt8) : tokL (l.take M ++ 32 :: rest) = (kd, M, 0) := by
  match l, h with
  | [], h => simp [tokL] at h
  | c :: r, h =>
    have p32 : partB 32 = false := by decide
    simp only [tokL] at h
    split at h
    · rename_i h39
      simp only [Prod.mk.injEq] at h
      obtain ⟨rfl, rfl, hl⟩ := h
      have hc : c = 39 := UInt8.toNat_inj.1 h39
      subst hc
      rw [Nat.add_comm 1 (qN r), List.take_succ_cons] at hl ⊢
      obtain ⟨t, ht⟩ := lit_quoted hl
      rw [ht] at hl ⊢
      have hq := qN_stop 32 (by decide) t rest
      have hlen : (qs t ++ [39]).length = qN r := by rw [← ht, List.length_take]; have := qN_le r; omega
      rw [List.length_append, List.length_singleton] at hlen
      have e : (39 :: (qs t ++ [39])) ++ 32 :: rest = 39 :: (qs t ++ 39 :: 32 :: rest) := by simp
      rw [e]
      unfold tokL
      simp only [h39, if_true, hq]
      have e2 : (39 :: (qs t ++ 39 :: 32 :: rest)).take (1 + ((qs t).length + 1)) = 39 :: (qs t ++ [39]) := by
        rw [Nat.add_comm 1, List.take_succ_cons]
        congr 1
        rw [show qs t ++ 39 :: 32 :: rest = (qs t ++ [39]) ++ 32 :: rest by simp, show (qs t).length + 1 = (qs t ++ [39]).length by simp, List.take_left]
      rw [e2, hl, ← hlen, Nat.add_comm 1]
    · rename_i h39
      split at h
      · rename_i h45
        simp only [Prod.mk.injEq] at h
        obtain ⟨rfl, rfl, hl⟩ := h
        rw [Nat.add_comm 1 (runL partB r), List.take_succ_cons] at hl ⊢
        have hr := run_stop partB 32 p32 r rest
        rw [List.cons_append]
        unfold tokL
        simp only [h45, show ((45 : Nat) = 39) = False by decide, if_false, if_true, hr]
        have hk := runL_le partB r
        rw [Nat.add_comm 1 (runL partB r), List.take_succ_cons, List.take_left' (by rw [List.length_take]; omega), hl]
      · rename_i h45
        have hr := run_stop partB 32 p32 (c :: r) rest
        have hk := runL_le partB (c :: r)
        split at h
        · rename_i hd
          simp only [Prod.mk.injEq] at h
          obtain ⟨rfl, rfl, hl⟩ := h
          have hp : partB c = true := by unfold partB; rw [hd]; simp
          have hN : runL partB (c :: r) = runL partB r + 1 := by rw [runL, hp]; rfl
          have ht : ((c :: r).take (runL partB (c :: r)) ++ 32 :: rest).take (runL partB (c :: r)) = (c :: r).take (runL partB (c :: r)) := List.take_left' (by rw [List.length_take]; omega)
          generalize hX : (c :: r).take (runL partB (c :: r)) ++ 32 :: rest = X at *
          have hX2 : ∃ z, X = c :: z := by rw [← hX, hN, List.take_succ_cons]; exact ⟨_, rfl⟩
          obtain ⟨z, rfl⟩ := hX2
          unfold tokL
          simp only [h39, h45, hd, if_false, if_true, hr, ht, hl]
        · rename_i hd
          split at h
          · rename_i hp
            have hN : runL partB (c :: r) = runL partB r + 1 := by rw [runL, hp]; rfl
            have ht : ((c :: r).take (runL partB (c :: r)) ++ 32 :: rest).take (runL partB (c :: r)) = (c :: r).take (runL partB (c :: r)) := List.take_left' (by rw [List.length_take]; omega)
            have hM : M = runL partB (c :: r) := by
              split at h
              · simp only [Prod.mk.injEq] at h; exact h.2.1.symm
              · split at h <;> (simp only [Prod.mk.injEq] at h; exact h.2.1.symm)
            rw [hM]
            generalize hX : (c :: r).take (runL partB (c :: r)) ++ 32 :: rest = X at *
            have hX2 : ∃ z, X = c :: z := by rw [← hX, hN, List.take_succ_cons]; exact ⟨_, rfl⟩
            obtain ⟨z, rfl⟩ := hX2
            unfold tokL
            simp only [h39, h45, hd, hp, if_false, if_true, hr, ht]
            rw [hM] at h
            exact h
          · rename_i hp
            split at h
            · simp only [Prod.mk.injEq] at h; omega
            · rename_i hs
              simp only [Prod.mk.injEq] at h
              obtain ⟨rfl, rfl, _⟩ := h
              have hss := sign_stop (c :: r) rest hs
              obtain ⟨d, hd1⟩ : ∃ d, signN (c :: r) = d + 1 := ⟨signN (c :: r) - 1, by omega⟩
              generalize hX : (c :: r).take (signN (c :: r)) ++ 32 :: rest = X at *
              have hX2 : ∃ z, X = c :: z := by rw [← hX, hd1, List.take_succ_cons]; exact ⟨_, rfl⟩
              obtain ⟨z, rfl⟩ := hX2
              unfold tokL
              simp only [h39, h45, hd, hp, Bool.false_eq_true, if_false, hss, hs]
end Go.Proofs.YtppigamibgefaaaGreatDoor
namespace Go.Proofs.YtppigamibgefaaaGreatDoor
open Go.RowKit

theorem bytes_extV {s t : ByteArray} (h : s.data.toList = t.data.toList) : s = t := by
  apply ByteArray.ext
  exact Array.toList_inj.1 h
theorem tok_first (c : UInt8) (r : List UInt8) (kd M : Nat) (h : tokL (c :: r) = (kd, M, 0)) : blankB c = false := by
  cases hb : blankB c with
  | false => rfl
  | true =>
    exfalso
    have h4 : c = 9 ∨ c = 10 ∨ c = 13 ∨ c = 32 := by
      unfold blankB at hb
      simp at hb
      rcases hb with ((h | h) | h) | h
      · exact .inl (UInt8.toNat_inj.1 h)
      · exact .inr (.inl (UInt8.toNat_inj.1 h))
      · exact .inr (.inr (.inl (UInt8.toNat_inj.1 h)))
      · exact .inr (.inr (.inr (UInt8.toNat_inj.1 h)))
    have hp : ∀ x y : UInt8, x ≠ c → Lib.hasPrefix (c :: r) [x, y] = false := fun x y hx => by simp [Lib.hasPrefix, List.isPrefixOf, hx]
    have key : ∀ c : UInt8, (c = 9 ∨ c = 10 ∨ c = 13 ∨ c = 32) → (c.toNat = 39) = False ∧ (c.toNat = 45) = False ∧ digB c = false ∧ partB c = false ∧ ([61, 60, 62, 42, 44, 40, 41] : List UInt8).contains c = false ∧ (60 : UInt8) ≠ c ∧ (62 : UInt8) ≠ c := by
      rintro c (rfl | rfl | rfl | rfl) <;> decide
    obtain ⟨t1, t2, t3, t4, t5, t6, t7⟩ := key c h4
    have hs : signN (c :: r) = 0 := by
      unfold signN
      simp only [hp 60 62 t6, hp 60 61 t6, hp 62 61 t7, t5, Bool.or_self, Bool.false_eq_true, if_false]
    unfold tokL at h
    simp only [t1, t2, t3, t4, hs, Bool.false_eq_true, if_false, if_true, Prod.mk.injEq] at h
    omega
theorem run_blanks : ∀ (bl : List UInt8) (c : UInt8) (rest : List UInt8), (∀ b ∈ bl, blankB b = true) → blankB c = false → runL blankB (bl ++ c :: rest) = bl.length
  | [], c, rest, _, hc => by simp [runL, hc]
  | b :: bl, c, rest, h, hc => by
    rw [List.cons_append, runL, h b (by simp)]
    simp [run_blanks bl c rest (fun x hx => h x (by simp [hx])) hc]
theorem run_blanks_all : ∀ (bl : List UInt8), (∀ b ∈ bl, blankB b = true) → runL blankB bl = bl.length
  | [], _ => rfl
  | b :: bl, h => by
    rw [runL, h b (by simp)]
    simp [run_blanks_all bl (fun x hx => h x (by simp [hx]))]
/-- A token, and the blanks behind it (one more stands ahead of these). -/
structure Gap (x : Tk × List UInt8) : Prop where
  tok : ∀ rest, tokL (x.1.text.data.toList ++ 32 :: rest) = (x.1.kind, x.1.text.size, 0)
  one : 1 ≤ x.1.text.size
  bl : ∀ b ∈ x.2, blankB b = true
def flatP (ps : List (Tk × List UInt8)) : List UInt8 := ps.flatMap fun x => x.1.text.data.toList ++ 32 :: x.2
def kt (t : Tk) : Nat × ByteArray := (t.kind, t.text)
theorem lex_gaps (T : ByteArray) : ∀ (ps : List (Tk × List UInt8)) (f p : Nat) (acc : List Tk) (bl : List UInt8), T.data.toList.drop p = bl ++ flatP ps → (∀ b ∈ bl, blankB b = true) → (∀ x ∈ ps, Gap x) →
    acc.length + ps.length ≤ 250 → T.size - p < f → p ≤ T.size → ∃ r, lexF T f p acc = .ok (acc ++ r) ∧ r.map kt = ps.map (fun x => kt x.1) ++ [(0, ⟨#[]⟩)]
  | _, 0, _, _, _, _, _, _, _, hf, _ => by omega
  | [], f + 1, p, acc, bl, hd, hb, _, _, _, hp => by
    have hz : T.data.toList.length = T.size := by rw [Array.length_toList]; rfl
    have hl := congrArg List.length hd
    rw [List.length_drop, hz] at hl
    simp [flatP] at hl
    have hn : nxt T p = T.size := by
      unfold nxt
      rw [hd, show flatP [] = [] from rfl, List.append_nil, run_blanks_all bl hb]
      omega
    exact ⟨_, (lexF_round T f p acc).1 hn, rfl⟩
  | (t, g) :: ps, f + 1, p, acc, bl, hd, hb, hg, hlen, hf, hp => by
    have hz : T.data.toList.length = T.size := by rw [Array.length_toList]; rfl
    have hx := hg (t, g) (by simp)
    have h1 := hx.one
    have hfl : flatP ((t, g) :: ps) = t.text.data.toList ++ 32 :: (g ++ flatP ps) := by simp [flatP]
    rw [hfl] at hd
    obtain ⟨c, r, hc⟩ : ∃ c r, t.text.data.toList = c :: r := by
      cases h : t.text.data.toList with
      | nil => have := size_list h; rw [List.length_nil] at this; simp only at h1; omega
      | cons c r => exact ⟨c, r, rfl⟩
    have htk := hx.tok (g ++ flatP ps)
    simp only at htk h1
    have hcb : blankB c = false := by rw [hc] at htk; exact tok_first c _ _ _ htk
    have hl := congrArg List.length hd
    have hts : t.text.data.toList.length = t.text.size := by rw [Array.length_toList]; rfl
    rw [List.length_drop, hz, List.length_append, List.length_append, hts, List.length_cons] at hl
    have hn : nxt T p = p + bl.length := by
      unfold nxt
      rw [hd, hc, List.cons_append, run_blanks bl c _ hb hcb]
    have hdn : T.data.toList.drop (p + bl.length) = t.text.data.toList ++ 32 :: (g ++ flatP ps) := by
      rw [← List.drop_drop, hd, List.drop_left]
    have hr := (lexF_round T f p acc).2 (by rw [hn]; omega) t.kind t.text.size 0 (by rw [hn, hdn]; exact htk)
    rw [hr.2.2 rfl (by simp at hlen; omega), hn]
    have htx : T.extract (p + bl.length) (p + bl.length + t.text.size) = t.text := by
      apply bytes_extV
      have e : (T.extract (p + bl.length) (p + bl.length + t.text.size)).data.toList = (T.data.toList.drop (p + bl.length)).take t.text.size := by
        simp [Nat.add_sub_cancel_left]
      rw [e, hdn, ← hts, List.take_left]
    rw [htx]
    have hd2 : T.data.toList.drop (p + bl.length + t.text.size) = (32 :: g) ++ flatP ps := by
      rw [← List.drop_drop, hdn, ← hts, List.drop_left]; rfl
    obtain ⟨r2, hr2, hm2⟩ := lex_gaps T ps f (p + bl.length + t.text.size) (acc ++ [⟨t.kind, t.text, p + bl.length⟩]) (32 :: g) hd2 (fun b hb2 => by
      rcases List.mem_cons.1 hb2 with rfl | h
      · decide
      · exact hx.bl b h) (fun x h => hg x (by simp [h])) (by simp at hlen ⊢; omega) (by omega) (by omega)
    exact ⟨⟨t.kind, t.text, p + bl.length⟩ :: r2, by rw [hr2, List.append_assoc]; rfl, by rw [List.map_cons, hm2]; rfl⟩
/-- The tokens of a text: those ahead of the last one. -/
theorem Seq.gaps {s : ByteArray} {k : Nat} {l : List Tk} (h : Seq s k l) : ∃ ts, l = ts ++ [⟨0, ⟨#[]⟩, s.size⟩] ∧ ∀ t ∈ ts, ∀ g : List UInt8, (∀ b ∈ g, blankB b = true) → Gap (t, g) := by
  induction h with
  | last k hk hb => exact ⟨[], rfl, fun t h => by cases h⟩
  | more k q M kd r h1 h2 h3 hk hb ht hr ih =>
    obtain ⟨ts, hts, hg⟩ := ih
    refine ⟨_ :: ts, by rw [hts]; rfl, fun t hm g hgb => ?_⟩
    rcases List.mem_cons.1 hm with rfl | hm
    · have hz : (s.extract q (q + M)).size = M := by rw [ByteArray.size_extract]; omega
      have e : (s.extract q (q + M)).data.toList = (s.data.toList.drop q).take M := by
        simp [Nat.add_sub_cancel_left]
      exact ⟨fun rest => by simp only [e, hz]; exact tok_stop _ _ _ ht rest, by simp only [hz]; exact h3, hgb⟩
    · exact hg t hm g hgb
end Go.Proofs.YtppigamibgefaaaGreatDoor
namespace Go.Proofs.YtppigamibgefaaaGreatDoor
open Go.RowKit

theorem run_more (f : UInt8 → Bool) (b : UInt8) (hb : f b = false) (rest : List UInt8) : ∀ l : List UInt8, runL f (l ++ b :: rest) = runL f l
  | [] => by simp [runL, hb]
  | c :: r => by
    rw [List.cons_append, runL, runL, run_more f b hb rest r]
theorem qC_more (b : UInt8) (hb : b ≠ 39) (rest : List UInt8) : ∀ (n : Nat) (l : List UInt8) (k : Nat), l.length ≤ n → qC l = some k → qC (l ++ b :: rest) = some k
  | _, [], k, _, h => by simp [qC] at h
  | 0, c :: r, k, hn, _ => by simp at hn
  | n + 1, [c], k, hn, h => by
    rw [qC] at h
    split at h
    · rename_i hc
      show qC (c :: b :: rest) = some k
      rw [qC, if_pos hc, if_neg hb]; exact h
    · simp at h
  | n + 1, c :: d :: r, k, hn, h => by
    show qC (c :: d :: (r ++ b :: rest)) = some k
    rw [qC] at h ⊢
    split at h
    · rename_i hc
      rw [if_pos hc]
      split at h
      · rename_i hd
        rw [if_pos hd]
        obtain ⟨j, hj, rfl⟩ := Option.map_eq_some_iff.1 h
        rw [qC_more b hb rest n r j (by simp at hn; omega) hj]; rfl
      · rename_i hd
        rw [if_neg hd]; exact h
    · rename_i hc
      rw [if_neg hc]
      obtain ⟨j, hj, rfl⟩ := Option.map_eq_some_iff.1 h
      have := qC_more b hb rest n (d :: r) j (by simp at hn; simp; omega) hj
      rw [show d :: (r ++ b :: rest) = (d :: r) ++ b :: rest from rfl, this]; rfl
theorem qC_ne {c : UInt8} {l : List UInt8} {k : Nat} (hc : c ≠ 39) (h : qC l = some k) : qC (c :: l) = some (k + 1) := by
  match l, h with
  | [], h => simp [qC] at h
  | d :: r, h => rw [qC, if_neg hc, h]; rfl
theorem qC_qs : ∀ t : List UInt8, ∃ k, qC (qs t ++ [39]) = some k
  | [] => ⟨1, rfl⟩
  | c :: t => by
    obtain ⟨k, hk⟩ := qC_qs t
    have e : qs (c :: t) ++ [39] = q1 c ++ (qs t ++ [39]) := by simp [qs]
    rw [e]
    rcases q1_cases c with ⟨rfl, e1⟩ | ⟨h39, h92, hp, e1⟩ | ⟨h39, hp, e1⟩
    · rw [e1]
      refine ⟨k + 2, ?_⟩
      show qC (39 :: 39 :: (qs t ++ [39])) = _
      rw [qC, if_pos rfl, if_pos rfl, hk]; rfl
    · rw [e1]; exact ⟨_, qC_ne h39 hk⟩
    · rw [e1]
      have h1 : c.toNat / 16 < 16 := by have := c.toNat_lt; omega
      have h2 : c.toNat % 16 < 16 := by omega
      exact ⟨_, qC_ne (by decide) (qC_ne (hexd_ne h1) (qC_ne (hexd_ne h2) hk))⟩
/-- A quoted text ends where it ends, whatever stands behind. -/
theorem qN_more (b : UInt8) (hb : b ≠ 39) (rest r : List UInt8) (h : litC (39 :: r.take (qN r)) = 0) : qN (r ++ b :: rest) = qN r := by
  cases hc : qC r with
  | some k =>
    have := qC_more b hb rest _ r k (Nat.le_refl _) hc
    unfold qN
    rw [this, hc]; rfl
  | none =>
    have e : qN r = r.length := by unfold qN; rw [hc]; rfl
    rw [e, List.take_length] at h
    obtain ⟨t, ht⟩ := lit_quoted h
    obtain ⟨k, hk⟩ := qC_qs t
    rw [ht, hk] at hc; cases hc
theorem sign_more (b : UInt8) (hb : b ≠ 61 ∧ b ≠ 62) (rest l : List UInt8) (h : signN l ≠ 0) : signN (l ++ b :: rest) = signN l := by
  match l, h with
  | [], h => exact absurd rfl h
  | [a], h =>
    have hp : ∀ x y : UInt8, Lib.hasPrefix [a] [x, y] = false := fun x y => by simp [Lib.hasPrefix, List.isPrefixOf]
    have hp2 : ∀ x y : UInt8, y ≠ b → Lib.hasPrefix (a :: b :: rest) [x, y] = false := fun x y hy => by simp [Lib.hasPrefix, List.isPrefixOf, hy]
    show signN (a :: b :: rest) = signN [a]
    unfold signN
    simp only [hp, hp2 60 62 (Ne.symm hb.2), hp2 60 61 (Ne.symm hb.1), hp2 62 61 (Ne.symm hb.1), Bool.or_self, Bool.false_eq_true, if_false]
  | a :: d :: r, h =>
    have hpp : ∀ (x y : UInt8) (z : List UInt8), Lib.hasPrefix (a :: d :: z) [x, y] = Lib.hasPrefix [a, d] [x, y] := fun x y z => by simp [Lib.hasPrefix, List.isPrefixOf]
    show signN (a :: d :: (r ++ b :: rest)) = signN (a :: d :: r)
    unfold signN
    simp only [hpp]
/-- What stands behind a byte that ends every token doesn't matter. -/
theorem tok_more (b : UInt8) (hp : partB b = false) (h39 : b ≠ 39) (rest l : List UInt8) (hs : (b ≠ 61 ∧ b ≠ 62) ∨ signN l = 0) (kd M : Nat) (h : tokL l = (kd, M, 0)) : tokL (l ++ b :: rest) = (kd, M, 0) := by
  have hM := (tokL_len _ _ _ _ h).1
  match l, hs, h, hM with
  | [], _, h, _ => simp [tokL] at h
  | c :: r, hs, h, hM =>
    have hr := run_more partB b hp rest r
    have hcr := run_more partB b hp rest (c :: r)
    rw [List.cons_append] at hcr
    rw [List.cons_append]
    have tk : ∀ n, n ≤ (c :: r).length → (c :: (r ++ b :: rest)).take n = (c :: r).take n := fun n hn => by
      rw [← List.cons_append, List.take_append_of_le_length hn]
    simp only [tokL] at h ⊢
    split at h
    · rename_i h1
      rw [if_pos h1]
      have hc : c = 39 := UInt8.toNat_inj.1 h1
      simp only [Prod.mk.injEq] at h
      obtain ⟨rfl, rfl, hl⟩ := h
      have hl2 := hl
      rw [Nat.add_comm 1 (qN r), List.take_succ_cons, hc] at hl2
      rw [qN_more b h39 rest r hl2, tk _ hM, hl]
    · rename_i h1
      rw [if_neg h1]
      split at h
      · rename_i h2
        rw [if_pos h2, hr]
        simp only [Prod.mk.injEq] at h
        obtain ⟨rfl, rfl, hl⟩ := h
        rw [tk _ hM, hl]
      · rename_i h2
        rw [if_neg h2]
        have hk := runL_le partB (c :: r)
        split at h
        · rename_i h3
          rw [if_pos h3, hcr, tk _ hk]; exact h
        · rename_i h3
          rw [if_neg h3]
          split at h
          · rename_i h4
            rw [if_pos h4, hcr, tk _ hk]; exact h
          · rename_i h4
            rw [if_neg h4]
            split at h
            · simp only [Prod.mk.injEq] at h; omega
            · rename_i h5
              have := sign_more b (hs.resolve_right h5) rest (c :: r) h5
              rw [List.cons_append] at this
              rw [this, if_neg h5]; exact h
/-- A text's tokens: kinds and bytes. -/
inductive Toks : List UInt8 → List (Nat × List UInt8) → Prop
  | last (bl : List UInt8) (h : ∀ b ∈ bl, blankB b = true) : Toks bl []
  | more (l bl tx rest : List UInt8) (kd : Nat) (ts : List (Nat × List UInt8)) (hl : l = bl ++ (tx ++ rest)) (hb : ∀ b ∈ bl, blankB b = true) (h1 : tx ≠ []) (ht : tokL (tx ++ rest) = (kd, tx.length, 0)) (hr : Toks rest ts) : Toks l ((kd, tx) :: ts)
def tkOf (x : Nat × List UInt8) : Tk := ⟨x.1, ⟨x.2.toArray⟩, 0⟩
def tkEnd : Tk := ⟨0, ⟨#[]⟩, 0⟩
theorem toks_lexF (T : ByteArray) {l : List UInt8} {ts : List (Nat × List UInt8)} (h : Toks l ts) : ∀ (f p : Nat) (acc : List Tk), T.data.toList.drop p = l → acc.length + ts.length ≤ 250 → T.size - p < f → p ≤ T.size →
    ∃ r, lexF T f p acc = .ok (acc ++ r) ∧ r.map Tk.e = ts.map tkOf ++ [tkEnd] := by
  have hz : T.data.toList.length = T.size := by rw [Array.length_toList]; rfl
  induction h with
  | last bl h =>
    intro f p acc hd _ hf hp
    obtain ⟨f, rfl⟩ : ∃ g, f = g + 1 := ⟨f - 1, by omega⟩
    have hl := congrArg List.length hd
    rw [List.length_drop, hz] at hl
    have hn : nxt T p = T.size := by
      unfold nxt
      rw [hd, run_blanks_all bl h]; omega
    exact ⟨_, (lexF_round T f p acc).1 hn, rfl⟩
  | more l bl tx rest kd ts hl hb h1 ht hr ih =>
    intro f p acc hd hlen hf hp
    obtain ⟨f, rfl⟩ : ∃ g, f = g + 1 := ⟨f - 1, by omega⟩
    obtain ⟨c, r, hc⟩ : ∃ c r, tx = c :: r := by
      cases tx with
      | nil => exact absurd rfl h1
      | cons c r => exact ⟨c, r, rfl⟩
    have hcb : blankB c = false := by rw [hc] at ht; exact tok_first c _ _ _ ht
    rw [hl] at hd
    have hle := congrArg List.length hd
    rw [List.length_drop, hz, List.length_append, List.length_append] at hle
    have htl : 1 ≤ tx.length := by rw [hc]; simp
    have hn : nxt T p = p + bl.length := by
      unfold nxt
      rw [hd, hc, List.cons_append, run_blanks bl c _ hb hcb]
    have hdn : T.data.toList.drop (p + bl.length) = tx ++ rest := by
      rw [← List.drop_drop, hd, List.drop_left]
    have hrr := (lexF_round T f p acc).2 (by rw [hn]; omega) kd tx.length 0 (by rw [hn, hdn]; exact ht)
    rw [hrr.2.2 rfl (by simp at hlen; omega), hn]
    have htx : T.extract (p + bl.length) (p + bl.length + tx.length) = ⟨tx.toArray⟩ := by
      apply bytes_extV
      have e : (T.extract (p + bl.length) (p + bl.length + tx.length)).data.toList = (T.data.toList.drop (p + bl.length)).take tx.length := by
        simp [Nat.add_sub_cancel_left]
      rw [e, hdn, List.take_left]
    rw [htx]
    have hd2 : T.data.toList.drop (p + bl.length + tx.length) = rest := by
      rw [← List.drop_drop, hdn, List.drop_left]
    obtain ⟨r2, hr2, hm2⟩ := ih f (p + bl.length + tx.length) (acc ++ [⟨kd, ⟨tx.toArray⟩, p + bl.length⟩]) hd2 (by simp at hlen ⊢; omega) (by omega) (by omega)
    exact ⟨⟨kd, ⟨tx.toArray⟩, p + bl.length⟩ :: r2, by rw [hr2, List.append_assoc]; rfl, by rw [List.map_cons, hm2]; rfl⟩
theorem toks_lexL (T : ByteArray) {ts : List (Nat × List UInt8)} (h : Toks T.data.toList ts) (hs : T.size ≤ 1500) (hn : ts.length ≤ 250) : ∃ l, lexL T = .ok l ∧ l.map Tk.e = ts.map tkOf ++ [tkEnd] := by
  obtain ⟨r, hr, hm⟩ := toks_lexF T h (T.size + 1) 0 [] (by simp) (by simpa using hn) (by omega) (by omega)
  refine ⟨r, ?_, hm⟩
  unfold lexL
  rw [if_neg (by omega), hr]; rfl
/-- The query of a text whose tokens are known but for places. -/
theorem toks_parse (T : ByteArray) {ts : List (Nat × List UInt8)} (h : Toks T.data.toList ts) (hs : T.size ≤ 1500) (hn : ts.length ≤ 250) (q : Qry) (hq : (queryL ⟨ts.map tkOf ++ [tkEnd], none⟩).1.err = none) (hq2 : (queryL ⟨ts.map tkOf ++ [tkEnd], none⟩).2.e = q) :
    ∃ y : Qry, parseL T = .ok y ∧ y.e = q := by
  obtain ⟨l, hl, hm⟩ := toks_lexL T h hs hn
  have he : l.map Tk.e = (ts.map tkOf ++ [tkEnd]).map Tk.e := by
    rw [hm, List.map_append, List.map_map]
    rfl
  obtain ⟨h1, h2⟩ := query_same he
  unfold parseL
  rw [hl]
  simp only
  rw [h1.2 hq]
  exact ⟨_, rfl, by rw [h2, hq2]⟩
/-- A text with blanks ahead, and one behind, is the same query. -/
theorem Seq.toks {s : ByteArray} {k : Nat} {l : List Tk} (h : Seq s k l) : ∃ ts : List (Nat × List UInt8), Toks (s.data.toList.drop k ++ [32]) ts ∧ l.map Tk.e = ts.map tkOf ++ [tkEnd] := by
  have hz : s.data.toList.length = s.size := by rw [Array.length_toList]; rfl
  have blk : ∀ k q, k ≤ q → q ≤ s.size → Blk s k q → ∃ bl, s.data.toList.drop k = bl ++ s.data.toList.drop q ∧ ∀ b ∈ bl, blankB b = true := fun k q h1 h2 hb => by
    refine ⟨(s.data.toList.drop k).take (q - k), ?_, fun b hbm => ?_⟩
    · have := List.take_append_drop (q - k) (s.data.toList.drop k)
      rw [List.drop_drop, show k + (q - k) = q by omega] at this
      exact this.symm
    · obtain ⟨i, hi, rfl⟩ := List.mem_iff_getElem.1 hbm
      rw [List.length_take, List.length_drop] at hi
      have := hb (k + i) (by omega) (by omega)
      rw [List.getElem_take, List.getElem_drop]
      simpa [List.getD, List.getElem?_eq_getElem (show k + i < s.data.toList.length by omega)] using this
  induction h with
  | last k hk hb =>
    obtain ⟨bl, e, hbl⟩ := blk k s.size hk (Nat.le_refl _) hb
    rw [List.drop_of_length_le (l := s.data.toList) (i := s.size) (by omega), List.append_nil] at e
    rw [e]
    exact ⟨[], .last _ (fun b hb => by
      rcases List.mem_append.1 hb with hb | hb
      · exact hbl b hb
      · obtain rfl : b = 32 := by simpa using hb
        decide), rfl⟩
  | more k q M kd r h1 h2 h3 hk hb ht hr ih =>
    obtain ⟨ts, i1, i2⟩ := ih
    obtain ⟨bl, e, hbl⟩ := blk k q h1 (by omega) hb
    have htk := tok_more 32 (by decide) (by decide) [] _ (.inl (by decide)) _ _ ht
    have hx : (s.extract q (q + M)).data.toList = (s.data.toList.drop q).take M := by simp [Nat.add_sub_cancel_left]
    have hxl : ((s.data.toList.drop q).take M).length = M := by rw [List.length_take, List.length_drop]; omega
    have hsp : s.data.toList.drop q = (s.data.toList.drop q).take M ++ s.data.toList.drop (q + M) := by
      have := List.take_append_drop M (s.data.toList.drop q)
      rw [List.drop_drop] at this
      exact this.symm
    refine ⟨(kd, (s.data.toList.drop q).take M) :: ts, .more _ bl _ (s.data.toList.drop (q + M) ++ [32]) kd ts ?_ hbl ?_ ?_ i1, ?_⟩
    · rw [e, List.append_assoc]
      conv => lhs; rw [hsp]
      simp
    · intro hn; rw [hn] at hxl; simp at hxl; omega
    · rw [hxl]
      rw [← List.append_assoc, ← hsp]; exact htk
    · rw [List.map_cons, List.map_cons, List.cons_append, i2]
      congr 1
      rw [Tk.e, tkOf, ← hx]
theorem Toks.ahead {l : List UInt8} {ts : List (Nat × List UInt8)} (h : Toks l ts) (bl : List UInt8) (hb : ∀ b ∈ bl, blankB b = true) : Toks (bl ++ l) ts := by
  cases h with
  | last b2 h => exact .last _ (fun b hm => (List.mem_append.1 hm).elim (hb b) (h b))
  | more _ b2 tx rest kd ts hl h2 h1 ht hr => exact .more _ (bl ++ b2) tx rest kd ts (by rw [hl, List.append_assoc]) (fun b hm => (List.mem_append.1 hm).elim (hb b) (h2 b)) h1 ht hr
theorem parse_blanks (s T : ByteArray) (y : Qry) (h : parseL s = .ok y) (hs : s.size ≤ 1490) (hT : T.data.toList = [32, 10] ++ (s.data.toList ++ [32])) : ∃ y2 : Qry, parseL T = .ok y2 ∧ y2.e = y.e := by
  unfold parseL at h
  cases hl : lexL s with
  | error e => rw [hl] at h; simp at h
  | ok l =>
    rw [hl] at h
    simp only at h
    cases he : (queryL ⟨l, none⟩).1.err with
    | some e => rw [he] at h; simp at h
    | none =>
      rw [he] at h
      simp only [Except.ok.injEq] at h
      obtain ⟨ts, h1, h2⟩ := (lexL_seq s l hl).1.toks
      rw [List.drop_zero] at h1
      have h3 := h1.ahead [32, 10] (by decide)
      have hlen := lexL_len s l hl
      have h4 := congrArg List.length h2
      simp only [List.length_map, List.length_append, List.length_singleton] at h4
      have hq := query_same (l := l) (l' := ts.map tkOf ++ [tkEnd]) (by rw [h2, List.map_append, List.map_map]; rfl)
      rw [← hT] at h3
      have hTs : T.size = s.size + 3 := by
        rw [size_list hT]
        have : s.data.toList.length = s.size := by rw [Array.length_toList]; rfl
        simp only [List.length_append, List.length_cons, List.length_nil, this]; omega
      exact toks_parse T h3 (by omega) (by omega) _ (hq.1.1 he) (by rw [← hq.2, h])
end Go.Proofs.YtppigamibgefaaaGreatDoor
namespace Go.Proofs.YtppigamibgefaaaGreatDoor
open Go.RowKit

theorem ret_bytes {a b : ByteArray} (h : a.data.toList = b.data.toList) : Ending.returned (.string a) = .returned (.string b) := by rw [bytes_ext h]
theorem refSize_any (n : Int) (w : World) (hn : inI n = true) :
    Calls Tryz.prog 41 #[.int .i64 n] w fun e w' => e = .returned (.int .u64 n.natAbs) ∧ w = w' := by
  rw [inI_iff] at hn
  go_enter Tryz.func41, Tryz.ntmps41
  go_wp2_with fail
  · have h := ‹n < 0›
    go_ret
    refine ⟨ret_int ?_, rfl⟩
    simp only [IntKind.wrap, IntKind.signed, IntKind.bits]
    simp
    omega
  · have h := ‹0 ≤ n›
    go_ret
    exact ⟨ret_int (by omega), rfl⟩

theorem refHex_any (n : Nat) (w : World) (hn : n < 16) :
    Calls Tryz.prog 42 #[.int .u8 n] w fun e w' => e = .returned (.int .u8 (hexd n).toNat) ∧ w = w' := by
  have h : ((hexd n).toNat : Int) = (if (n : Int) < 10 then 48 + n else 87 + n : Int) := by
    have : ∀ i : Fin 16, ((hexd i.val).toNat : Int) = (if (i.val : Int) < 10 then 48 + i.val else 87 + i.val : Int) := by decide
    exact this ⟨n, hn⟩
  generalize hv : ((hexd n).toNat : Int) = v at *
  have H := Lib.hid h
  clear h hv
  go_enter Tryz.func42, Tryz.ntmps42
  go_wp2_with fail
  · go_ret
    exact ⟨ret_int (by rw [H.out, if_pos ‹_›]), rfl⟩
  · have h := ‹10 ≤ (n : Int)›
    go_ret
    exact ⟨ret_int (by rw [H.out, if_neg (by omega)]; omega), rfl⟩

set_option maxRecDepth 100000 in
theorem refDigits_small (u : Nat) (w : World) (hu : u < 10) :
    Calls Tryz.prog 24 #[.int .u64 u] w fun e w' => e = .returned (.string ⟨(Lib.decDigits u).toArray⟩) ∧ Below w.heap.size w w' := by
  have e : Lib.decDigits u = [UInt8.ofNat (48 + u)] := by rw [Lib.decDigits, dif_pos hu]
  have hc : (48 : Int) + u = (UInt8.ofNat (48 + u)).toNat := by rw [dig_byte hu]; omega
  rw [e]
  clear e
  generalize UInt8.ofNat (48 + u) = c at *
  have HC := Lib.hid hc
  clear hc
  go_enter Tryz.func24, Tryz.ntmps24
  go_wp2_with fail
  have HCV : (convert 103 9 (.slice (some ⟨w.heap.size, 0, none⟩) 1 1)).run Tryz.prog (w.alloc (.cells #[.int .u8 (48 + (u : Int))] 5)) = .ok (.string ⟨#[c]⟩) (w.alloc (.cells #[.int .u8 (48 + (u : Int))] 5)) :=
    run_convert_bytes_back (w.alloc (.cells #[.int .u8 (48 + (u : Int))] 5)) _ _ 5 ⟨w.heap.size, 0, none⟩ 1 [c] Tryz.underlying103 Tryz.underlying5 Tryz.underlying9 (by
      intro j hj
      have : j = 0 := by simpa using hj
      subst this
      simp only [List.getElem_cons_zero, Addr.add]
      rw [← HC.out]
      exact Lib.cell_of_heap (heap_new w _) 0)
  rw [HCV]
  simp only [Result.andThen]
  rw [Oper.upon_value]
  go_wp2_with fail
  go_ret
  exact ⟨rfl, (Below.refl _ _).alloc (Nat.le_refl _) _⟩
theorem digits_len : ∀ (k u : Nat), u < 10 ^ (k + 1) → (Lib.decDigits u).length ≤ k + 1
  | 0, u, h => by rw [Lib.decDigits, dif_pos (by omega)]; simp
  | k + 1, u, h => by
    rw [Lib.decDigits]
    split
    · simp
    · have := digits_len k (u / 10) (by rw [Nat.pow_succ] at h; omega)
      rw [List.length_append]
      simp only [List.length_cons, List.length_nil]
      omega
theorem refDigits_great (u : Nat) (w : World) (hu : ¬ u < 10) (h64 : u < 18446744073709551616) (IH : Hid (∀ v, v < u → ∀ w, Calls Tryz.prog 24 #[.int .u64 v] w fun e w' => e = .returned (.string ⟨(Lib.decDigits v).toArray⟩) ∧ Below w.heap.size w w')) :
    Calls Tryz.prog 24 #[.int .u64 u] w fun e w' => e = .returned (.string ⟨(Lib.decDigits u).toArray⟩) ∧ Below w.heap.size w w' := by
  have h1 : Hid (∀ w, Calls Tryz.prog 24 #[.int .u64 ((u : Int) / 10)] w fun e w' => e = .returned (.string ⟨(Lib.decDigits (u / 10)).toArray⟩) ∧ Below w.heap.size w w') := Lib.hid (IH.out (u / 10) (by omega))
  have h2 : Hid (∀ w, Calls Tryz.prog 24 #[.int .u64 ((u : Int) % 10)] w fun e w' => e = .returned (.string ⟨#[UInt8.ofNat (48 + u % 10)]⟩) ∧ Below w.heap.size w w') := Lib.hid fun w => by
    have := IH.out (u % 10) (by omega) w
    rw [Lib.decDigits, dif_pos (by omega)] at this
    exact this
  have e : Lib.decDigits u = Lib.decDigits (u / 10) ++ [UInt8.ofNat (48 + u % 10)] := by rw [Lib.decDigits, dif_neg hu]
  have hl : (Lib.decDigits (u / 10)).length ≤ 20 := digits_len 19 _ (by omega)
  rw [e]
  clear e IH
  generalize Lib.decDigits (u / 10) = l at *
  generalize UInt8.ofNat (48 + u % 10) = c at *
  go_enter Tryz.func24, Tryz.ntmps24
  go_wp2_with fail
  refine (h1.out _).mono ?_
  rintro e w1 ⟨rfl, hb1⟩
  go_wp2_with fail
  refine (h2.out _).mono ?_
  rintro e w2 ⟨rfl, hb2⟩
  go_wp2_with fail
  go_ret
  exact ⟨ret_bytes (by simp), hb1.trans (hb2.mono hb1.size)⟩

theorem refDigits_any : ∀ (u : Nat), u < 18446744073709551616 → ∀ (w : World),
    Calls Tryz.prog 24 #[.int .u64 u] w fun e w' => e = .returned (.string ⟨(Lib.decDigits u).toArray⟩) ∧ Below w.heap.size w w' := by
  intro u
  induction u using Nat.strongRecOn with
  | ind u ih =>
    intro h64 w
    by_cases hu : u < 10
    · exact refDigits_small u w hu
    · exact refDigits_great u w hu h64 (Lib.hid fun v hv => ih v hv (by omega))
end Go.Proofs.YtppigamibgefaaaGreatDoor
namespace Go.Proofs.YtppigamibgefaaaGreatDoor
open Go.RowKit

/-- A slice of bytes of the call's own, over a value's block. -/
structure RI (w : World) (n : Int) (s : ByteArray) (l : List UInt8) (v : Value) (m : Nat) (wr : World) : Prop where
  own : wr.ownsRow w.heap.size 5 1 v m (Lib.byteCells l)
  len : m = l.length
  below : Below w.heap.size w wr
  size : w.heap.size + 1 ≤ wr.heap.size
  blk : wr.heap[w.heap.size]? = some (.cells #[.int .i64 3, .int .i64 n, .string s] 27 (0, 0))

theorem RI.step {w : World} {n : Int} {s : ByteArray} {l x : List UInt8} {v v' : Value} {m k : Nat} {wr w2 : World} {o : Obj} (h : RI w n s l v m wr) (hk : k = x.length)
    (hown : w2.ownsRow w.heap.size 5 1 v' (m + k) (Lib.byteCells l ++ Lib.byteCells x)) (hg : (wr.alloc o).grownBy w2 v.ownBlock) : RI w n s (l ++ x) v' (m + k) w2 := by
  have hne := Lib.ownBlock_ne h.own h.blk (by decide)
  have hs := h.size
  refine ⟨by rw [Lib.byteCells_append]; exact hown, by rw [h.len, hk, List.length_append], (h.below.alloc (by omega) o).grown hg (by simp; omega) (fun k hk => (h.own.lt k hk).1), by have := hg.size; simp at this; omega, ?_⟩
  rw [hg.block w.heap.size (by simp; omega) (fun e => hne e.symm), Lib.alloc_old _ _ _ (by omega)]
  exact h.blk

theorem RI.begin (w : World) (n : Int) (s : ByteArray) : RI w n s [39] (.slice (some ⟨w.heap.size + 1, 0, none⟩) 1 1) 1 ((w.alloc (.cells #[.int .i64 3, .int .i64 n, .string s] 27)).alloc (.cells #[.int .u8 39] 5)) := by
  have h := World.ownsRow_lit (base := w.heap.size) (e := 5) (size := 1) (w.alloc (.cells #[.int .i64 3, .int .i64 n, .string s] 27)) #[.int .u8 39] 1 (by simp) (by decide) rfl
  rw [World.size_alloc] at h
  refine ⟨h, rfl, ((Below.refl _ _).alloc (Nat.le_refl _) _).alloc (by simp) _, by simp, ?_⟩
  rw [Lib.alloc_old _ _ _ (by simp)]
  exact heap_new _ _

theorem refHex_hi (c : Nat) (w : World) (hc : c < 256) :
    Calls Tryz.prog 42 #[.int .u8 ((c : Int) / 16)] w fun e w' => e = .returned (.int .u8 (hexd (c / 16)).toNat) ∧ w = w' := refHex_any (c / 16) w (by omega)
theorem refHex_lo (c : Nat) (w : World) :
    Calls Tryz.prog 42 #[.int .u8 ((c : Int) % 16)] w fun e w' => e = .returned (.int .u8 (hexd (c % 16)).toNat) ∧ w = w' := refHex_any (c % 16) w (by omega)

set_option maxRecDepth 100000 in
set_option maxHeartbeats 800000 in
theorem refText_text (n : Int) (s : ByteArray) (w : World) (hs : s.size ≤ 60) :
    Calls Tryz.prog 21 #[.agg #[.int .i64 3, .int .i64 n, .string s]] w fun e w' => e = .returned (.string ⟨(39 :: (qs s.data.toList ++ [39])).toArray⟩) ∧ Below w.heap.size w w' := by
  obtain ⟨i0, hi, hz0, hz1, hz2⟩ := info_parts byte_info
  go_enter Tryz.func21, Tryz.ntmps21
  go_wp2_with fail
  go_loopw [3, 4] (fun v i wr => ∃ (k m : Nat), k ≤ s.size ∧ i = .int .i64 k ∧ RI w n s (39 :: qs (s.data.toList.take k)) v m wr) (fun _ i _ => s.size - (intOf i).toNat)
  case atStart => exact ⟨0, 1, Nat.zero_le _, rfl, RI.begin w n s⟩
  case round =>
    obtain ⟨k, m, hk, rfl, hri⟩ := hrel
    obtain ⟨ao, cap, rfl⟩ := slice_of_own hri.own
    have hlen := qs_take_len s k (by omega)
    have hm200 : m ≤ 200 := by rw [hri.len]; exact hlen
    have c2 : wr.cell? ⟨w.heap.size, 2, none⟩ = some (.string s) := by rw [Lib.cell_of_heap hri.blk]; rfl
    have hbase := hri.size
    have Hri := Lib.hid hri
    clear hri hlen
    by_cases hlt : k < s.size
    · have hb256 := byte_lt s[k]
      rcases q1_cases s[k] with ⟨h39, hq⟩ | ⟨h39, h92, hp, hq⟩ | ⟨h39, hp, hq⟩
      · have e39 : ((s[k].toNat : Int) == 39) = true := by rw [h39]; rfl
        have HQ := Lib.hid hq
        clear h39 hq
        go_wp2_with (at_builtin; refine wpList_append_own _ rfl _ _ 103 rfl w.heap.size 5 i0 (.int .u8 0) 1 1 Tryz.underlying103 hi hz0 hz1 hz2 rfl (by decide) _ _ _ rfl (Hri.out.own.alloc _) ⟨wr.heap.size, 0, none⟩ 2 2 [.int .u8 39, .int .u8 39] rfl rfl ?c1 ?c2 ?c3 ?c4 ?c5 ?_)
        case c1 =>
          intro j u hj
          match j, hj with
          | 0, hj => simp at hj; subst hj; simp [Addr.add]
          | 1, hj => simp at hj; subst hj; simp [Addr.add]
        case c2 => intro u hu; simp at hu; rcases hu with rfl | rfl <;> rfl
        case c3 => unfold maxLen; omega
        case c4 => omega
        case c5 => simp; omega
        intro v' w2 hown' hgrow _
        have hri2 := Hri.out.step (x := [39, 39]) rfl hown' hgrow
        go_wp2_with fail
        go_roundw
        case rel => exact ⟨k + 1, _, by omega, by go_num, by rw [qs_snoc s k hlt, HQ.out]; exact hri2⟩
        case measure => simp [intOf]; omega
      · have e39 : ((s[k].toNat : Int) == 39) = false := ne_byte 39 (fun h => h39 (UInt8.toNat_inj.1 h))
        have e92 : ((s[k].toNat : Int) == 92) = false := ne_byte 92 (fun h => h92 (UInt8.toNat_inj.1 h))
        have hr : (32 : Int) ≤ s[k].toNat ∧ (s[k].toNat : Int) ≤ 126 := by simp [plainB] at hp; omega
        obtain ⟨h32, h126⟩ := hr
        have HQ := Lib.hid hq
        clear h39 h92 hp hq
        go_wp2_with (at_builtin; refine wpList_append_own _ rfl _ _ 103 rfl w.heap.size 5 i0 (.int .u8 0) 1 1 Tryz.underlying103 hi hz0 hz1 hz2 rfl (by decide) _ _ _ rfl (Hri.out.own.alloc _) ⟨wr.heap.size, 0, none⟩ 1 1 [.int .u8 s[k].toNat] rfl rfl ?c1 ?c2 ?c3 ?c4 ?c5 ?_)
        case c1 =>
          intro j u hj
          match j, hj with
          | 0, hj => simp at hj; subst hj; simp [Addr.add]
        case c2 => intro u hu; simp at hu; subst hu; rfl
        case c3 => unfold maxLen; omega
        case c4 => omega
        case c5 => simp; omega
        intro v' w2 hown' hgrow _
        have hri2 := Hri.out.step (x := [s[k]]) rfl hown' hgrow
        go_wp2_with fail
        go_roundw
        case rel => exact ⟨k + 1, _, by omega, by go_num, by rw [qs_snoc s k hlt, HQ.out]; exact hri2⟩
        case measure => simp [intOf]; omega
      · have e39 : ((s[k].toNat : Int) == 39) = false := ne_byte 39 (fun h => h39 (UInt8.toNat_inj.1 h))
        have HQ := Lib.hid hq
        clear h39 hq
        by_cases h32 : (s[k].toNat : Int) < 32
        · clear hp
          go_wp2_with fail
          refine (refHex_hi _ _ hb256).mono ?_
          rintro e w1 ⟨rfl, rfl⟩
          go_wp2_with fail
          refine (refHex_lo _ _).mono ?_
          rintro e w1 ⟨rfl, rfl⟩
          go_wp2_with (at_builtin; refine wpList_append_own _ rfl _ _ 103 rfl w.heap.size 5 i0 (.int .u8 0) 1 1 Tryz.underlying103 hi hz0 hz1 hz2 rfl (by decide) _ _ _ rfl (Hri.out.own.alloc _) ⟨wr.heap.size, 0, none⟩ 3 3 [.int .u8 92, .int .u8 (hexd (s[k].toNat / 16)).toNat, .int .u8 (hexd (s[k].toNat % 16)).toNat] rfl rfl ?c1 ?c2 ?c3 ?c4 ?c5 ?_)
          case c1 =>
            intro j u hj
            match j, hj with
            | 0, hj => simp at hj; subst hj; simp [Addr.add]
            | 1, hj => simp at hj; subst hj; simp [Addr.add]
            | 2, hj => simp at hj; subst hj; simp [Addr.add]
          case c2 => intro u hu; simp at hu; rcases hu with rfl | rfl | rfl <;> rfl
          case c3 => unfold maxLen; omega
          case c4 => omega
          case c5 => simp; omega
          intro v' w2 hown' hgrow _
          have hri2 := Hri.out.step (x := [92, hexd (s[k].toNat / 16), hexd (s[k].toNat % 16)]) rfl hown' hgrow
          go_wp2_with fail
          go_roundw
          case rel => exact ⟨k + 1, _, by omega, by go_num, by rw [qs_snoc s k hlt, HQ.out]; exact hri2⟩
          case measure => simp [intOf]; omega
        · by_cases h126 : (126 : Int) < s[k].toNat
          · clear hp
            go_wp2_with fail
            refine (refHex_hi _ _ hb256).mono ?_
            rintro e w1 ⟨rfl, rfl⟩
            go_wp2_with fail
            refine (refHex_lo _ _).mono ?_
            rintro e w1 ⟨rfl, rfl⟩
            go_wp2_with (at_builtin; refine wpList_append_own _ rfl _ _ 103 rfl w.heap.size 5 i0 (.int .u8 0) 1 1 Tryz.underlying103 hi hz0 hz1 hz2 rfl (by decide) _ _ _ rfl (Hri.out.own.alloc _) ⟨wr.heap.size, 0, none⟩ 3 3 [.int .u8 92, .int .u8 (hexd (s[k].toNat / 16)).toNat, .int .u8 (hexd (s[k].toNat % 16)).toNat] rfl rfl ?c1 ?c2 ?c3 ?c4 ?c5 ?_)
            case c1 =>
              intro j u hj
              match j, hj with
              | 0, hj => simp at hj; subst hj; simp [Addr.add]
              | 1, hj => simp at hj; subst hj; simp [Addr.add]
              | 2, hj => simp at hj; subst hj; simp [Addr.add]
            case c2 => intro u hu; simp at hu; rcases hu with rfl | rfl | rfl <;> rfl
            case c3 => unfold maxLen; omega
            case c4 => omega
            case c5 => simp; omega
            intro v' w2 hown' hgrow _
            have hri2 := Hri.out.step (x := [92, hexd (s[k].toNat / 16), hexd (s[k].toNat % 16)]) rfl hown' hgrow
            go_wp2_with fail
            go_roundw
            case rel => exact ⟨k + 1, _, by omega, by go_num, by rw [qs_snoc s k hlt, HQ.out]; exact hri2⟩
            case measure => simp [intOf]; omega
          · have e92 : ((s[k].toNat : Int) == 92) = true := by simp [plainB] at hp; rw [beq_iff_eq]; have := hp (by omega) (by omega); omega
            clear hp
            go_wp2_with fail
            refine (refHex_hi _ _ hb256).mono ?_
            rintro e w1 ⟨rfl, rfl⟩
            go_wp2_with fail
            refine (refHex_lo _ _).mono ?_
            rintro e w1 ⟨rfl, rfl⟩
            go_wp2_with (at_builtin; refine wpList_append_own _ rfl _ _ 103 rfl w.heap.size 5 i0 (.int .u8 0) 1 1 Tryz.underlying103 hi hz0 hz1 hz2 rfl (by decide) _ _ _ rfl (Hri.out.own.alloc _) ⟨wr.heap.size, 0, none⟩ 3 3 [.int .u8 92, .int .u8 (hexd (s[k].toNat / 16)).toNat, .int .u8 (hexd (s[k].toNat % 16)).toNat] rfl rfl ?c1 ?c2 ?c3 ?c4 ?c5 ?_)
            case c1 =>
              intro j u hj
              match j, hj with
              | 0, hj => simp at hj; subst hj; simp [Addr.add]
              | 1, hj => simp at hj; subst hj; simp [Addr.add]
              | 2, hj => simp at hj; subst hj; simp [Addr.add]
            case c2 => intro u hu; simp at hu; rcases hu with rfl | rfl | rfl <;> rfl
            case c3 => unfold maxLen; omega
            case c4 => omega
            case c5 => simp; omega
            intro v' w2 hown' hgrow _
            have hri2 := Hri.out.step (x := [92, hexd (s[k].toNat / 16), hexd (s[k].toNat % 16)]) rfl hown' hgrow
            go_wp2_with fail
            go_roundw
            case rel => exact ⟨k + 1, _, by omega, by go_num, by rw [qs_snoc s k hlt, HQ.out]; exact hri2⟩
            case measure => simp [intOf]; omega
    · obtain rfl : k = s.size := by omega
      go_wp2_with (at_builtin; refine wpList_append_own _ rfl _ _ 103 rfl w.heap.size 5 i0 (.int .u8 0) 1 1 Tryz.underlying103 hi hz0 hz1 hz2 rfl (by decide) _ _ _ rfl (Hri.out.own.alloc _) ⟨wr.heap.size, 0, none⟩ 1 1 [.int .u8 39] rfl rfl ?c1 ?c2 ?c3 ?c4 ?c5 ?_)
      case c1 =>
        intro j u hj
        match j, hj with
        | 0, hj => simp at hj; subst hj; simp [Addr.add]
      case c2 => intro u hu; simp at hu; subst hu; rfl
      case c3 => unfold maxLen; omega
      case c4 => omega
      case c5 => simp; omega
      intro v' w2 hown' hgrow _
      have hri2 := Hri.out.step (x := [39]) rfl hown' hgrow
      have Hcv := Lib.hid (conv_own hri2.own)
      have hb := hri2.below
      have hf : (39 :: qs (s.data.toList.take s.size)) ++ [39] = 39 :: (qs s.data.toList ++ [39]) := by rw [List.take_of_length_le (by rw [← size_list rfl]; exact Nat.le_refl _)]; rfl
      rw [hf] at Hcv
      clear hri2 hgrow hown' hf
      go_wp2_with fail
      rw [Hcv.out]
      simp only [Result.andThen]
      rw [Oper.upon_value]
      go_wp2_with fail
      go_ret
      exact ⟨rfl, hb⟩
end Go.Proofs.YtppigamibgefaaaGreatDoor
namespace Go.Proofs.YtppigamibgefaaaGreatDoor
open Go.RowKit

set_option maxHeartbeats 400000 in
theorem refText_word (k n : Int) (s : ByteArray) (w : World) (h : k = 0 ∨ k = 1 ∧ n = 0 ∨ k = 1 ∧ n = 1) :
    Calls Tryz.prog 21 #[.agg #[.int .i64 k, .int .i64 n, .string s]] w fun e w' => e = .returned (.string ⟨(textL k n s).toArray⟩) ∧ Below w.heap.size w w' := by
  rcases h with rfl | ⟨rfl, rfl⟩ | ⟨rfl, rfl⟩
  · go_enter Tryz.func21, Tryz.ntmps21
    go_wp2
    go_ret
    exact ⟨rfl, (Below.refl _ _).alloc (Nat.le_refl _) _⟩
  · go_enter Tryz.func21, Tryz.ntmps21
    go_wp2
    go_ret
    exact ⟨rfl, (Below.refl _ _).alloc (Nat.le_refl _) _⟩
  · go_enter Tryz.func21, Tryz.ntmps21
    go_wp2
    go_ret
    exact ⟨rfl, (Below.refl _ _).alloc (Nat.le_refl _) _⟩

set_option maxHeartbeats 400000 in
theorem refText_int (n : Int) (s : ByteArray) (w : World) (hn : inI n = true) :
    Calls Tryz.prog 21 #[.agg #[.int .i64 2, .int .i64 n, .string s]] w fun e w' => e = .returned (.string ⟨(Lib.itoa n).toArray⟩) ∧ Below w.heap.size w w' := by
  have HS := Lib.hid fun w => refSize_any n w hn
  have h64 : n.natAbs < 18446744073709551616 := by rw [inI_iff] at hn; omega
  have HD := Lib.hid fun w => refDigits_any n.natAbs h64 w
  have hl : (Lib.decDigits n.natAbs).length ≤ 20 := digits_len 19 _ (by omega)
  have hb := (Below.refl w.heap.size w).alloc (Nat.le_refl _) (.cells #[.int .i64 2, .int .i64 n, .string s] 27)
  clear hn h64
  by_cases hneg : n < 0
  · have e : Lib.itoa n = 45 :: Lib.decDigits n.natAbs := by unfold Lib.itoa; rw [if_pos hneg]
    rw [e]
    clear e
    generalize Lib.decDigits n.natAbs = l at *
    generalize n.natAbs = u at *
    go_enter Tryz.func21, Tryz.ntmps21
    go_wp2_with fail
    refine (HS.out _).mono ?_
    rintro e w1 ⟨rfl, rfl⟩
    go_wp2_with fail
    refine (HD.out _).mono ?_
    rintro e w1 ⟨rfl, hb1⟩
    go_wp2_with fail
    go_ret
    exact ⟨ret_bytes (by simp), hb.trans (hb1.mono (by simp))⟩
  · have e : Lib.itoa n = Lib.decDigits n.natAbs := by unfold Lib.itoa; rw [if_neg hneg, show n.toNat = n.natAbs by omega]
    rw [e]
    clear e
    generalize Lib.decDigits n.natAbs = l at *
    generalize n.natAbs = u at *
    go_enter Tryz.func21, Tryz.ntmps21
    go_wp2_with fail
    refine (HS.out _).mono ?_
    rintro e w1 ⟨rfl, rfl⟩
    go_wp2_with fail
    refine (HD.out _).mono ?_
    rintro e w1 ⟨rfl, hb1⟩
    go_wp2_with fail
    go_ret
    exact ⟨rfl, hb.trans (hb1.mono (by simp))⟩

theorem refText_any (k n : Int) (s : ByteArray) (w : World) (hg : goodB k n s = true) (hn : inI n = true) :
    Calls Tryz.prog 21 #[.agg #[.int .i64 k, .int .i64 n, .string s]] w fun e w' => e = .returned (.string ⟨(textL k n s).toArray⟩) ∧ Below w.heap.size w w' := by
  rcases good_kinds hg with ⟨rfl, rfl, hs⟩ | ⟨rfl, h01, hs⟩ | ⟨rfl, hs⟩ | ⟨rfl, rfl, hs⟩
  · exact refText_word 0 0 s w (.inl rfl)
  · rcases h01 with rfl | rfl
    · exact refText_word 1 0 s w (.inr (.inl ⟨rfl, rfl⟩))
    · exact refText_word 1 1 s w (.inr (.inr ⟨rfl, rfl⟩))
  · exact refText_int n s w hn
  · exact refText_text 0 s w hs
end Go.Proofs.YtppigamibgefaaaGreatDoor
namespace Go.Proofs.YtppigamibgefaaaGreatDoor
open Go.RowKit

theorem textL_lenX {k n : Int} {s : ByteArray} (hg : goodB k n s = true) (hn : inI n = true) : (textL k n s).length ≤ 1000 := by
  rcases good_kinds hg with ⟨rfl, rfl, hs⟩ | ⟨rfl, h01, hs⟩ | ⟨rfl, hs⟩ | ⟨rfl, rfl, hs⟩
  · simp [textL]
  · rcases h01 with rfl | rfl <;> simp [textL]
  · rw [inI_iff] at hn
    have e : textL 2 n s = Lib.itoa n := rfl
    rw [e]
    unfold Lib.itoa
    split
    · have := digits_len 19 n.natAbs (by omega)
      rw [List.length_cons]; omega
    · have := digits_len 19 n.toNat (by omega)
      omega
  · have e : textL 3 0 s = 39 :: (qs s.data.toList ++ [39]) := rfl
    have h1 := qs_len s.data.toList
    have h2 := size_list (s := s) rfl
    rw [e, List.length_cons, List.length_append, List.length_singleton]
    omega
theorem box3X (w : World) (v0 v1 v2 : Value) (T : TypeId) : (w.alloc (.cells #[v0, v1, v2] T)).cell? ⟨w.heap.size, 0, none⟩ = some v0 ∧ (w.alloc (.cells #[v0, v1, v2] T)).cell? ⟨w.heap.size, 1, none⟩ = some v1 ∧ (w.alloc (.cells #[v0, v1, v2] T)).cell? ⟨w.heap.size, 2, none⟩ = some v2 :=
  ⟨cell_of_row _ _ 0 _ _ _ (heap_alloc_new _ _), cell_of_row _ _ 1 _ _ _ (heap_alloc_new _ _), cell_of_row _ _ 2 _ _ _ (heap_alloc_new _ _)⟩
theorem box3_keepX {w w' : World} {g : Nat} {v0 v1 v2 : Value} (h : w.cell? ⟨g, 0, none⟩ = some v0 ∧ w.cell? ⟨g, 1, none⟩ = some v1 ∧ w.cell? ⟨g, 2, none⟩ = some v2) (hg : w.grownBy w' none) : w'.cell? ⟨g, 0, none⟩ = some v0 ∧ w'.cell? ⟨g, 1, none⟩ = some v1 ∧ w'.cell? ⟨g, 2, none⟩ = some v2 :=
  ⟨hg.cell h.1 (by simp), hg.cell h.2.1 (by simp), hg.cell h.2.2 (by simp)⟩
theorem values_text (k v : Int) (s : ByteArray) (hg : goodB k v s = true) (hn : inI v = true) (hk : k = 2 ∨ k = 3) : ∃ kd : Nat, ((k = 2 ∧ kd = 2) ∨ (k = 3 ∧ kd = 3)) ∧ lexL ⟨(textL k v s).toArray⟩ = .ok [⟨kd, ⟨(textL k v s).toArray⟩, 0⟩, ⟨0, ⟨#[]⟩, (⟨(textL k v s).toArray⟩ : ByteArray).size⟩] := by
  have e : (⟨(textL k v s).toArray⟩ : ByteArray).data.toList = textL k v s := by simp
  have hsz := size_list e
  have hlen : (textL k v s).length ≤ 1000 := textL_lenX hg hn
  rcases hk with rfl | rfl
  · obtain ⟨h1, h2⟩ := tok_int v s hg hn
    exact ⟨2, .inl ⟨rfl, rfl⟩, lex_single _ 2 (by omega) (by rw [e, hsz]; exact h1) (by rw [e]; exact h2)⟩
  · have hv : v = 0 := by
      rcases good_kinds hg with ⟨h, _⟩ | ⟨h, _⟩ | ⟨h, _⟩ | ⟨_, h, _⟩
      · omega
      · omega
      · omega
      · exact h
    subst hv
    obtain ⟨h1, h2⟩ := tok_text s hg
    exact ⟨3, .inr ⟨rfl, rfl⟩, lex_single _ 3 (by omega) (by rw [e, hsz]; exact h1) (by rw [e]; exact h2)⟩
end Go.Proofs.YtppigamibgefaaaGreatDoor
namespace Go.Proofs.YtppigamibgefaaaGreatDoor
open Go.RowKit

theorem sign_first {c : UInt8} {r : List UInt8} (h : signN (c :: r) ≠ 0) : c ∈ [61, 60, 62, 42, 44, 40, (41 : UInt8)] := by
  unfold signN at h
  by_cases h1 : (Lib.hasPrefix (c :: r) [60, 62] || Lib.hasPrefix (c :: r) [60, 61] || Lib.hasPrefix (c :: r) [62, 61]) = true
  · simp only [Lib.hasPrefix, List.isPrefixOf, Bool.or_eq_true, Bool.and_eq_true, beq_iff_eq] at h1
    rcases h1 with (h1 | h1) | h1 <;> (rw [← h1.1]; decide)
  · rw [if_neg h1] at h
    simp only at h
    by_cases h2 : [61, 60, 62, 42, 44, 40, (41 : UInt8)].contains c = true
    · simpa using h2
    · rw [if_neg h2] at h; exact absurd rfl h
/-- What a token that is no sign begins with. -/
theorem tok_head (l : List UInt8) (kd M : Nat) (h : tokL l = (kd, M, 0)) (hk : kd ≠ 4) : signN l = 0 ∧ ∃ c r, l = c :: r ∧ c ≠ 61 ∧ c ≠ 62 := by
  match l, h with
  | [], h => simp [tokL] at h
  | c :: r, h =>
    have hn : ∀ x : UInt8, x ∈ [61, 60, 62, 42, 44, 40, (41 : UInt8)] → c ≠ x := by
      rintro x hx rfl
      have t1 : (c.toNat = 39) = False := by
        simp only [List.mem_cons, List.not_mem_nil, or_false] at hx
        rcases hx with rfl | rfl | rfl | rfl | rfl | rfl | rfl <;> decide
      have t2 : (c.toNat = 45) = False := by
        simp only [List.mem_cons, List.not_mem_nil, or_false] at hx
        rcases hx with rfl | rfl | rfl | rfl | rfl | rfl | rfl <;> decide
      have t3 : digB c = false := by
        simp only [List.mem_cons, List.not_mem_nil, or_false] at hx
        rcases hx with rfl | rfl | rfl | rfl | rfl | rfl | rfl <;> decide
      have t4 : partB c = false := by
        simp only [List.mem_cons, List.not_mem_nil, or_false] at hx
        rcases hx with rfl | rfl | rfl | rfl | rfl | rfl | rfl <;> decide
      simp only [tokL, t1, t2, t3, t4, if_false, Bool.false_eq_true] at h
      split at h
      · simp at h
      · simp only [Prod.mk.injEq] at h; exact hk h.1.symm
    refine ⟨?_, c, r, rfl, hn 61 (by simp), hn 62 (by simp)⟩
    by_cases hs : signN (c :: r) = 0
    · exact hs
    · exact absurd rfl (hn c (sign_first hs))
theorem textL_len250 {k n : Int} {s : ByteArray} (hg : goodB k n s = true) (hn : inI n = true) : (textL k n s).length ≤ 250 := by
  rcases good_kinds hg with ⟨rfl, rfl, hs⟩ | ⟨rfl, h01, hs⟩ | ⟨rfl, hs⟩ | ⟨rfl, rfl, hs⟩
  · simp [textL]
  · rcases h01 with rfl | rfl <;> simp [textL]
  · rw [inI_iff] at hn
    have e : textL 2 n s = Lib.itoa n := rfl
    rw [e]
    unfold Lib.itoa
    split
    · have := digits_len 19 n.natAbs (by omega)
      rw [List.length_cons]; omega
    · have := digits_len 19 n.toNat (by omega)
      omega
  · have e : textL 3 0 s = 39 :: (qs s.data.toList ++ [39]) := rfl
    have h1 := qs_len s.data.toList
    have h2 := size_list (s := s) rfl
    rw [e, List.length_cons, List.length_append, List.length_singleton]
    omega
/-- A good value's text as a token, whatever stands behind. -/
structure ValT (t : List UInt8) (v : Vl) (kd : Nat) : Prop where
  tok : tokL t = (kd, t.length, 0)
  kind : kd ≠ 1 ∧ kd ≠ 4
  read : readC t = 0
  lit : litV ⟨t.toArray⟩ = v
  few : t.length ≤ 250
theorem ValT.behind {t : List UInt8} {v : Vl} {kd : Nat} (h : ValT t v kd) (b : UInt8) (hp : partB b = false) (h39 : b ≠ 39) (rest : List UInt8) : tokL (t ++ b :: rest) = (kd, t.length, 0) :=
  tok_more b hp h39 rest t (.inr (tok_head t kd _ h.tok h.kind.2).1) kd _ h.tok
theorem ValT.ne {t : List UInt8} {v : Vl} {kd : Nat} (h : ValT t v kd) : t ≠ [] := by
  obtain ⟨_, c, r, e, _⟩ := tok_head t kd _ h.tok h.kind.2
  rw [e]; simp
theorem ValT.isnt {t : List UInt8} {v : Vl} {kd : Nat} (h : ValT t v kd) (x : List UInt8) (hx : readC x ≠ 0) : (⟨t.toArray⟩ : ByteArray) ≠ ⟨x.toArray⟩ := by
  intro e
  have e2 : t = x := by simpa using congrArg (fun z : ByteArray => z.data.toList) e
  rw [e2] at h
  exact hx h.read
theorem valT_of {k n : Int} {s : ByteArray} (hg : goodB k n s = true) (hn : inI n = true) : ∃ kd, ValT (textL k n s) ⟨k, n, s⟩ kd := by
  have hr := readV_text hg hn
  have hC : readC (textL k n s) = 0 := by
    obtain ⟨a, b, c, hc⟩ := readV_code (textL k n s)
    rw [hc] at hr
    simp only [Value.tuple.injEq, Array.mk.injEq, List.cons.injEq, Value.int.injEq] at hr
    omega
  have hL : litV ⟨(textL k n s).toArray⟩ = ⟨k, n, s⟩ := by
    unfold litV
    rw [show (⟨(textL k n s).toArray⟩ : ByteArray).data.toList = textL k n s by simp, hr]; rfl
  have hF := textL_len250 hg hn
  rcases good_kinds hg with ⟨rfl, rfl, hs⟩ | ⟨rfl, h01, hs⟩ | ⟨rfl, hs⟩ | ⟨rfl, rfl, hs⟩
  · exact ⟨5, by rfl, by decide, hC, hL, hF⟩
  · rcases h01 with rfl | rfl
    · exact ⟨5, by rfl, by decide, hC, hL, hF⟩
    · exact ⟨5, by rfl, by decide, hC, hL, hF⟩
  · exact ⟨2, (tok_int n s hg hn).1, by decide, hC, hL, hF⟩
  · exact ⟨3, (tok_text s hg).1, by decide, hC, hL, hF⟩

/-- SELECT * FROM t WHERE, a blank behind. -/
def preB : List UInt8 := [83, 69, 76, 69, 67, 84, 32, 42, 32, 70, 82, 79, 77, 32, 116, 32, 87, 72, 69, 82, 69, 32]
def preT : List (Nat × List UInt8) := [(5, [83, 69, 76, 69, 67, 84]), (4, [42]), (5, [70, 82, 79, 77]), (1, [116]), (5, [87, 72, 69, 82, 69])]
theorem blank32 : ∀ b ∈ [(32 : UInt8)], blankB b = true := by decide
theorem blank0 : ∀ b ∈ ([] : List UInt8), blankB b = true := by decide
theorem toks_pre {l : List UInt8} {ts : List (Nat × List UInt8)} (h : Toks l ts) : Toks (preB ++ l) (preT ++ ts) := by
  refine .more _ [] [83, 69, 76, 69, 67, 84] ([32, 42, 32, 70, 82, 79, 77, 32, 116, 32, 87, 72, 69, 82, 69, 32] ++ l) 5 _ rfl blank0 (by simp) (by rfl) ?_
  refine .more _ [32] [42] ([32, 70, 82, 79, 77, 32, 116, 32, 87, 72, 69, 82, 69, 32] ++ l) 4 _ rfl blank32 (by simp) (by rfl) ?_
  refine .more _ [32] [70, 82, 79, 77] ([32, 116, 32, 87, 72, 69, 82, 69, 32] ++ l) 5 _ rfl blank32 (by simp) (by rfl) ?_
  refine .more _ [32] [116] ([32, 87, 72, 69, 82, 69, 32] ++ l) 1 _ rfl blank32 (by simp) (by rfl) ?_
  refine .more _ [32] [87, 72, 69, 82, 69] ([32] ++ l) 5 _ rfl blank32 (by simp) (by rfl) ?_
  exact h.ahead [32] blank32

/-- The query SELECT * FROM t WHERE p. -/
def whereY (p : Prd) : Qry := ⟨[], true, ⟨#[116]⟩, p, [], [], -1⟩
theorem query_where (P : List Tk) (p : Prd) (h : anyF 20 ⟨P ++ [tkEnd], none⟩ = (⟨[tkEnd], none⟩, p)) : queryL ⟨preT.map tkOf ++ (P ++ [tkEnd]), none⟩ = (⟨[tkEnd], none⟩, whereY p) := by
  have e1 : itemsQ ((⟨preT.map tkOf ++ (P ++ [tkEnd]), none⟩ : RS).need bSel) = (⟨tkOf (5, [70, 82, 79, 77]) :: tkOf (1, [116]) :: tkOf (5, [87, 72, 69, 82, 69]) :: (P ++ [tkEnd]), none⟩, true, []) := by rfl
  have e2 : ((⟨tkOf (5, [70, 82, 79, 77]) :: tkOf (1, [116]) :: tkOf (5, [87, 72, 69, 82, 69]) :: (P ++ [tkEnd]), none⟩ : RS).need bFrom).name = (⟨tkOf (5, [87, 72, 69, 82, 69]) :: (P ++ [tkEnd]), none⟩, ⟨#[116]⟩) := by rfl
  have e3 : whereQ ⟨tkOf (5, [87, 72, 69, 82, 69]) :: (P ++ [tkEnd]), none⟩ = (⟨[tkEnd], none⟩, p) := by
    unfold whereQ
    rw [if_pos (by rfl)]
    exact h
  have e4 : groupQ ⟨[tkEnd], none⟩ = (⟨[tkEnd], none⟩, []) := by rfl
  have e5 : orderQ ⟨[tkEnd], none⟩ = (⟨[tkEnd], none⟩, []) := by rfl
  have e6 : limitQ ⟨[tkEnd], none⟩ = (⟨[tkEnd], none⟩, -1) := by rfl
  unfold queryL
  simp only [e1, e2, e3, e4, e5, e6]
  rfl
theorem parts_one (kind : Nat) (word : ByteArray) (hw : word ≠ ⟨#[]⟩) (pf : RS → RS × Prd) (s : RS) (p : Prd) (h : pf s = (⟨[tkEnd], none⟩, p)) : partsL kind word pf s = (⟨[tkEnd], none⟩, p) := by
  unfold partsL
  rw [h]
  have e : (⟨[tkEnd], none⟩ : RS).comes word = false := by
    unfold RS.comes
    rw [decide_eq_false_iff_not]
    exact fun e => hw e.symm
  have e2 : partsF word pf (⟨[tkEnd], none⟩ : RS).rest.length ⟨[tkEnd], none⟩ [p] = (⟨[tkEnd], none⟩, [p]) := by
    show partsF word pf (0 + 1) _ _ = _
    rw [partsF, e]; rfl
  simp only [e2]
  rfl
theorem any_one (P : List Tk) (p : Prd) (h : oneF 20 ⟨P, none⟩ = (⟨[tkEnd], none⟩, p)) : anyF 20 ⟨P, none⟩ = (⟨[tkEnd], none⟩, p) :=
  parts_one 9 bOr (by decide) _ _ p (parts_one 8 bAnd (by decide) _ _ p h)
theorem any_and (P Q : List Tk) (p q : Prd) (a : Tk) (ha : a.text = bAnd) (h : oneF 20 ⟨P, none⟩ = (⟨a :: Q, none⟩, p)) (h2 : oneF 20 ⟨Q, none⟩ = (⟨[tkEnd], none⟩, q)) (hQ : Q ≠ []) :
    anyF 20 ⟨P, none⟩ = (⟨[tkEnd], none⟩, .mk 8 ⟨#[]⟩ 0 ⟨0, 0, ⟨#[]⟩⟩ ⟨#[]⟩ [] [p, q] (⟨P, none⟩ : RS).hd.pos) := by
  refine parts_one 9 bOr (by decide) _ _ _ ?_
  unfold allF partsL
  rw [h]
  obtain ⟨c, Q, rfl⟩ : ∃ c r, Q = c :: r := by
    cases Q with
    | nil => exact absurd rfl hQ
    | cons c r => exact ⟨c, r, rfl⟩
  have e : (⟨a :: c :: Q, none⟩ : RS).comes bAnd = true := by
    unfold RS.comes
    exact decide_eq_true ha
  have e3 : (⟨[tkEnd], none⟩ : RS).comes bAnd = false := by decide
  have e2 : partsF bAnd (oneF 20) (⟨a :: c :: Q, none⟩ : RS).rest.length ⟨a :: c :: Q, none⟩ [p] = (⟨[tkEnd], none⟩, [p, q]) := by
    show partsF bAnd (oneF 20) ((Q.length + 1) + 1) _ _ = _
    rw [partsF, e, if_pos rfl, show (⟨a :: c :: Q, none⟩ : RS).pass = ⟨c :: Q, none⟩ from rfl, h2, partsF, e3]
    rfl
  simp only [e2]
  rfl
theorem comes_noT {t : Tk} {r : List Tk} {e : Option (Nat × Nat)} {x : ByteArray} (h : t.text ≠ x) : ¬ (⟨t :: r, e⟩ : RS).comes x = true := by
  unfold RS.comes
  rw [decide_eq_true_iff]
  exact h
/-- A sign's bytes, by its number. -/
def sgB (r : Nat) : List UInt8 := if r = 1 then [61] else if r = 2 then [60, 62] else if r = 3 then [60] else if r = 4 then [60, 61] else if r = 5 then [62] else [62, 61]
def v0 : Vl := ⟨0, 0, ⟨#[]⟩⟩
theorem lit_go (kd : Nat) (t : List UInt8) (v : Vl) (h : ValT t v kd) (r : List Tk) : (⟨tkOf (kd, t) :: r, none⟩ : RS).literal = (⟨r, none⟩, v) := by
  unfold RS.literal
  have e : (⟨tkOf (kd, t) :: r, none⟩ : RS).hd.text.data.toList = t := by show (⟨t.toArray⟩ : ByteArray).data.toList = t; simp
  rw [e, if_pos h.read]
  show (_, litV ⟨t.toArray⟩) = _
  rw [h.lit]; rfl
/-- A literal compared with a name. -/
theorem one_lit (kd : Nat) (t : List UInt8) (v : Vl) (h : ValT t v kd) (r : Nat) (h1 : 1 ≤ r) (h6 : r ≤ 6) (e : List Tk) : oneF 20 ⟨tkOf (kd, t) :: tkOf (4, sgB r) :: tkOf (1, [120]) :: e, none⟩ = (⟨e, none⟩, .mk 3 ⟨#[120]⟩ (turnR r) v ⟨#[]⟩ [] [] 0) := by
  have c1 : (⟨tkOf (kd, t) :: tkOf (4, sgB r) :: tkOf (1, [120]) :: e, none⟩ : RS).comes bNot = false := by
    unfold RS.comes; exact decide_eq_false (h.isnt [78, 79, 84] (by decide))
  have c2 : (⟨tkOf (kd, t) :: tkOf (4, sgB r) :: tkOf (1, [120]) :: e, none⟩ : RS).comes bOpen = false := by
    unfold RS.comes; exact decide_eq_false (h.isnt [40] (by decide))
  have c3 : (⟨tkOf (kd, t) :: tkOf (4, sgB r) :: tkOf (1, [120]) :: e, none⟩ : RS).named = false := by
    unfold RS.named; exact decide_eq_false h.kind.1
  rw [oneF, c1, c2, c3]
  simp only [Bool.false_eq_true, if_false]
  unfold litP
  rw [lit_go kd t v h]
  have hr : (⟨tkOf (4, sgB r) :: tkOf (1, [120]) :: e, none⟩ : RS).rel = (⟨tkOf (1, [120]) :: e, none⟩, r) := by
    obtain rfl | rfl | rfl | rfl | rfl | rfl : r = 1 ∨ r = 2 ∨ r = 3 ∨ r = 4 ∨ r = 5 ∨ r = 6 := by omega
    all_goals rfl
  simp only [hr]
  rw [if_neg (by omega), if_pos (by rfl)]
  rfl
/-- A name compared with a literal. -/
theorem one_name (kd : Nat) (t : List UInt8) (v : Vl) (h : ValT t v kd) (r : Nat) (h1 : 1 ≤ r) (h6 : r ≤ 6) (e : List Tk) : oneF 20 ⟨tkOf (1, [120]) :: tkOf (4, sgB r) :: tkOf (kd, t) :: e, none⟩ = (⟨e, none⟩, .mk 3 ⟨#[120]⟩ r v ⟨#[]⟩ [] [] 0) := by
  rw [oneF, if_neg (by first | exact comes_noT (by decide) | simp), if_neg (by first | exact comes_noT (by decide) | simp), if_pos (by rfl)]
  unfold nameP
  have e1 : (⟨tkOf (1, [120]) :: tkOf (4, sgB r) :: tkOf (kd, t) :: e, none⟩ : RS).name = (⟨tkOf (4, sgB r) :: tkOf (kd, t) :: e, none⟩, ⟨#[120]⟩) := by rfl
  simp only [e1]
  have hr : (⟨tkOf (4, sgB r) :: tkOf (kd, t) :: e, none⟩ : RS).rel = (⟨tkOf (kd, t) :: e, none⟩, r) ∧ (⟨tkOf (4, sgB r) :: tkOf (kd, t) :: e, none⟩ : RS).comes bIs = false ∧ (⟨tkOf (4, sgB r) :: tkOf (kd, t) :: e, none⟩ : RS).comes bNot = false := by
    obtain rfl | rfl | rfl | rfl | rfl | rfl : r = 1 ∨ r = 2 ∨ r = 3 ∨ r = 4 ∨ r = 5 ∨ r = 6 := by omega
    all_goals exact ⟨rfl, rfl, rfl⟩
  obtain ⟨hr, n1, n2⟩ := hr
  have c3 : (⟨tkOf (kd, t) :: e, none⟩ : RS).named = false := by
    unfold RS.named; exact decide_eq_false h.kind.1
  simp only [hr, n1, n2, c3, Bool.false_eq_true, if_false, lit_go kd t v h]
  rw [if_neg (by omega)]
  rfl
def pCmp (r : Nat) (v : Vl) : Prd := .mk 3 ⟨#[120]⟩ r v ⟨#[]⟩ [] [] 0
def pIn (v w : Vl) : Prd := .mk 5 ⟨#[120]⟩ 0 ⟨0, 0, ⟨#[]⟩⟩ ⟨#[]⟩ [v, w] [] 0
def pBoth (p q : Prd) : Prd := .mk 8 ⟨#[]⟩ 0 ⟨0, 0, ⟨#[]⟩⟩ ⟨#[]⟩ [] [p, q] 0
/-- BETWEEN. -/
theorem one_between (ka kb : Nat) (a b : List UInt8) (v w : Vl) (ha : ValT a v ka) (hb : ValT b w kb) (e : List Tk) :
    oneF 20 ⟨tkOf (1, [120]) :: tkOf (5, [66, 69, 84, 87, 69, 69, 78]) :: tkOf (ka, a) :: tkOf (5, [65, 78, 68]) :: tkOf (kb, b) :: e, none⟩ = (⟨e, none⟩, pBoth (pCmp 6 v) (pCmp 4 w)) := by
  rw [oneF, if_neg (by first | exact comes_noT (by decide) | simp), if_neg (by first | exact comes_noT (by decide) | simp), if_pos (by rfl)]
  unfold nameP
  have e1 : (⟨tkOf (1, [120]) :: tkOf (5, [66, 69, 84, 87, 69, 69, 78]) :: tkOf (ka, a) :: tkOf (5, [65, 78, 68]) :: tkOf (kb, b) :: e, none⟩ : RS).name = (⟨tkOf (5, [66, 69, 84, 87, 69, 69, 78]) :: tkOf (ka, a) :: tkOf (5, [65, 78, 68]) :: tkOf (kb, b) :: e, none⟩, ⟨#[120]⟩) := by rfl
  have e2 : (⟨tkOf (5, [66, 69, 84, 87, 69, 69, 78]) :: tkOf (ka, a) :: tkOf (5, [65, 78, 68]) :: tkOf (kb, b) :: e, none⟩ : RS).rel = (⟨tkOf (5, [66, 69, 84, 87, 69, 69, 78]) :: tkOf (ka, a) :: tkOf (5, [65, 78, 68]) :: tkOf (kb, b) :: e, none⟩, 0) := by rfl
  simp only [e1, e2]
  rw [if_neg (by first | exact comes_noT (by decide) | simp), if_neg (by first | exact comes_noT (by decide) | simp), if_pos trivial]
  unfold amongL
  rw [if_neg (by first | exact comes_noT (by decide) | simp)]
  have e3 : (⟨tkOf (5, [66, 69, 84, 87, 69, 69, 78]) :: tkOf (ka, a) :: tkOf (5, [65, 78, 68]) :: tkOf (kb, b) :: e, none⟩ : RS).need bBetween = ⟨tkOf (ka, a) :: tkOf (5, [65, 78, 68]) :: tkOf (kb, b) :: e, none⟩ := by rfl
  have e4 : (⟨tkOf (5, [65, 78, 68]) :: tkOf (kb, b) :: e, none⟩ : RS).need bAnd = ⟨tkOf (kb, b) :: e, none⟩ := by rfl
  simp only [e3, lit_go ka a v ha, e4, lit_go kb b w hb]
  rfl
/-- IN of two, behind the name. -/
theorem among_two (ka kb : Nat) (a b : List UInt8) (v w : Vl) (ha : ValT a v ka) (hb : ValT b w kb) (e : List Tk) :
    amongL ⟨#[120]⟩ 0 ⟨tkOf (5, [73, 78]) :: tkOf (4, [40]) :: tkOf (ka, a) :: tkOf (4, [44]) :: tkOf (kb, b) :: tkOf (4, [41]) :: e, none⟩ = (⟨e, none⟩, pIn v w) := by
  unfold amongL
  rw [if_pos (by rfl)]
  have e1 : (⟨tkOf (5, [73, 78]) :: tkOf (4, [40]) :: tkOf (ka, a) :: tkOf (4, [44]) :: tkOf (kb, b) :: tkOf (4, [41]) :: e, none⟩ : RS).pass.need bOpen = ⟨tkOf (ka, a) :: tkOf (4, [44]) :: tkOf (kb, b) :: tkOf (4, [41]) :: e, none⟩ := by rfl
  have e2 : listF 12 RS.literal 13 ⟨tkOf (ka, a) :: tkOf (4, [44]) :: tkOf (kb, b) :: tkOf (4, [41]) :: e, none⟩ [] = (⟨tkOf (4, [41]) :: e, none⟩, [v, w]) := by
    rw [listF, if_neg (by first | exact comes_noT (by decide) | simp), lit_go ka a v ha, if_pos (by rfl), show (⟨tkOf (4, [44]) :: tkOf (kb, b) :: tkOf (4, [41]) :: e, none⟩ : RS).pass = ⟨tkOf (kb, b) :: tkOf (4, [41]) :: e, none⟩ from rfl]
    rw [listF, if_neg (by first | exact comes_noT (by decide) | simp), lit_go kb b w hb, if_neg (by first | exact comes_noT (by decide) | simp)]
    rfl
  simp only [e1, e2]
  rfl
theorem one_notin (ka kb : Nat) (a b : List UInt8) (v w : Vl) (ha : ValT a v ka) (hb : ValT b w kb) (e : List Tk) :
    oneF 20 ⟨tkOf (1, [120]) :: tkOf (5, [78, 79, 84]) :: tkOf (5, [73, 78]) :: tkOf (4, [40]) :: tkOf (ka, a) :: tkOf (4, [44]) :: tkOf (kb, b) :: tkOf (4, [41]) :: e, none⟩ = (⟨e, none⟩, notP (pIn v w) 0) := by
  rw [oneF, if_neg (by first | exact comes_noT (by decide) | simp), if_neg (by first | exact comes_noT (by decide) | simp), if_pos (by rfl)]
  unfold nameP
  have e1 : (⟨tkOf (1, [120]) :: tkOf (5, [78, 79, 84]) :: tkOf (5, [73, 78]) :: tkOf (4, [40]) :: tkOf (ka, a) :: tkOf (4, [44]) :: tkOf (kb, b) :: tkOf (4, [41]) :: e, none⟩ : RS).name = (⟨tkOf (5, [78, 79, 84]) :: tkOf (5, [73, 78]) :: tkOf (4, [40]) :: tkOf (ka, a) :: tkOf (4, [44]) :: tkOf (kb, b) :: tkOf (4, [41]) :: e, none⟩, ⟨#[120]⟩) := by rfl
  simp only [e1]
  rw [if_neg (by first | exact comes_noT (by decide) | simp), if_pos (by rfl)]
  have e2 : (⟨tkOf (5, [78, 79, 84]) :: tkOf (5, [73, 78]) :: tkOf (4, [40]) :: tkOf (ka, a) :: tkOf (4, [44]) :: tkOf (kb, b) :: tkOf (4, [41]) :: e, none⟩ : RS).pass = ⟨tkOf (5, [73, 78]) :: tkOf (4, [40]) :: tkOf (ka, a) :: tkOf (4, [44]) :: tkOf (kb, b) :: tkOf (4, [41]) :: e, none⟩ := rfl
  have e3 : (⟨tkOf (1, [120]) :: tkOf (5, [78, 79, 84]) :: tkOf (5, [73, 78]) :: tkOf (4, [40]) :: tkOf (ka, a) :: tkOf (4, [44]) :: tkOf (kb, b) :: tkOf (4, [41]) :: e, none⟩ : RS).hd.pos = 0 := rfl
  simp only [e2, e3, among_two ka kb a b v w ha hb e]
theorem one_notin2 (ka kb : Nat) (a b : List UInt8) (v w : Vl) (ha : ValT a v ka) (hb : ValT b w kb) (e : List Tk) :
    oneF 20 ⟨tkOf (5, [78, 79, 84]) :: tkOf (1, [120]) :: tkOf (5, [73, 78]) :: tkOf (4, [40]) :: tkOf (ka, a) :: tkOf (4, [44]) :: tkOf (kb, b) :: tkOf (4, [41]) :: e, none⟩ = (⟨e, none⟩, notP (pIn v w) 0) := by
  rw [oneF, if_pos (by rfl)]
  have e2 : (⟨tkOf (5, [78, 79, 84]) :: tkOf (1, [120]) :: tkOf (5, [73, 78]) :: tkOf (4, [40]) :: tkOf (ka, a) :: tkOf (4, [44]) :: tkOf (kb, b) :: tkOf (4, [41]) :: e, none⟩ : RS).pass = ⟨tkOf (1, [120]) :: tkOf (5, [73, 78]) :: tkOf (4, [40]) :: tkOf (ka, a) :: tkOf (4, [44]) :: tkOf (kb, b) :: tkOf (4, [41]) :: e, none⟩ := rfl
  have e3 : (⟨tkOf (5, [78, 79, 84]) :: tkOf (1, [120]) :: tkOf (5, [73, 78]) :: tkOf (4, [40]) :: tkOf (ka, a) :: tkOf (4, [44]) :: tkOf (kb, b) :: tkOf (4, [41]) :: e, none⟩ : RS).hd.pos = 0 := rfl
  have e4 : oneF 19 ⟨tkOf (1, [120]) :: tkOf (5, [73, 78]) :: tkOf (4, [40]) :: tkOf (ka, a) :: tkOf (4, [44]) :: tkOf (kb, b) :: tkOf (4, [41]) :: e, none⟩ = (⟨e, none⟩, pIn v w) := by
    rw [oneF, if_neg (by first | exact comes_noT (by decide) | simp), if_neg (by first | exact comes_noT (by decide) | simp), if_pos (by rfl)]
    unfold nameP
    have e1 : (⟨tkOf (1, [120]) :: tkOf (5, [73, 78]) :: tkOf (4, [40]) :: tkOf (ka, a) :: tkOf (4, [44]) :: tkOf (kb, b) :: tkOf (4, [41]) :: e, none⟩ : RS).name = (⟨tkOf (5, [73, 78]) :: tkOf (4, [40]) :: tkOf (ka, a) :: tkOf (4, [44]) :: tkOf (kb, b) :: tkOf (4, [41]) :: e, none⟩, ⟨#[120]⟩) := by rfl
    have e2 : (⟨tkOf (5, [73, 78]) :: tkOf (4, [40]) :: tkOf (ka, a) :: tkOf (4, [44]) :: tkOf (kb, b) :: tkOf (4, [41]) :: e, none⟩ : RS).rel = (⟨tkOf (5, [73, 78]) :: tkOf (4, [40]) :: tkOf (ka, a) :: tkOf (4, [44]) :: tkOf (kb, b) :: tkOf (4, [41]) :: e, none⟩, 0) := by rfl
    have e3 : (⟨tkOf (1, [120]) :: tkOf (5, [73, 78]) :: tkOf (4, [40]) :: tkOf (ka, a) :: tkOf (4, [44]) :: tkOf (kb, b) :: tkOf (4, [41]) :: e, none⟩ : RS).hd.pos = 0 := rfl
    simp only [e1, e2, e3]
    rw [if_neg (by first | exact comes_noT (by decide) | simp), if_neg (by first | exact comes_noT (by decide) | simp), if_pos trivial]
    exact among_two ka kb a b v w ha hb e
  rw [e2, e3, e4]
end Go.Proofs.YtppigamibgefaaaGreatDoor
namespace Go.Proofs.YtppigamibgefaaaGreatDoor
open Go.RowKit

theorem tok_sign (r : Nat) (h1 : 1 ≤ r) (h6 : r ≤ 6) (c : UInt8) (z : List UInt8) (hc : c ≠ 61 ∧ c ≠ 62) : tokL (sgB r ++ c :: z) = (4, (sgB r).length, 0) := by
  obtain rfl | rfl | rfl | rfl | rfl | rfl : r = 1 ∨ r = 2 ∨ r = 3 ∨ r = 4 ∨ r = 5 ∨ r = 6 := by omega
  · rfl
  · rfl
  · have e : signN (60 :: c :: z) = 1 := by simp [signN, Lib.hasPrefix, List.isPrefixOf, Ne.symm hc.1, Ne.symm hc.2]
    show tokL (60 :: c :: z) = _
    have t3 : digB 60 = false := by decide
    have t4 : partB 60 = false := by decide
    have t1 : ((60 : UInt8).toNat = 39) = False := by decide
    have t2 : ((60 : UInt8).toNat = 45) = False := by decide
    simp only [tokL, t1, t2, t3, t4, e, if_false, Bool.false_eq_true]
    rfl
  · rfl
  · have e : signN (62 :: c :: z) = 1 := by simp [signN, Lib.hasPrefix, List.isPrefixOf, Ne.symm hc.1]
    show tokL (62 :: c :: z) = _
    have t3 : digB 62 = false := by decide
    have t4 : partB 62 = false := by decide
    have t1 : ((62 : UInt8).toNat = 39) = False := by decide
    have t2 : ((62 : UInt8).toNat = 45) = False := by decide
    simp only [tokL, t1, t2, t3, t4, e, if_false, Bool.false_eq_true]
    rfl
  · rfl
theorem sg_ne (r : Nat) : sgB r ≠ [] := by
  unfold sgB
  repeat' split
  all_goals simp
theorem sg_len (r : Nat) : (sgB r).length ≤ 2 := by
  unfold sgB
  repeat' split
  all_goals simp
theorem ValT.sign {t : List UInt8} {v : Vl} {kd : Nat} (h : ValT t v kd) (r : Nat) (rest : List UInt8) : tokL (t ++ (sgB r ++ rest)) = (kd, t.length, 0) := by
  unfold sgB
  repeat' split
  all_goals exact h.behind _ (by decide) (by decide) _
/-- A text of a query with a condition. -/
theorem where_text (T : ByteArray) (l : List UInt8) (ts : List (Nat × List UInt8)) (p : Prd) (hT : T.data.toList = preB ++ l) (h : Toks l ts) (hl : l.length ≤ 1400) (hn : ts.length ≤ 100) (hq : anyF 20 ⟨ts.map tkOf ++ [tkEnd], none⟩ = (⟨[tkEnd], none⟩, p)) :
    ∃ y : Qry, parseL T = .ok y ∧ y.e = (whereY p).e := by
  have h2 := toks_pre h
  rw [← hT] at h2
  have hs : T.size = preB.length + l.length := by rw [size_list hT, List.length_append]
  have hp : preB.length = 22 := rfl
  have hw := query_where (ts.map tkOf) p hq
  have hm : (preT ++ ts).map tkOf ++ [tkEnd] = preT.map tkOf ++ (ts.map tkOf ++ [tkEnd]) := by simp
  refine toks_parse T h2 (by omega) (by rw [List.length_append]; have : preT.length = 5 := rfl; omega) _ ?_ ?_
  · rw [hm, hw]
  · rw [hm, hw]
theorem turn_lit (T : ByteArray) (kd : Nat) (t : List UInt8) (v : Vl) (h : ValT t v kd) (r : Nat) (h1 : 1 ≤ r) (h6 : r ≤ 6) (hT : T.data.toList = preB ++ (t ++ (sgB r ++ [32, 120]))) : ∃ y : Qry, parseL T = .ok y ∧ y.e = (whereY (pCmp (turnR r) v)).e := by
  have hl := h.few
  have hs := sg_len r
  refine where_text T _ [(kd, t), (4, sgB r), (1, [120])] (pCmp (turnR r) v) hT ?_ (by simp; omega) (by simp) (any_one _ _ (one_lit kd t v h r h1 h6 [tkEnd]))
  refine .more _ [] t (sgB r ++ [32, 120]) kd _ rfl blank0 h.ne (h.sign r _) ?_
  refine .more _ [] (sgB r) [32, 120] 4 _ rfl blank0 (sg_ne r) (tok_sign r h1 h6 32 [120] (by decide)) ?_
  exact .more _ [32] [120] [] 1 _ rfl blank32 (by simp) (by rfl) (.last [] blank0)
theorem turn_name (T : ByteArray) (kd : Nat) (t : List UInt8) (v : Vl) (h : ValT t v kd) (r : Nat) (h1 : 1 ≤ r) (h6 : r ≤ 6) (hT : T.data.toList = preB ++ ([120, 32] ++ (sgB r ++ t))) : ∃ y : Qry, parseL T = .ok y ∧ y.e = (whereY (pCmp r v)).e := by
  have hl := h.few
  have hs := sg_len r
  refine where_text T _ [(1, [120]), (4, sgB r), (kd, t)] (pCmp r v) hT ?_ (by simp; omega) (by simp) (any_one _ _ (one_name kd t v h r h1 h6 [tkEnd]))
  refine .more _ [] [120] ([32] ++ (sgB r ++ t)) 1 _ rfl blank0 (by simp) (by rfl) ?_
  obtain ⟨_, c, z, e, hc⟩ := tok_head t kd _ h.tok h.kind.2
  refine .more _ [32] (sgB r) t 4 _ rfl blank32 (sg_ne r) (by rw [e]; exact tok_sign r h1 h6 c z hc) ?_
  exact .more _ [] t [] kd _ (by simp) blank0 h.ne (by rw [List.append_nil]; exact h.tok) (.last [] blank0)
theorem turn_between (T : ByteArray) (ka kb : Nat) (a b : List UInt8) (v w : Vl) (ha : ValT a v ka) (hb : ValT b w kb) (hT : T.data.toList = preB ++ ([120, 32, 66, 69, 84, 87, 69, 69, 78, 32] ++ (a ++ ([32, 65, 78, 68, 32] ++ b)))) :
    ∃ y : Qry, parseL T = .ok y ∧ y.e = (whereY (pBoth (pCmp 6 v) (pCmp 4 w))).e := by
  have hl := ha.few
  have hl2 := hb.few
  refine where_text T _ [(1, [120]), (5, [66, 69, 84, 87, 69, 69, 78]), (ka, a), (5, [65, 78, 68]), (kb, b)] _ hT ?_ (by simp; omega) (by simp) (any_one _ _ (one_between ka kb a b v w ha hb [tkEnd]))
  refine .more _ [] [120] ([32, 66, 69, 84, 87, 69, 69, 78, 32] ++ (a ++ ([32, 65, 78, 68, 32] ++ b))) 1 _ rfl blank0 (by simp) (by rfl) ?_
  refine .more _ [32] [66, 69, 84, 87, 69, 69, 78] ([32] ++ (a ++ ([32, 65, 78, 68, 32] ++ b))) 5 _ rfl blank32 (by simp) (by rfl) ?_
  refine .more _ [32] a ([32, 65, 78, 68, 32] ++ b) ka _ rfl blank32 ha.ne (ha.behind 32 (by decide) (by decide) _) ?_
  refine .more _ [32] [65, 78, 68] ([32] ++ b) 5 _ rfl blank32 (by simp) (by rfl) ?_
  exact .more _ [32] b [] kb _ (by simp) blank32 hb.ne (by rw [List.append_nil]; exact hb.tok) (.last [] blank0)
theorem turn_both (T : ByteArray) (ka kb : Nat) (a b : List UInt8) (v w : Vl) (ha : ValT a v ka) (hb : ValT b w kb) (hT : T.data.toList = preB ++ ([120, 32, 62, 61, 32] ++ (a ++ ([32, 65, 78, 68, 32, 120, 32, 60, 61, 32] ++ b)))) :
    ∃ y : Qry, parseL T = .ok y ∧ y.e = (whereY (pBoth (pCmp 6 v) (pCmp 4 w))).e := by
  have hl := ha.few
  have hl2 := hb.few
  refine where_text T _ [(1, [120]), (4, sgB 6), (ka, a), (5, [65, 78, 68]), (1, [120]), (4, sgB 4), (kb, b)] _ hT ?_ (by simp; omega) (by simp)
    (any_and _ [tkOf (1, [120]), tkOf (4, sgB 4), tkOf (kb, b), tkEnd] (pCmp 6 v) (pCmp 4 w) (tkOf (5, [65, 78, 68])) rfl (one_name ka a v ha 6 (by decide) (by decide) _) (one_name kb b w hb 4 (by decide) (by decide) [tkEnd]) (by simp))
  refine .more _ [] [120] ([32, 62, 61, 32] ++ (a ++ ([32, 65, 78, 68, 32, 120, 32, 60, 61, 32] ++ b))) 1 _ rfl blank0 (by simp) (by rfl) ?_
  refine .more _ [32] (sgB 6) ([32] ++ (a ++ ([32, 65, 78, 68, 32, 120, 32, 60, 61, 32] ++ b))) 4 _ rfl blank32 (by simp [sgB]) (by rfl) ?_
  refine .more _ [32] a ([32, 65, 78, 68, 32, 120, 32, 60, 61, 32] ++ b) ka _ rfl blank32 ha.ne (ha.behind 32 (by decide) (by decide) _) ?_
  refine .more _ [32] [65, 78, 68] ([32, 120, 32, 60, 61, 32] ++ b) 5 _ rfl blank32 (by simp) (by rfl) ?_
  refine .more _ [32] [120] ([32, 60, 61, 32] ++ b) 1 _ rfl blank32 (by simp) (by rfl) ?_
  refine .more _ [32] (sgB 4) ([32] ++ b) 4 _ rfl blank32 (by simp [sgB]) (by rfl) ?_
  exact .more _ [32] b [] kb _ (by simp) blank32 hb.ne (by rw [List.append_nil]; exact hb.tok) (.last [] blank0)
theorem turn_notin (T : ByteArray) (ka kb : Nat) (a b : List UInt8) (v w : Vl) (ha : ValT a v ka) (hb : ValT b w kb) (hT : T.data.toList = preB ++ ([120, 32, 78, 79, 84, 32, 73, 78, 32, 40] ++ (a ++ ([44, 32] ++ (b ++ [41]))))) :
    ∃ y : Qry, parseL T = .ok y ∧ y.e = (whereY (notP (pIn v w) 0)).e := by
  have hl := ha.few
  have hl2 := hb.few
  refine where_text T _ [(1, [120]), (5, [78, 79, 84]), (5, [73, 78]), (4, [40]), (ka, a), (4, [44]), (kb, b), (4, [41])] _ hT ?_ (by simp; omega) (by simp) (any_one _ _ (one_notin ka kb a b v w ha hb [tkEnd]))
  refine .more _ [] [120] ([32, 78, 79, 84, 32, 73, 78, 32, 40] ++ (a ++ ([44, 32] ++ (b ++ [41])))) 1 _ rfl blank0 (by simp) (by rfl) ?_
  refine .more _ [32] [78, 79, 84] ([32, 73, 78, 32, 40] ++ (a ++ ([44, 32] ++ (b ++ [41])))) 5 _ rfl blank32 (by simp) (by rfl) ?_
  refine .more _ [32] [73, 78] ([32, 40] ++ (a ++ ([44, 32] ++ (b ++ [41])))) 5 _ rfl blank32 (by simp) (by rfl) ?_
  refine .more _ [32] [40] (a ++ ([44, 32] ++ (b ++ [41]))) 4 _ rfl blank32 (by simp) (by rfl) ?_
  refine .more _ [] a ([44, 32] ++ (b ++ [41])) ka _ rfl blank0 ha.ne (ha.behind 44 (by decide) (by decide) _) ?_
  refine .more _ [] [44] ([32] ++ (b ++ [41])) 4 _ rfl blank0 (by simp) (by rfl) ?_
  refine .more _ [32] b [41] kb _ rfl blank32 hb.ne (hb.behind 41 (by decide) (by decide) _) ?_
  exact .more _ [] [41] [] 4 _ rfl blank0 (by simp) (by rfl) (.last [] blank0)
theorem turn_notin2 (T : ByteArray) (ka kb : Nat) (a b : List UInt8) (v w : Vl) (ha : ValT a v ka) (hb : ValT b w kb) (hT : T.data.toList = preB ++ ([78, 79, 84, 32, 120, 32, 73, 78, 40] ++ (a ++ ([44] ++ (b ++ [41]))))) :
    ∃ y : Qry, parseL T = .ok y ∧ y.e = (whereY (notP (pIn v w) 0)).e := by
  have hl := ha.few
  have hl2 := hb.few
  refine where_text T _ [(5, [78, 79, 84]), (1, [120]), (5, [73, 78]), (4, [40]), (ka, a), (4, [44]), (kb, b), (4, [41])] _ hT ?_ (by simp; omega) (by simp) (any_one _ _ (one_notin2 ka kb a b v w ha hb [tkEnd]))
  refine .more _ [] [78, 79, 84] ([32, 120, 32, 73, 78, 40] ++ (a ++ ([44] ++ (b ++ [41])))) 5 _ rfl blank0 (by simp) (by rfl) ?_
  refine .more _ [32] [120] ([32, 73, 78, 40] ++ (a ++ ([44] ++ (b ++ [41])))) 1 _ rfl blank32 (by simp) (by rfl) ?_
  refine .more _ [32] [73, 78] ([40] ++ (a ++ ([44] ++ (b ++ [41])))) 5 _ rfl blank32 (by simp) (by rfl) ?_
  refine .more _ [] [40] (a ++ ([44] ++ (b ++ [41]))) 4 _ rfl blank0 (by simp) (by rfl) ?_
  refine .more _ [] a ([44] ++ (b ++ [41])) ka _ rfl blank0 ha.ne (ha.behind 44 (by decide) (by decide) _) ?_
  refine .more _ [] [44] (b ++ [41]) 4 _ rfl blank0 (by simp) ?_ ?_
  · obtain ⟨_, c, z, e, hc⟩ := tok_head b kb _ hb.tok hb.kind.2
    rw [e]; rfl
  refine .more _ [] b [41] kb _ rfl blank0 hb.ne (hb.behind 41 (by decide) (by decide) _) ?_
  exact .more _ [] [41] [] 4 _ rfl blank0 (by simp) (by rfl) (.last [] blank0)
end Go.Proofs.YtppigamibgefaaaGreatDoor
