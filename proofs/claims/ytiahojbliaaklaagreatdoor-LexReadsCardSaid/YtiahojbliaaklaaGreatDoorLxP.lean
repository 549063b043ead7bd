/- Bytes of a query's text: contracts of lex's blank, digit, part and run. -/
import Derived.Test.YtiahojbliaaklaaGreatDoorLxM
import Derived.Deep.QuietTactic
import Derived.BigQuiet
import Derived.IntWalk
namespace Go.Proofs.YtiahojbliaaklaaGreatDoor
open Go.RowKit

theorem blank_any (c : Nat) (y : UInt8) (hy : y.toNat = c) (w : World) : Calls Tryz.prog 26 #[.int .u8 c] w fun e w' => e = .returned (.bool (blankB y)) ∧ w = w' := by
  unfold blankB
  rw [hy]
  clear hy
  by_cases h9 : c = 9
  · have t9 : ((c : Int) == 9) = true := beq_iff_eq.2 (by omega)
    rw [decide_eq_true h9]
    clear h9
    go_enter Tryz.func26, Tryz.ntmps26
    go_wp2_with fail
    go_ret
    exact ⟨ret_bool6 (by simp), rfl⟩
  have t9 : ((c : Int) == 9) = false := beq_eq_false_iff_ne.2 (by omega)
  rw [decide_eq_false h9]
  clear h9
  by_cases h10 : c = 10
  · have t10 : ((c : Int) == 10) = true := beq_iff_eq.2 (by omega)
    rw [decide_eq_true h10]
    clear h10
    go_enter Tryz.func26, Tryz.ntmps26
    go_wp2_with fail
    go_ret
    exact ⟨ret_bool6 (by simp), rfl⟩
  have t10 : ((c : Int) == 10) = false := beq_eq_false_iff_ne.2 (by omega)
  rw [decide_eq_false h10]
  clear h10
  by_cases h13 : c = 13
  · have t13 : ((c : Int) == 13) = true := beq_iff_eq.2 (by omega)
    rw [decide_eq_true h13]
    clear h13
    go_enter Tryz.func26, Tryz.ntmps26
    go_wp2_with fail
    go_ret
    exact ⟨ret_bool6 (by simp), rfl⟩
  have t13 : ((c : Int) == 13) = false := beq_eq_false_iff_ne.2 (by omega)
  rw [decide_eq_false h13]
  clear h13
  by_cases h32 : c = 32
  · have t32 : ((c : Int) == 32) = true := beq_iff_eq.2 (by omega)
    rw [decide_eq_true h32]
    clear h32
    go_enter Tryz.func26, Tryz.ntmps26
    go_wp2_with fail
    go_ret
    exact ⟨ret_bool6 (by simp), rfl⟩
  have t32 : ((c : Int) == 32) = false := beq_eq_false_iff_ne.2 (by omega)
  rw [decide_eq_false h32]
  clear h32
  go_enter Tryz.func26, Tryz.ntmps26
  go_wp2_with fail
  go_ret
  exact ⟨ret_bool6 (by simp), rfl⟩
theorem lexDigit_any (c : Nat) (y : UInt8) (hy : y.toNat = c) (w : World) : Calls Tryz.prog 37 #[.int .u8 c] w fun e w' => e = .returned (.bool (digB y)) ∧ w = w' := by
  unfold digB
  rw [hy]
  by_cases h1 : 48 ≤ c
  · by_cases h2 : c ≤ 57
    · have h1' : (48 : Int) ≤ c := by omega
      have h2' : (c : Int) ≤ 57 := by omega
      rw [decide_eq_true h1, decide_eq_true h2]
      clear h1 h2 hy
      go_enter Tryz.func37, Tryz.ntmps37
      go_wp2_with fail
      go_ret
      exact ⟨ret_bool6 (by simp; try omega), rfl⟩
    · have h1' : (48 : Int) ≤ c := by omega
      have h2' : (57 : Int) < c := by omega
      rw [decide_eq_true h1, decide_eq_false h2]
      clear h1 h2 hy
      go_enter Tryz.func37, Tryz.ntmps37
      go_wp2_with fail
      go_ret
      exact ⟨ret_bool6 (by simp; try omega), rfl⟩
  · have h1' : (c : Int) < 48 := by omega
    rw [decide_eq_false h1]
    clear h1 hy
    go_enter Tryz.func37, Tryz.ntmps37
    go_wp2_with fail
    go_ret
    exact ⟨ret_bool6 (by simp), rfl⟩
/-- What a byte may be, for part. -/
theorem part_cases (c : Nat) : (97 ≤ c ∧ c ≤ 122) ∨ (65 ≤ c ∧ c ≤ 90) ∨ ((48 ≤ c ∧ c ≤ 57)) ∨ c = 95 ∨ (c < 48) ∨ (57 < c ∧ c < 65) ∨ (90 < c ∧ c < 97 ∧ c ≠ 95) ∨ 122 < c := by omega
theorem part_any (c : Nat) (y : UInt8) (hy : y.toNat = c) (w : World) : Calls Tryz.prog 36 #[.int .u8 c] w fun e w' => e = .returned (.bool (partB y)) ∧ w = w' := by
  have HD := Lib.hid (lexDigit_any c y hy w)
  have HP : Hid (partB y = ((decide (97 ≤ c) && decide (c ≤ 122)) || (decide (65 ≤ c) && decide (c ≤ 90)) || (decide (48 ≤ c) && decide (c ≤ 57)) || decide (c = 95))) := Lib.hid (by
    unfold partB letB upB digB; rw [hy])
  have HB : Hid (digB y = (decide (48 ≤ c) && decide (c ≤ 57))) := Lib.hid (by unfold digB; rw [hy])
  generalize hp : partB y = p at *
  generalize hd : digB y = d at *
  clear hp hd hy
  rcases part_cases c with h | h | h | h | h | h | h | h
  · have h1 : (97 : Int) ≤ c := by omega
    have h2 : (c : Int) ≤ 122 := by omega
    have e : p = true := by rw [HP.out]; simp [h.1, h.2]
    subst e
    clear h HP HB
    go_enter Tryz.func36, Tryz.ntmps36
    go_wp2_with fail
    go_ret
    exact ⟨ret_bool6 (by first | rfl | (simp; done) | (simp; omega)), rfl⟩
  · have h1 : (c : Int) < 97 := by omega
    have h2 : (65 : Int) ≤ c := by omega
    have h3 : (c : Int) ≤ 90 := by omega
    have e : p = true := by rw [HP.out]; simp [h.1, h.2]
    subst e
    clear h HP HB
    go_enter Tryz.func36, Tryz.ntmps36
    go_wp2_with fail
    go_ret
    exact ⟨ret_bool6 (by first | rfl | (simp; done) | (simp; omega)), rfl⟩
  · have h1 : (c : Int) < 97 := by omega
    have h2 : (c : Int) < 65 := by omega
    have e : p = true := by rw [HP.out]; simp [h.1, h.2]
    have e2 : d = true := by rw [HB.out]; simp [h.1, h.2]
    subst e e2
    clear h HP HB
    go_enter Tryz.func36, Tryz.ntmps36
    go_wp2_with fail
    refine (HD.out).mono ?_
    rintro e w1 ⟨rfl, rfl⟩
    go_wp2_with fail
    go_ret
    exact ⟨ret_bool6 (by first | rfl | (simp; done) | (simp; omega)), rfl⟩
  · have h1 : (c : Int) < 97 := by omega
    have h2 : (65 : Int) ≤ c := by omega
    have h3 : (90 : Int) < c := by omega
    have h4 : ((c : Int) == 95) = true := beq_iff_eq.2 (by omega)
    have e : p = true := by rw [HP.out]; simp [h]
    have e2 : d = false := by rw [HB.out]; simp [h]
    subst e e2
    clear h HP HB
    go_enter Tryz.func36, Tryz.ntmps36
    go_wp2_with fail
    refine (HD.out).mono ?_
    rintro e w1 ⟨rfl, rfl⟩
    go_wp2_with fail
    go_ret
    exact ⟨ret_bool6 (by first | rfl | (simp; done) | (simp; omega)), rfl⟩
  · have h1 : (c : Int) < 97 := by omega
    have h2 : (c : Int) < 65 := by omega
    have h4 : ((c : Int) == 95) = false := beq_eq_false_iff_ne.2 (by omega)
    have e : p = false := by rw [HP.out]; simp; omega
    have e2 : d = false := by rw [HB.out]; simp; omega
    subst e e2
    clear h HP HB
    go_enter Tryz.func36, Tryz.ntmps36
    go_wp2_with fail
    refine (HD.out).mono ?_
    rintro e w1 ⟨rfl, rfl⟩
    go_wp2_with fail
    go_ret
    exact ⟨ret_bool6 (by first | rfl | (simp; done) | (simp; omega)), rfl⟩
  · have h1 : (c : Int) < 97 := by omega
    have h2 : (c : Int) < 65 := by omega
    have h4 : ((c : Int) == 95) = false := beq_eq_false_iff_ne.2 (by omega)
    have e : p = false := by rw [HP.out]; simp; omega
    have e2 : d = false := by rw [HB.out]; simp; omega
    subst e e2
    clear h HP HB
    go_enter Tryz.func36, Tryz.ntmps36
    go_wp2_with fail
    refine (HD.out).mono ?_
    rintro e w1 ⟨rfl, rfl⟩
    go_wp2_with fail
    go_ret
    exact ⟨ret_bool6 (by first | rfl | (simp; done) | (simp; omega)), rfl⟩
  · have h1 : (c : Int) < 97 := by omega
    have h2 : (65 : Int) ≤ c := by omega
    have h3 : (90 : Int) < c := by omega
    have h4 : ((c : Int) == 95) = false := beq_eq_false_iff_ne.2 (by omega)
    have e : p = false := by rw [HP.out]; simp; omega
    have e2 : d = false := by rw [HB.out]; simp; omega
    subst e e2
    clear h HP HB
    go_enter Tryz.func36, Tryz.ntmps36
    go_wp2_with fail
    refine (HD.out).mono ?_
    rintro e w1 ⟨rfl, rfl⟩
    go_wp2_with fail
    go_ret
    exact ⟨ret_bool6 (by first | rfl | (simp; done) | (simp; omega)), rfl⟩
  · have h1 : (97 : Int) ≤ c := by omega
    have h2 : (122 : Int) < c := by omega
    have h5 : (65 : Int) ≤ c := by omega
    have h3 : (90 : Int) < c := by omega
    have h4 : ((c : Int) == 95) = false := beq_eq_false_iff_ne.2 (by omega)
    have e : p = false := by rw [HP.out]; simp; omega
    have e2 : d = false := by rw [HB.out]; simp; omega
    subst e e2
    clear h HP HB
    go_enter Tryz.func36, Tryz.ntmps36
    go_wp2_with fail
    refine (HD.out).mono ?_
    rintro e w1 ⟨rfl, rfl⟩
    go_wp2_with fail
    go_ret
    exact ⟨ret_bool6 (by first | rfl | (simp; done) | (simp; omega)), rfl⟩

theorem runL_drop (f : UInt8 → Bool) : ∀ (l : List UInt8) (k : Nat), (∀ i, i < k → f (l.getD i 0) = true) → k ≤ l.length → runL f l = k + runL f (l.drop k)
  | l, 0, _, _ => by simp
  | [], k + 1, _, h => by simp at h
  | c :: r, k + 1, h, hk => by
    have h0 := h 0 (by omega)
    simp at h0
    have := runL_drop f r k (fun i hi => by have := h (i + 1) (by omega); simpa using this) (by simpa using hk)
    simp [runL, h0, this]
    omega
/-- run, of blank. -/
theorem run_blank (s : ByteArray) (w : World) (hs : s.size ≤ 1510) :
    Calls Tryz.prog 25 #[.string s, .func (.func 26) #[] #[]] w fun e w' => e = .returned (.int .i64 (runL blankB s.data.toList)) ∧ w = w' := by
  have hL : s.data.toList.length = s.size := by rw [Array.length_toList]; rfl
  have HF : Hid (∀ k, k ≤ s.size → (∀ i, i < k → blankB (s.data.toList.getD i 0) = true) → (k < s.size → blankB (s.data.toList.getD k 0) = false) → runL blankB s.data.toList = k) := Lib.hid fun k hk h1 h2 => by
    rw [runL_drop _ _ k h1 (by omega)]
    by_cases e : k < s.size
    · have := h2 e
      rw [List.drop_eq_getElem_cons (by omega)]
      have e2 : s.data.toList[k]'(by omega) = s.data.toList.getD k 0 := by
        rw [List.getD, List.getElem?_eq_getElem (by omega)]; rfl
      rw [e2, runL, this]
      simp
    · rw [List.drop_of_length_le (by omega)]; simp [runL]
  clear hL
  generalize runL blankB s.data.toList = res at *
  go_enter Tryz.func25, Tryz.ntmps25
  go_wp2_with fail
  go_loop [8] (fun i => ∃ (k : Nat), i = .int .i64 k ∧ k ≤ s.size ∧ Hid (∀ i, i < k → blankB (s.data.toList.getD i 0) = true)) (fun i => s.size - (intOf i).toNat)
  case atStart => exact ⟨0, rfl, by omega, Lib.hid (fun i hi => by omega)⟩
  case round =>
    obtain ⟨k, rfl, hk, U⟩ := hrel
    by_cases hlt : k < s.size
    · have hb := byte_at hlt
      have i1 : (k : Int) < s.size := by omega
      have HC := Lib.hid (blank_any _ s[k] rfl w)
      cases hf : blankB s[k]
      · have hr : res = k := HF.out k hk U.out (fun _ => by rw [hb]; exact hf)
        rw [hf] at HC
        have HR := Lib.hid hr
        clear hf hb hr
        go_wp2_with fail
        refine (HC.out).mono ?_
        rintro e w1 ⟨rfl, rfl⟩
        go_wp2_with fail
        go_ret
        exact ⟨(congrArg (fun n : Nat => Ending.returned (.int .i64 (n : Int))) HR.out).symm, rfl⟩
      · have U2 : Hid (∀ i, i < k + 1 → blankB (s.data.toList.getD i 0) = true) := Lib.hid fun i hi => by
          by_cases e : i = k
          · rw [e, hb]; exact hf
          · exact U.out i (by omega)
        rw [hf] at HC
        clear hf hb
        go_wp2_with fail
        refine (HC.out).mono ?_
        rintro e w1 ⟨rfl, rfl⟩
        go_wp2_with fail
        go_round
        case rel => exact ⟨k + 1, by go_num, by omega, U2⟩
        case measure => simp [intOf]; omega
    · obtain rfl : k = s.size := by omega
      have hr : res = s.size := HF.out _ hk U.out (fun h => by omega)
      have HR := Lib.hid hr
      clear hr
      go_wp2_with fail
      go_ret
      exact ⟨(congrArg (fun n : Nat => Ending.returned (.int .i64 (n : Int))) HR.out).symm, rfl⟩
/-- run, of part. -/
theorem run_part (s : ByteArray) (w : World) (hs : s.size ≤ 1510) :
    Calls Tryz.prog 25 #[.string s, .func (.func 36) #[] #[]] w fun e w' => e = .returned (.int .i64 (runL partB s.data.toList)) ∧ w = w' := by
  have hL : s.data.toList.length = s.size := by rw [Array.length_toList]; rfl
  have HF : Hid (∀ k, k ≤ s.size → (∀ i, i < k → partB (s.data.toList.getD i 0) = true) → (k < s.size → partB (s.data.toList.getD k 0) = false) → runL partB s.data.toList = k) := Lib.hid fun k hk h1 h2 => by
    rw [runL_drop _ _ k h1 (by omega)]
    by_cases e : k < s.size
    · have := h2 e
      rw [List.drop_eq_getElem_cons (by omega)]
      have e2 : s.data.toList[k]'(by omega) = s.data.toList.getD k 0 := by
        rw [List.getD, List.getElem?_eq_getElem (by omega)]; rfl
      rw [e2, runL, this]
      simp
    · rw [List.drop_of_length_le (by omega)]; simp [runL]
  clear hL
  generalize runL partB s.data.toList = res at *
  go_enter Tryz.func25, Tryz.ntmps25
  go_wp2_with fail
  go_loop [8] (fun i => ∃ (k : Nat), i = .int .i64 k ∧ k ≤ s.size ∧ Hid (∀ i, i < k → partB (s.data.toList.getD i 0) = true)) (fun i => s.size - (intOf i).toNat)
  case atStart => exact ⟨0, rfl, by omega, Lib.hid (fun i hi => by omega)⟩
  case round =>
    obtain ⟨k, rfl, hk, U⟩ := hrel
    by_cases hlt : k < s.size
    · have hb := byte_at hlt
      have i1 : (k : Int) < s.size := by omega
      have HC := Lib.hid (part_any _ s[k] rfl w)
      cases hf : partB s[k]
      · have hr : res = k := HF.out k hk U.out (fun _ => by rw [hb]; exact hf)
        rw [hf] at HC
        have HR := Lib.hid hr
        clear hf hb hr
        go_wp2_with fail
        refine (HC.out).mono ?_
        rintro e w1 ⟨rfl, rfl⟩
        go_wp2_with fail
        go_ret
        exact ⟨(congrArg (fun n : Nat => Ending.returned (.int .i64 (n : Int))) HR.out).symm, rfl⟩
      · have U2 : Hid (∀ i, i < k + 1 → partB (s.data.toList.getD i 0) = true) := Lib.hid fun i hi => by
          by_cases e : i = k
          · rw [e, hb]; exact hf
          · exact U.out i (by omega)
        rw [hf] at HC
        clear hf hb
        go_wp2_with fail
        refine (HC.out).mono ?_
        rintro e w1 ⟨rfl, rfl⟩
        go_wp2_with fail
        go_round
        case rel => exact ⟨k + 1, by go_num, by omega, U2⟩
        case measure => simp [intOf]; omega
    · obtain rfl : k = s.size := by omega
      have hr : res = s.size := HF.out _ hk U.out (fun h => by omega)
      have HR := Lib.hid hr
      clear hr
      go_wp2_with fail
      go_ret
      exact ⟨(congrArg (fun n : Nat => Ending.returned (.int .i64 (n : Int))) HR.out).symm, rfl⟩
end Go.Proofs.YtiahojbliaaklaaGreatDoor
