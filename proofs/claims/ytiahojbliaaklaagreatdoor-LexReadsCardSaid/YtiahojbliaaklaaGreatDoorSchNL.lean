/- Names: contracts of schema's Name and the document's. -/
import Derived.Test.YtiahojbliaaklaaGreatDoorReadIntL
import Derived.WalkKit
import Derived.WalkSpells
import Derived.WalkLawsBesides
import Derived.Lib.Hide
import Derived.Lib.IndexBytes
namespace Go.Proofs.YtiahojbliaaklaaGreatDoor
open Go.RowKit

def letB (c : UInt8) : Bool := decide (97 ≤ c.toNat) && decide (c.toNat ≤ 122)
/-- May the byte stand at the place? -/
def okAt (i : Nat) (c : UInt8) : Bool := letB c || (decide (i ≠ 0) && (digB c || decide (c.toNat = 95)))
def okUp (s : ByteArray) (k : Nat) : Bool := (List.range k).all fun i => okAt i (s.data.toList.getD i 0)
/-- Is it a name? -/
def nameB (s : ByteArray) : Bool := decide (0 < s.size) && decide (s.size ≤ 20) && okUp s s.size
theorem okUp_step (s : ByteArray) (k : Nat) : okUp s (k + 1) = (okUp s k && okAt k (s.data.toList.getD k 0)) := by
  unfold okUp
  rw [List.range_succ, List.all_append]
  simp
theorem okUp_no {s : ByteArray} {k n : Nat} (hk : k < n) (h : okAt k (s.data.toList.getD k 0) = false) : okUp s n = false := by
  unfold okUp
  rw [List.all_eq_false]
  exact ⟨k, List.mem_range.2 hk, by rw [h]; decide⟩
theorem byte_at {s : ByteArray} {k : Nat} (h : k < s.size) : s.data.toList.getD k 0 = s[k] := by
  have h2 : k < s.data.toList.length := by rw [Array.length_toList]; exact h
  simp only [List.getD, List.getElem?_eq_getElem h2, Option.getD_some]
  rfl
theorem ret_bool6 {a b : Bool} (h : a = b) : Ending.returned (.bool a) = .returned (.bool b) := by rw [h]
theorem letter_any (c : Nat) (y : UInt8) (hy : y.toNat = c) (w : World) : Calls Tryz.prog 48 #[.int .u8 c] w fun e w' => e = .returned (.bool (letB y)) ∧ w = w' := by
  unfold letB
  rw [hy]
  by_cases h1 : 97 ≤ c
  · by_cases h2 : c ≤ 122
    · have h1' : (97 : Int) ≤ c := by omega
      have h2' : (c : Int) ≤ 122 := by omega
      rw [decide_eq_true h1, decide_eq_true h2]
      clear h1 h2 hy
      go_enter Tryz.func48, Tryz.ntmps48
      go_wp2_with fail
      go_ret
      exact ⟨ret_bool6 (by simp; try omega), rfl⟩
    · have h1' : (97 : Int) ≤ c := by omega
      have h2' : (122 : Int) < c := by omega
      rw [decide_eq_true h1, decide_eq_false h2]
      clear h1 h2 hy
      go_enter Tryz.func48, Tryz.ntmps48
      go_wp2_with fail
      go_ret
      exact ⟨ret_bool6 (by simp; try omega), rfl⟩
  · have h1' : (c : Int) < 97 := by omega
    rw [decide_eq_false h1]
    clear h1 hy
    go_enter Tryz.func48, Tryz.ntmps48
    go_wp2_with fail
    go_ret
    exact ⟨ret_bool6 (by simp), rfl⟩
theorem digit_any (c : Nat) (y : UInt8) (hy : y.toNat = c) (w : World) : Calls Tryz.prog 49 #[.int .u8 c] w fun e w' => e = .returned (.bool (digB y)) ∧ w = w' := by
  unfold digB
  rw [hy]
  by_cases h1 : 48 ≤ c
  · by_cases h2 : c ≤ 57
    · have h1' : (48 : Int) ≤ c := by omega
      have h2' : (c : Int) ≤ 57 := by omega
      rw [decide_eq_true h1, decide_eq_true h2]
      clear h1 h2 hy
      go_enter Tryz.func49, Tryz.ntmps49
      go_wp2_with fail
      go_ret
      exact ⟨ret_bool6 (by simp; try omega), rfl⟩
    · have h1' : (48 : Int) ≤ c := by omega
      have h2' : (57 : Int) < c := by omega
      rw [decide_eq_true h1, decide_eq_false h2]
      clear h1 h2 hy
      go_enter Tryz.func49, Tryz.ntmps49
      go_wp2_with fail
      go_ret
      exact ⟨ret_bool6 (by simp; try omega), rfl⟩
  · have h1' : (c : Int) < 48 := by omega
    rw [decide_eq_false h1]
    clear h1 hy
    go_enter Tryz.func49, Tryz.ntmps49
    go_wp2_with fail
    go_ret
    exact ⟨ret_bool6 (by simp), rfl⟩

/-- What an unfinished name's next byte may be. -/
theorem okAt_cases (k : Nat) (y : UInt8) : (letB y = true ∧ okAt k y = true) ∨ (letB y = false ∧ ((k = 0 ∧ okAt k y = false) ∨ (k ≠ 0 ∧ ((digB y = true ∧ okAt k y = true) ∨ (digB y = false ∧ ((y.toNat = 95 ∧ okAt k y = true) ∨ (y.toNat ≠ 95 ∧ okAt k y = false))))))) := by
  unfold okAt
  cases letB y <;> cases digB y <;> by_cases h0 : k = 0 <;> by_cases h5 : y.toNat = 95 <;> simp [h0, h5]
set_option maxHeartbeats 1600000 in
theorem name_any (s : ByteArray) (w : World) : Calls Tryz.prog 43 #[.string s] w fun e w' => e = .returned (.bool (nameB s)) ∧ w = w' := by
  by_cases h0 : s.size = 0
  · have e0 : s = ⟨#[]⟩ := by
      apply ByteArray.ext
      exact Array.eq_empty_of_size_eq_zero h0
    subst e0
    go_enter Tryz.func43, Tryz.ntmps43
    go_wp2_with fail
    go_ret
    exact ⟨ret_bool6 (by decide), rfl⟩
  · have hne : s.toList.isEmpty = false := by
      rw [Lib.toList_data, Bool.eq_false_iff]
      intro h
      have := List.isEmpty_iff.1 h
      apply h0
      have h2 := congrArg List.length this
      rw [Array.length_toList] at h2
      exact h2
    by_cases h20 : s.size ≤ 20
    · have h20' : (s.size : Int) ≤ 20 := by omega
      go_enter Tryz.func43, Tryz.ntmps43
      go_wp2_with fail
      go_loop [13] (fun i => ∃ (k : Nat), i = .int .i64 k ∧ k ≤ s.size ∧ Hid (okUp s k = true)) (fun i => s.size - (intOf i).toNat)
      case atStart => exact ⟨0, rfl, by omega, Lib.hid rfl⟩
      case round =>
        obtain ⟨k, rfl, hk, U⟩ := hrel
        by_cases hlt : k < s.size
        · have hb := byte_at hlt
          have i0 : (0 : Int) ≤ k := by omega
          have i1 : (k : Int) < s.size := by omega
          have HL := Lib.hid (letter_any _ s[k] rfl)
          have HD := Lib.hid (digit_any _ s[k] rfl)
          have hst := okUp_step s k
          rw [U.out, hb, Bool.true_and] at hst
          have HN : Hid (okAt k s[k] = false → nameB s = false) := Lib.hid fun h => by
            have := okUp_no (s := s) hlt (by rw [hb]; exact h)
            unfold nameB
            rw [this]; simp
          have HS := Lib.hid hst
          obtain ⟨y, hy⟩ : ∃ y, y = s[k] := ⟨_, rfl⟩
          have key := okAt_cases k s[k]
          have Hy := Lib.hid hy
          rw [← hy] at HL HD HN HS key
          have hix : (s[k]).toNat = y.toNat := by rw [hy]
          clear hst hb hy
          rcases key with ⟨e1, e2⟩ | ⟨e1, ⟨e2, e3⟩ | ⟨e2, ⟨e3, e4⟩ | ⟨e3, ⟨e4, e5⟩ | ⟨e4, e5⟩⟩⟩⟩
          · rw [e1] at HL
            rw [e2] at HS
            go_wp2_with fail
            refine (HL.out _).mono ?_
            rintro e w1 ⟨rfl, rfl⟩
            go_wp2_with fail
            go_round
            case rel => exact ⟨k + 1, by go_num, by omega, HS⟩
            case measure => simp [intOf]; omega
          · rw [e1] at HL
            have hn := HN.out e3
            subst e2
            clear e3
            go_wp2_with fail
            refine (HL.out _).mono ?_
            rintro e w1 ⟨rfl, rfl⟩
            go_wp2_with fail
            go_ret
            exact ⟨ret_bool6 hn.symm, rfl⟩
          · rw [e1] at HL
            rw [e3] at HD
            rw [e4] at HS
            have tk : ¬ (k : Int) = 0 := by omega
            clear e2
            go_wp2_with fail
            refine (HL.out _).mono ?_
            rintro e w1 ⟨rfl, rfl⟩
            go_wp2_with fail
            refine (HD.out _).mono ?_
            rintro e w1 ⟨rfl, rfl⟩
            go_wp2_with fail
            go_round
            case rel => exact ⟨k + 1, by go_num, by omega, HS⟩
            case measure => simp [intOf]; omega
          · rw [e1] at HL
            rw [e3] at HD
            rw [e5] at HS
            have tk : ¬ (k : Int) = 0 := by omega
            have ty : ((y.toNat : Int) != 95) = false := by rw [bne_eq_false_iff_eq]; omega
            clear e2 e4
            go_wp2_with fail
            refine (HL.out _).mono ?_
            rintro e w1 ⟨rfl, rfl⟩
            go_wp2_with fail
            refine (HD.out _).mono ?_
            rintro e w1 ⟨rfl, rfl⟩
            go_wp2_with fail
            go_round
            case rel => exact ⟨k + 1, by go_num, by omega, HS⟩
            case measure => simp [intOf]; omega
          · rw [e1] at HL
            rw [e3] at HD
            have tk : ¬ (k : Int) = 0 := by omega
            have ty : ((y.toNat : Int) != 95) = true := by rw [bne_iff_ne]; omega
            have hn := HN.out e5
            clear e2 e4 e5
            go_wp2_with fail
            refine (HL.out _).mono ?_
            rintro e w1 ⟨rfl, rfl⟩
            go_wp2_with fail
            refine (HD.out _).mono ?_
            rintro e w1 ⟨rfl, rfl⟩
            go_wp2_with fail
            go_ret
            exact ⟨ret_bool6 hn.symm, rfl⟩
        · obtain rfl : k = s.size := by omega
          go_wp2_with fail
          go_ret
          exact ⟨ret_bool6 (by unfold nameB; rw [U.out]; simp; try omega), rfl⟩
    · have h20' : (20 : Int) < s.size := by omega
      go_enter Tryz.func43, Tryz.ntmps43
      go_wp2_with fail
      go_ret
      exact ⟨ret_bool6 (by unfold nameB; simp; try omega), rfl⟩
set_option maxHeartbeats 3200000 in
theorem refName_any (s : ByteArray) (w : World) (hsz : s.size ≤ 9223372036854775807) : Calls Tryz.prog 21 #[.string s] w fun e w' => e = .returned (.bool (nameB s)) ∧ w = w' := by
  by_cases h0 : s.size = 0
  · have e0 : s = ⟨#[]⟩ := by
      apply ByteArray.ext
      exact Array.eq_empty_of_size_eq_zero h0
    subst e0
    go_enter Tryz.func21, Tryz.ntmps21
    go_wp2_with fail
    go_loop [3] (fun i => i = .int .i64 0) (fun _ => 0)
    case atStart => rfl
    case round =>
      subst hrel
      go_wp2_with fail
      go_ret
      exact ⟨ret_bool6 (by decide), rfl⟩
  · have hne : s.toList.isEmpty = false := by
      rw [Lib.toList_data, Bool.eq_false_iff]
      intro h
      have := List.isEmpty_iff.1 h
      apply h0
      have h2 := congrArg List.length this
      rw [Array.length_toList] at h2
      exact h2
    go_enter Tryz.func21, Tryz.ntmps21
    go_wp2_with fail
    go_loop [3] (fun i => ∃ (k : Nat), i = .int .i64 k ∧ k ≤ s.size ∧ Hid (okUp s k = true)) (fun i => s.size - (intOf i).toNat)
    case atStart => exact ⟨0, rfl, by omega, Lib.hid rfl⟩
    case round =>
      obtain ⟨k, rfl, hk, U⟩ := hrel
      by_cases hlt : k < s.size
      · have hb := byte_at hlt
        have i0 : (0 : Int) ≤ k := by omega
        have i1 : (k : Int) < s.size := by omega
        have hst := okUp_step s k
        rw [U.out, hb, Bool.true_and] at hst
        have HN : Hid (okAt k s[k] = false → nameB s = false) := Lib.hid fun h => by
          have := okUp_no (s := s) hlt (by rw [hb]; exact h)
          unfold nameB
          rw [this]; simp
        have HS := Lib.hid hst
        obtain ⟨y, hy⟩ : ∃ y, y = s[k] := ⟨_, rfl⟩
        rw [← hy] at HN HS
        have hix : (s[k]).toNat = y.toNat := by rw [hy]
        have key : (okAt k y = true ∧ (((97 : Int) ≤ y.toNat ∧ (y.toNat : Int) ≤ 122) ∨ (¬ (k : Int) = 0 ∧ (48 : Int) ≤ y.toNat ∧ (y.toNat : Int) ≤ 57) ∨ (¬ (k : Int) = 0 ∧ (y.toNat : Int) = 95)))
            ∨ (okAt k y = false ∧ ((y.toNat : Int) < 48 ∨ ((57 : Int) < y.toNat ∧ (y.toNat : Int) < 95) ∨ (y.toNat : Int) = 96 ∨ (122 : Int) < y.toNat ∨ (k = 0 ∧ (48 : Int) ≤ y.toNat ∧ (y.toNat : Int) ≤ 57) ∨ (k = 0 ∧ (y.toNat : Int) = 95))) := by
          by_cases h : okAt k y = true
          · refine .inl ⟨h, ?_⟩
            unfold okAt letB digB at h
            simp at h
            omega
          · refine .inr ⟨by simpa using h, ?_⟩
            unfold okAt letB digB at h
            simp at h
            omega
        clear hst hb hy
        rcases key with ⟨e1, h⟩ | ⟨e1, h⟩
        · rw [e1] at HS
          have HS' := Lib.hid HS.out
          clear HN HS
          rcases h with ⟨h1, h2⟩ | ⟨h0, h1, h2⟩ | ⟨h0, h1⟩
          · go_wp2_with fail
            go_round
            case rel => exact ⟨k + 1, by go_num, by omega, HS'⟩
            case measure => simp [intOf]; omega
          · have h3 : (y.toNat : Int) < 97 := by omega
            go_wp2_with fail
            go_round
            case rel => exact ⟨k + 1, by go_num, by omega, HS'⟩
            case measure => simp [intOf]; omega
          · have h3 : (y.toNat : Int) < 97 := by omega
            have h4 : (57 : Int) < (y.toNat : Int) := by omega
            have h5 : ((y.toNat : Int) == 95) = true := beq_iff_eq.2 (by omega)
            have h6 : (48 : Int) ≤ (y.toNat : Int) := by omega
            clear h1
            go_wp2_with fail
            go_round
            case rel => exact ⟨k + 1, by go_num, by omega, HS'⟩
            case measure => simp [intOf]; omega
        · have hn := HN.out e1
          clear HN HS e1
          rcases h with h1 | ⟨h1, h2⟩ | h1 | h1 | ⟨rfl, h1, h2⟩ | ⟨rfl, h1⟩
          · have h3 : (y.toNat : Int) < 97 := by omega
            have h5 : ((y.toNat : Int) == 95) = false := beq_eq_false_iff_ne.2 (by omega)
            go_wp2_with fail
            go_ret
            exact ⟨by first | rfl | exact ret_bool6 hn.symm, rfl⟩
          · have h3 : (y.toNat : Int) < 97 := by omega
            have h4 : (48 : Int) ≤ (y.toNat : Int) := by omega
            have h5 : ((y.toNat : Int) == 95) = false := beq_eq_false_iff_ne.2 (by omega)
            go_wp2_with fail
            go_ret
            exact ⟨by first | rfl | exact ret_bool6 hn.symm, rfl⟩
          · have h3 : (y.toNat : Int) < 97 := by omega
            have h4 : (48 : Int) ≤ (y.toNat : Int) := by omega
            have h6 : (57 : Int) < (y.toNat : Int) := by omega
            have h5 : ((y.toNat : Int) == 95) = false := beq_eq_false_iff_ne.2 (by omega)
            clear h1
            go_wp2_with fail
            go_ret
            exact ⟨by first | rfl | exact ret_bool6 hn.symm, rfl⟩
          · have h3 : (97 : Int) ≤ (y.toNat : Int) := by omega
            have h4 : (48 : Int) ≤ (y.toNat : Int) := by omega
            have h7 : decide ((y.toNat : Int) ≤ 122) = false := decide_eq_false (by omega)
            have h8 : decide ((y.toNat : Int) ≤ 57) = false := decide_eq_false (by omega)
            have h6 : (57 : Int) < (y.toNat : Int) := by omega
            have h5 : ((y.toNat : Int) == 95) = false := beq_eq_false_iff_ne.2 (by omega)
            go_wp2_with fail
            go_ret
            exact ⟨by first | rfl | exact ret_bool6 hn.symm, rfl⟩
          · have h3 : (y.toNat : Int) < 97 := by omega
            go_wp2_with fail
            go_ret
            exact ⟨by first | rfl | exact ret_bool6 hn.symm, rfl⟩
          · have h3 : (y.toNat : Int) < 97 := by omega
            have h4 : (48 : Int) ≤ (y.toNat : Int) := by omega
            have h6 : (57 : Int) < (y.toNat : Int) := by omega
            have h5 : ((y.toNat : Int) == 95) = true := beq_iff_eq.2 h1
            clear h1
            go_wp2_with fail
            go_ret
            exact ⟨by first | rfl | exact ret_bool6 hn.symm, rfl⟩
      · obtain rfl : k = s.size := by omega
        by_cases h20 : s.size ≤ 20
        · have h20' : (s.size : Int) ≤ 20 := by omega
          go_wp2_with fail
          go_ret
          have hn : nameB s = true := by unfold nameB; rw [U.out, decide_eq_true (show 0 < s.size by omega), decide_eq_true h20]; rfl
          exact ⟨ret_bool6 (by rw [hn]; try (first | rfl | (simp; done) | (simp; omega))), rfl⟩
        · have h20' : (20 : Int) < s.size := by omega
          go_wp2_with fail
          go_ret
          have hn : nameB s = false := by unfold nameB; rw [decide_eq_false h20]; simp
          exact ⟨ret_bool6 (by rw [hn]; try (first | rfl | (simp; done) | (simp; omega))), rfl⟩
end Go.Proofs.YtiahojbliaaklaaGreatDoor
