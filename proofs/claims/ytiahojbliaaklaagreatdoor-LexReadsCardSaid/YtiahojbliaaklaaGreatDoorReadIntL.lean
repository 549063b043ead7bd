/- Contracts of value.written and value.readInt. -/
import Derived.Test.YtiahojbliaaklaaGreatDoorReadTextL
namespace Go.Proofs.YtiahojbliaaklaaGreatDoor
open Go.RowKit

def digB (c : UInt8) : Bool := decide (48 ≤ c.toNat) && decide (c.toNat ≤ 57)
/-- Is a text what an int would be written as, of whatever size? -/
def wrB (l : List UInt8) : Bool := match Lib.trimPrefix l [45] with
  | [] => false
  | c :: r => if c = 48 then l == [48] else (c :: r).all digB

theorem all_dig_stop {t : ByteArray} {k : Nat} (h : k < t.size) (hf : digB t[k] = false) : t.data.toList.all digB = false := by
  rw [List.all_eq_false]
  refine ⟨t[k], ?_, by rw [hf]; simp⟩
  have : t.data.toList[k]'(by simpa using h) ∈ t.data.toList := List.getElem_mem _
  exact this
theorem all_dig_go {t : ByteArray} {k : Nat} (h : k < t.size) (ha : (t.data.toList.take k).all digB = true) (hf : digB t[k] = true) : (t.data.toList.take (k + 1)).all digB = true := by
  rw [take_snoc t k h, List.all_append, ha]
  simp [hf]
theorem dig_no1 {c : UInt8} (h : c.toNat < 48) : digB c = false := by simp [digB]; omega
theorem dig_no2 {c : UInt8} (h : 57 < c.toNat) : digB c = false := by simp [digB]; omega
theorem dig_yes {c : UInt8} (h : ¬ c.toNat < 48) (h' : ¬ 57 < c.toNat) : digB c = true := by simp [digB]; omega

set_option maxHeartbeats 800000 in
theorem written_any (s : ByteArray) (w : World) (hs : s.size ≤ 1510) :
    Calls Tryz.prog 52 #[.string s] w fun e w' => e = .returned (.bool (wrB s.data.toList)) ∧ Drawn w w' := by
  have HT : Hid (∀ w, ∃ t : ByteArray, t.data.toList = Lib.trimPrefix s.data.toList [45] ∧ t.size ≤ 1510 ∧ Calls Tryz.prog 58 #[.string s, .string ⟨#[45]⟩] w fun e w' => e = .returned (.string t) ∧ w = w') := Lib.hid fun w =>
    ⟨⟨(Lib.trimPrefix s.data.toList [45]).toArray⟩, by simp, by
      show (Lib.trimPrefix s.data.toList [45]).toArray.size ≤ 1510
      have : s.data.toList.length = s.size := (size_list rfl).symm
      unfold Lib.trimPrefix
      split
      · simp at this ⊢; omega
      · simp at this ⊢; omega, (Tryz.strings_TrimPrefix s ⟨#[45]⟩ w).mono fun _ _ ⟨he, hw⟩ => ⟨he, hw.symm⟩⟩
  obtain ⟨t, ht, hts, HC⟩ := HT.out w
  have HCh := Lib.hid HC
  clear HC
  generalize hres : wrB s.data.toList = res
  have Hres := Lib.hid hres
  clear hres
  cases hl : t.data.toList with
  | nil =>
    have he : t.toList.isEmpty = true := by rw [Lib.toList_data, hl]; rfl
    have hr : res = false := by rw [← Hres.out, wrB, ← ht, hl]
    subst hr
    clear hl ht
    go_enter Tryz.func52, Tryz.ntmps52
    go_wp2_with fail
    refine HCh.out.mono ?_
    rintro e w' ⟨rfl, rfl⟩
    go_wp2_with fail
    go_ret
    exact ⟨rfl, 0, rfl⟩
  | cons c r =>
    obtain ⟨h0, ec, _⟩ := shut1 hl
    have he := nonempty_bytes hl
    have h0' : (0 : Int) < t.size := by omega
    by_cases h48 : c = 48
    · have hb : ((t[0].toNat : Int) == 48) = true := by rw [ec, h48]; decide
      have hr : res = (s.toList == [48]) := by rw [← Hres.out, wrB, ← ht, hl, Lib.toList_data]; simp only [h48, if_true]
      have Hr := Lib.hid hr
      clear hl ht ec hr
      rename_i hsz
      clear hsz
      go_enter Tryz.func52, Tryz.ntmps52
      go_wp2_with fail
      refine HCh.out.mono ?_
      rintro e w' ⟨rfl, rfl⟩
      go_wp2_with fail
      go_ret
      exact ⟨ret_bool Hr.out.symm, 0, rfl⟩
    · have hb : ((t[0].toNat : Int) == 48) = false := by rw [ec]; exact ne_byte 48 (fun h => h48 (UInt8.toNat_inj.1 h))
      have hr : res = t.data.toList.all digB := by rw [← Hres.out, wrB, ← ht, hl]; simp only [h48, if_false]
      have Hr := Lib.hid hr
      clear hl ht ec hr
      rename_i hsz
      clear hsz
      go_enter Tryz.func52, Tryz.ntmps52
      go_wp2_with fail
      refine HCh.out.mono ?_
      rintro e w' ⟨rfl, rfl⟩
      go_wp2_with fail
      go_loopw [16] (fun i wr => ∃ k : Nat, k ≤ t.size ∧ i = .int .i64 k ∧ Hid ((t.data.toList.take k).all digB = true) ∧ Drawn w wr) (fun i _ => t.size - (intOf i).toNat)
      case atStart => exact ⟨0, Nat.zero_le _, rfl, rfl, 0, rfl⟩
      case round =>
        obtain ⟨k, hk, rfl, hall, nq, rfl⟩ := hrel
        by_cases hlt : k < t.size
        · go_wp2_with fail
          · have h := ‹(t[k].toNat : Int) < 48 ∨ 57 < (t[k].toNat : Int)›
            have h2 := ‹(48 : Int) ≤ (t[k].toNat : Int)›
            go_ret
            exact ⟨ret_bool (by rw [Hr.out]; exact (all_dig_stop hlt (dig_no2 (by omega))).symm), nq, rfl⟩
          · have h := ‹(48 : Int) ≤ (t[k].toNat : Int) ∧ (t[k].toNat : Int) ≤ 57›
            go_roundw
            case rel => exact ⟨k + 1, by omega, by go_num, all_dig_go hlt hall.out (dig_yes (by omega) (by omega)), nq, rfl⟩
            case measure => simp [intOf]; omega
          · have h := ‹(t[k].toNat : Int) < 48›
            go_ret
            exact ⟨ret_bool (by rw [Hr.out]; exact (all_dig_stop hlt (dig_no1 (by omega))).symm), nq, rfl⟩
        · obtain rfl : k = t.size := by omega
          go_wp2_with fail
          go_ret
          exact ⟨ret_bool (by rw [Hr.out]; have := hall.out; rw [List.take_of_length_le (by rw [← size_list rfl]; exact Nat.le_refl _)] at this; exact this.symm), nq, rfl⟩

/-- What digits say, behind a number. -/
def dfrom (n : Nat) (l : List UInt8) : Nat := l.foldl (fun n c => 10 * n + (c.toNat - 48)) n
theorem dfrom_cons (n : Nat) (c : UInt8) (l : List UInt8) : dfrom n (c :: l) = dfrom (10 * n + (c.toNat - 48)) l := by unfold dfrom; rw [List.foldl_cons]
theorem dfrom_ge : ∀ (l : List UInt8) (n : Nat), n ≤ dfrom n l
  | [], n => Nat.le_refl _
  | c :: l, n => by rw [dfrom_cons]; have := dfrom_ge l (10 * n + (c.toNat - 48)); omega
theorem dval_dfrom (l : List UInt8) : dval l = dfrom 0 l := rfl
theorem digB_iff {c : UInt8} : digB c = true ↔ 48 ≤ c.toNat ∧ c.toNat ≤ 57 := by simp [digB]
theorem dfrom_nil (n : Nat) : dfrom n [] = n := by unfold dfrom; rw [List.foldl_nil]
theorem parse_nil (n : Nat) : Lib.parseUint10 n [] = .ok n := by rw [Lib.parseUint10]
theorem parse_cons (n : Nat) (c : UInt8) (l : List UInt8) (hc : digB c = true) : Lib.parseUint10 n (c :: l) = if 1844674407370955162 ≤ n then .range else if 18446744073709551616 ≤ n * 10 + (c.toNat - 48) then .range else Lib.parseUint10 (n * 10 + (c.toNat - 48)) l := by
  rw [Lib.parseUint10, if_pos (digB_iff.1 hc)]
theorem parse10 (l : List UInt8) : ∀ n : Nat, n < 18446744073709551616 → l.all digB = true → (dfrom n l < 18446744073709551616 → Lib.parseUint10 n l = .ok (dfrom n l)) ∧ (18446744073709551616 ≤ dfrom n l → Lib.parseUint10 n l = .range) := by
  induction l with
  | nil =>
    intro n hn _
    rw [dfrom_nil, parse_nil]
    exact ⟨fun _ => rfl, fun h => by omega⟩
  | cons c l ih =>
    intro n hn h
    rw [List.all_cons, Bool.and_eq_true] at h
    have hge := dfrom_ge l (10 * n + (c.toNat - 48))
    have ih' := ih (10 * n + (c.toNat - 48))
    rw [dfrom_cons, parse_cons n c l h.1, Nat.mul_comm n 10]
    generalize dfrom (10 * n + (c.toNat - 48)) l = v at *
    by_cases h1 : 1844674407370955162 ≤ n
    · rw [if_pos h1]
      exact ⟨fun h => by omega, fun _ => rfl⟩
    · rw [if_neg h1]
      by_cases h2 : 18446744073709551616 ≤ 10 * n + (c.toNat - 48)
      · rw [if_pos h2]
        exact ⟨fun h => by omega, fun _ => rfl⟩
      · rw [if_neg h2]
        exact ih' (by omega) h.2

/-- What an int's text says. -/
def ival (l : List UInt8) : Int := match l with
  | [] => 0
  | c :: r => if c = 45 then -(dval r : Int) else dval (c :: r)
theorem wrB_cases {l : List UInt8} (h : wrB l = true) : (∃ r, l = 45 :: r ∧ r ≠ [] ∧ r.all digB = true ∧ r.head? ≠ some 48) ∨ (l ≠ [] ∧ l.all digB = true ∧ (∀ r, l ≠ 45 :: r)) := by
  unfold wrB Lib.trimPrefix Lib.hasPrefix at h
  cases l with
  | nil => simp at h
  | cons a t =>
    by_cases h45 : a = 45
    · subst h45
      simp only [List.isPrefixOf, beq_self_eq_true, Bool.true_and, if_true, List.length_cons, List.length_nil, List.drop_succ_cons, List.drop_zero] at h
      cases t with
      | nil => simp at h
      | cons c r =>
        simp only at h
        by_cases h48 : c = 48
        · rw [if_pos h48] at h
          simp at h
        · rw [if_neg h48] at h
          exact .inl ⟨c :: r, rfl, by simp, h, by simp [h48]⟩
    · have hp : ([45] : List UInt8).isPrefixOf (a :: t) = false := by simp [List.isPrefixOf, Ne.symm h45]
      rw [hp] at h
      simp only [Bool.false_eq_true, if_false] at h
      refine .inr ⟨by simp, ?_, fun r e => h45 (List.cons.inj e).1⟩
      by_cases h48 : a = 48
      · rw [if_pos h48] at h
        have := eq_of_beq h
        rw [this]; decide
      · rw [if_neg h48] at h; exact h
theorem atoi_neg {r : List UInt8} (hr : r ≠ []) {u : Nat} (h : Lib.parseUint10 0 r = .ok u) : Lib.atoiAll (45 :: r) = if 9223372036854775808 < u then .range else .ok (-(u : Int)) := by
  simp only [Lib.atoiAll, show (45 : UInt8).toNat = 45 from rfl, or_true, if_true, Lib.parseMag, if_neg hr, h, not_true_eq_false, false_and, if_false, true_and]
theorem atoi_neg_far {r : List UInt8} (hr : r ≠ []) (h : Lib.parseUint10 0 r = .range) : Lib.atoiAll (45 :: r) = .range := by
  simp only [Lib.atoiAll, show (45 : UInt8).toNat = 45 from rfl, or_true, if_true, Lib.parseMag, if_neg hr, h]
theorem atoi_pos {c : UInt8} {r : List UInt8} (hc : 48 ≤ c.toNat) {u : Nat} (h : Lib.parseUint10 0 (c :: r) = .ok u) : Lib.atoiAll (c :: r) = if 9223372036854775808 ≤ u then .range else .ok (u : Int) := by
  have h43 : ¬ (c.toNat = 43 ∨ c.toNat = 45) := by omega
  have h45 : ¬ c.toNat = 45 := by omega
  have hne : ¬ c :: r = [] := by simp
  simp only [Lib.atoiAll, if_neg h43, Lib.parseMag, if_neg hne, h, if_neg h45]
  simp only [h45, not_false_eq_true, true_and, false_and, if_false]
theorem atoi_pos_far {c : UInt8} {r : List UInt8} (hc : 48 ≤ c.toNat) (h : Lib.parseUint10 0 (c :: r) = .range) : Lib.atoiAll (c :: r) = .range := by
  have h43 : ¬ (c.toNat = 43 ∨ c.toNat = 45) := by omega
  have hne : ¬ c :: r = [] := by simp
  simp only [Lib.atoiAll, if_neg h43, Lib.parseMag, if_neg hne, h]
theorem atoi_of {l : List UInt8} (h : wrB l = true) : (inI (ival l) = true → Lib.atoiAll l = .ok (ival l)) ∧ (inI (ival l) = false → Lib.atoiAll l = .range) := by
  rcases wrB_cases h with ⟨r, rfl, hr, hd, _⟩ | ⟨hne, hd, hm⟩
  · have e : ival (45 :: r) = -(dval r : Int) := rfl
    rw [e, dval_dfrom]
    obtain ⟨p1, p2⟩ := parse10 r 0 (by omega) hd
    have q1 := fun h => atoi_neg hr (p1 h)
    have q2 := fun h => atoi_neg_far hr (p2 h)
    generalize Lib.atoiAll (45 :: r) = z at *
    generalize dfrom 0 r = v at *
    clear p1 p2 e
    constructor
    · intro hi
      rw [inI_iff] at hi
      rw [q1 (by omega), if_neg (by omega)]
    · intro hi
      have hi' : ¬ (-9223372036854775808 ≤ -(v : Int) ∧ -(v : Int) ≤ 9223372036854775807) := by rw [← inI_iff, hi]; decide
      by_cases hb : v < 18446744073709551616
      · rw [q1 hb, if_pos (by omega)]
      · exact q2 (by omega)
  · cases l with
    | nil => exact absurd rfl hne
    | cons c r =>
      have hc45 : c ≠ 45 := fun e => hm r (by rw [e])
      have hcd : 48 ≤ c.toNat ∧ c.toNat ≤ 57 := by rw [List.all_cons, Bool.and_eq_true] at hd; exact digB_iff.1 hd.1
      have e : ival (c :: r) = (dval (c :: r) : Int) := by simp [ival, hc45]
      rw [e, dval_dfrom]
      obtain ⟨p1, p2⟩ := parse10 (c :: r) 0 (by omega) hd
      have q1 := fun h => atoi_pos hcd.1 (p1 h)
      have q2 := fun h => atoi_pos_far hcd.1 (p2 h)
      generalize Lib.atoiAll (c :: r) = z at *
      generalize dfrom 0 (c :: r) = v at *
      clear p1 p2 e
      constructor
      · intro hi
        rw [inI_iff] at hi
        rw [q1 (by omega), if_neg (by omega)]
      · intro hi
        have hi' : ¬ (-9223372036854775808 ≤ (v : Int) ∧ (v : Int) ≤ 9223372036854775807) := by rw [← inI_iff, hi]; decide
        by_cases hb : v < 18446744073709551616
        · rw [q1 hb, if_pos (by omega)]
        · exact q2 (by omega)
end Go.Proofs.YtiahojbliaaklaaGreatDoor
