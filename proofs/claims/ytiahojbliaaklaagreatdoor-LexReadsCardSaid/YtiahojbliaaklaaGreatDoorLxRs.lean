/- The document's token: signs; all kinds. (Laid by tools/gen_lxrs.py.) -/
import Derived.Test.YtiahojbliaaklaaGreatDoorLxRA
namespace Go.Proofs.YtiahojbliaaklaaGreatDoor
open Go.RowKit

theorem tok_sign (a : UInt8) (r : List UInt8) (h1 : letrB a = false) (h2 : digB a = false) (h3 : a ≠ 45) (h4 : a ≠ 39) : tokL (a :: r) = if signN (a :: r) = 0 then (4, 0, 10) else (4, signN (a :: r), 0) := by
  have t1 : (a.toNat = 39) = False := by simp; intro h; exact h4 (UInt8.toNat_inj.1 h)
  have t2 : (a.toNat = 45) = False := by simp; intro h; exact h3 (UInt8.toNat_inj.1 h)
  have t4 : partB a = false := by rw [part_letr, h1, h2]; rfl
  unfold tokL
  simp only [t1, t2, h2, t4, Bool.false_eq_true, if_false]
theorem pre_is (s : ByteArray) (k : Nat) (x y : UInt8) (h : k + 1 < s.size) : ((s.extract k (k + 2)).toList == [x, y]) = Lib.hasPrefix (s.data.toList.drop k) [x, y] := by
  rw [Lib.toList_data, extract_mid, drop_at s k (by omega), drop_at s (k + 1) h, show k + 2 - k = 2 by omega]
  simp [Lib.hasPrefix, List.isPrefixOf]
  rw [Bool.eq_iff_iff]
  simp
  constructor
  · rintro ⟨h1, h2⟩; exact ⟨h1.symm, h2.symm⟩
  · rintro ⟨h1, h2⟩; exact ⟨h1.symm, h2.symm⟩
theorem pre_not (s : ByteArray) (k : Nat) (x y : UInt8) (hk : k < s.size) (h : ¬ k + 1 < s.size) : Lib.hasPrefix (s.data.toList.drop k) [x, y] = false := by
  rw [drop_at s k hk, List.drop_of_length_le (by rw [Array.length_toList]; show s.size ≤ k + 1; omega)]
  simp [Lib.hasPrefix, List.isPrefixOf]
theorem one_ne (a : UInt8) (z : Nat) (hz : z < 256) (h : a ≠ UInt8.ofNat z) : ((z : Int) == (a.toNat : Int)) = false := beq_eq_false_iff_ne.2 (fun e => byte_ne h hz e.symm)
/-- What a sign's byte is. -/
theorem one_cases (a : UInt8) : a = 61 ∨ a = 60 ∨ a = 62 ∨ a = 42 ∨ a = 44 ∨ a = 40 ∨ a = 41 ∨ ([61, 60, 62, 42, 44, 40, 41] : List UInt8).contains a = false := by
  cases h : ([61, 60, 62, 42, 44, 40, 41] : List UInt8).contains a
  · simp
  · simp at h
    rcases h with h | h | h | h | h | h | h <;> simp [h]
set_option maxRecDepth 100000 in
set_option maxHeartbeats 12800000 in
theorem refTok_sign (s : ByteArray) (k : Nat) (w : World) (hk : k < s.size) (hs : s.size ≤ 1510) (h1 : letrB s[k] = false) (h2 : digB s[k] = false) (h3 : s[k] ≠ 45) (h4 : s[k] ≠ 39) :
    Calls Tryz.prog 11 #[.string s, .int .i64 k] w (RefTok k (tokL (s.data.toList.drop k)) w) := by
  have hd := drop_at s k hk
  have ht := tok_sign s[k] (s.data.toList.drop (k + 1)) h1 h2 h3 h4
  rw [← hd] at ht
  have HL0 := Lib.hid (refLetter_any s[k].toNat s[k] rfl w)
  have HD0 := Lib.hid (refDigit_any s[k].toNat s[k] rfl w)
  rw [h1] at HL0
  rw [h2] at HD0
  have t45 : ((s[k].toNat : Int) == 45) = false := beq_eq_false_iff_ne.2 (byte_ne (n := 45) h3 (by omega))
  have t39 : ((s[k].toNat : Int) == 39) = false := beq_eq_false_iff_ne.2 (byte_ne (n := 39) h4 (by omega))
  have k0 : (0 : Int) ≤ k := by omega
  have k1 : (k : Int) < s.size := by omega
  have k2 : (s.size : Int) ≤ 1510 := by omega
  have hone := one_cases s[k]
  have hsg : signN (s.data.toList.drop k) = if Lib.hasPrefix (s.data.toList.drop k) [60, 62] || Lib.hasPrefix (s.data.toList.drop k) [60, 61] || Lib.hasPrefix (s.data.toList.drop k) [62, 61] then 2 else if ([61, 60, 62, 42, 44, 40, 41] : List UInt8).contains s[k] then 1 else 0 := by
    unfold signN
    rw [hd]
  have hP := pre_is s k 60 62
  have hP1 := pre_is s k 60 61
  have hP2 := pre_is s k 62 61
  have hn0 := pre_not s k 60 62 hk
  have hn1 := pre_not s k 60 61 hk
  have hn2 := pre_not s k 62 61 hk
  obtain ⟨tk, htk⟩ : ∃ tk, tk = tokL (s.data.toList.drop k) := ⟨_, rfl⟩
  rw [← htk] at ht ⊢
  generalize Lib.hasPrefix (s.data.toList.drop k) [60, 62] = p0 at *
  generalize Lib.hasPrefix (s.data.toList.drop k) [60, 61] = p1 at *
  generalize Lib.hasPrefix (s.data.toList.drop k) [62, 61] = p2 at *
  clear hd h1 h2 h3 h4 htk
  have KT : Hid (∀ m, signN (s.data.toList.drop k) = m + 1 → tk = (4, m + 1, 0)) := Lib.hid fun m h => by rw [ht, h]; rfl
  have K0 : Hid (signN (s.data.toList.drop k) = 0 → tk = (4, 0, 10)) := Lib.hid fun h => by rw [ht, h]; rfl
  clear ht
  obtain ⟨P, hPe⟩ : ∃ P, P = k + 1 := ⟨_, rfl⟩
  obtain ⟨Q, hQe⟩ : ∃ Q, Q = k + 2 := ⟨_, rfl⟩
  rw [← hQe] at hP hP1 hP2
  have w1 : (k : Int) + 1 = (P : Int) := by omega
  have w2 : (P : Int) + 1 = (Q : Int) := by omega
  have P0 : (0 : Int) ≤ P := by omega
  have HPe := Lib.hid hPe
  have HQe := Lib.hid hQe
  by_cases hlt : k + 1 < s.size
  · have e0 := hP hlt
    have e1 := hP1 hlt
    have e2 := hP2 hlt
    have l1 : (P : Int) < s.size := by omega
    have l2 : (Q : Int) ≤ s.size := by omega
    have l3 : (k : Int) ≤ Q := by omega
    clear hP hP1 hP2 hn0 hn1 hn2 hlt hPe hQe
    by_cases hp : (p0 || p1 || p2) = true
    · have htk := KT.out 1 (by rw [hsg, if_pos hp])
      have HTk := Lib.hid htk
      clear htk hsg hone
      cases p0
      · cases p1
        · cases p2
          · exact absurd hp (by decide)
          · clear hp
            go_enter Tryz.func11, Tryz.ntmps11
            go_wp2_with fail
            refine (HL0.out).mono ?_
            rintro e w1 ⟨rfl, rfl⟩
            go_wp2_with fail
            refine (HD0.out).mono ?_
            rintro e w1 ⟨rfl, rfl⟩
            go_wp2_with fail
            go_ret3
            exact ⟨⟨4, Q, by rw [HTk.out]; rfl, fun _ => by rw [HTk.out]; exact ⟨rfl, HQe.out⟩⟩, grown_reflX _ _⟩
        · clear hp
          go_enter Tryz.func11, Tryz.ntmps11
          go_wp2_with fail
          refine (HL0.out).mono ?_
          rintro e w1 ⟨rfl, rfl⟩
          go_wp2_with fail
          refine (HD0.out).mono ?_
          rintro e w1 ⟨rfl, rfl⟩
          go_wp2_with fail
          go_ret3
          exact ⟨⟨4, Q, by rw [HTk.out]; rfl, fun _ => by rw [HTk.out]; exact ⟨rfl, HQe.out⟩⟩, grown_reflX _ _⟩
      · clear hp
        go_enter Tryz.func11, Tryz.ntmps11
        go_wp2_with fail
        refine (HL0.out).mono ?_
        rintro e w1 ⟨rfl, rfl⟩
        go_wp2_with fail
        refine (HD0.out).mono ?_
        rintro e w1 ⟨rfl, rfl⟩
        go_wp2_with fail
        go_ret3
        exact ⟨⟨4, Q, by rw [HTk.out]; rfl, fun _ => by rw [HTk.out]; exact ⟨rfl, HQe.out⟩⟩, grown_reflX _ _⟩
    · have p00 : p0 = false := by cases p0 <;> simp_all
      have p11 : p1 = false := by cases p1 <;> simp_all
      have p22 : p2 = false := by cases p2 <;> simp_all
      subst p00 p11 p22
      clear hp
      rcases hone with h | h | h | h | h | h | h | h
      · have htk := KT.out 0 (by rw [hsg, h]; rfl)
        have HTk := Lib.hid htk
        have c0 : (((((⟨#[61, 60, 62, 42, 44, 40, 41]⟩ : ByteArray)[0]'(by decide)).toNat : Nat) : Int) == (s[k].toNat : Int)) = true := by rw [h]; decide
        clear htk hsg h
        go_enter Tryz.func11, Tryz.ntmps11
        go_wp2_with fail
        refine (HL0.out).mono ?_
        rintro e w1 ⟨rfl, rfl⟩
        go_wp2_with fail
        refine (HD0.out).mono ?_
        rintro e w1 ⟨rfl, rfl⟩
        go_wp2_with fail
        refine wp_loop_rounds 1 ?_
        rw [rounds_succ]
        go_wp2_with fail
        go_ret3
        exact ⟨⟨4, P, by rw [HTk.out]; rfl, fun _ => by rw [HTk.out]; exact ⟨rfl, HPe.out⟩⟩, grown_reflX _ _⟩
      · have htk := KT.out 0 (by rw [hsg, h]; rfl)
        have HTk := Lib.hid htk
        have c0 : (((((⟨#[61, 60, 62, 42, 44, 40, 41]⟩ : ByteArray)[0]'(by decide)).toNat : Nat) : Int) == (s[k].toNat : Int)) = false := by rw [h]; decide
        have c1 : (((((⟨#[61, 60, 62, 42, 44, 40, 41]⟩ : ByteArray)[1]'(by decide)).toNat : Nat) : Int) == (s[k].toNat : Int)) = true := by rw [h]; decide
        clear htk hsg h
        go_enter Tryz.func11, Tryz.ntmps11
        go_wp2_with fail
        refine (HL0.out).mono ?_
        rintro e w1 ⟨rfl, rfl⟩
        go_wp2_with fail
        refine (HD0.out).mono ?_
        rintro e w1 ⟨rfl, rfl⟩
        go_wp2_with fail
        refine wp_loop_rounds 2 ?_
        rw [rounds_succ]
        go_wp2_with fail
        rw [rounds_succ]
        go_wp2_with fail
        go_ret3
        exact ⟨⟨4, P, by rw [HTk.out]; rfl, fun _ => by rw [HTk.out]; exact ⟨rfl, HPe.out⟩⟩, grown_reflX _ _⟩
      · have htk := KT.out 0 (by rw [hsg, h]; rfl)
        have HTk := Lib.hid htk
        have c0 : (((((⟨#[61, 60, 62, 42, 44, 40, 41]⟩ : ByteArray)[0]'(by decide)).toNat : Nat) : Int) == (s[k].toNat : Int)) = false := by rw [h]; decide
        have c1 : (((((⟨#[61, 60, 62, 42, 44, 40, 41]⟩ : ByteArray)[1]'(by decide)).toNat : Nat) : Int) == (s[k].toNat : Int)) = false := by rw [h]; decide
        have c2 : (((((⟨#[61, 60, 62, 42, 44, 40, 41]⟩ : ByteArray)[2]'(by decide)).toNat : Nat) : Int) == (s[k].toNat : Int)) = true := by rw [h]; decide
        clear htk hsg h
        go_enter Tryz.func11, Tryz.ntmps11
        go_wp2_with fail
        refine (HL0.out).mono ?_
        rintro e w1 ⟨rfl, rfl⟩
        go_wp2_with fail
        refine (HD0.out).mono ?_
        rintro e w1 ⟨rfl, rfl⟩
        go_wp2_with fail
        refine wp_loop_rounds 3 ?_
        rw [rounds_succ]
        go_wp2_with fail
        rw [rounds_succ]
        go_wp2_with fail
        rw [rounds_succ]
        go_wp2_with fail
        go_ret3
        exact ⟨⟨4, P, by rw [HTk.out]; rfl, fun _ => by rw [HTk.out]; exact ⟨rfl, HPe.out⟩⟩, grown_reflX _ _⟩
      · have htk := KT.out 0 (by rw [hsg, h]; rfl)
        have HTk := Lib.hid htk
        have c0 : (((((⟨#[61, 60, 62, 42, 44, 40, 41]⟩ : ByteArray)[0]'(by decide)).toNat : Nat) : Int) == (s[k].toNat : Int)) = false := by rw [h]; decide
        have c1 : (((((⟨#[61, 60, 62, 42, 44, 40, 41]⟩ : ByteArray)[1]'(by decide)).toNat : Nat) : Int) == (s[k].toNat : Int)) = false := by rw [h]; decide
        have c2 : (((((⟨#[61, 60, 62, 42, 44, 40, 41]⟩ : ByteArray)[2]'(by decide)).toNat : Nat) : Int) == (s[k].toNat : Int)) = false := by rw [h]; decide
        have c3 : (((((⟨#[61, 60, 62, 42, 44, 40, 41]⟩ : ByteArray)[3]'(by decide)).toNat : Nat) : Int) == (s[k].toNat : Int)) = true := by rw [h]; decide
        clear htk hsg h
        go_enter Tryz.func11, Tryz.ntmps11
        go_wp2_with fail
        refine (HL0.out).mono ?_
        rintro e w1 ⟨rfl, rfl⟩
        go_wp2_with fail
        refine (HD0.out).mono ?_
        rintro e w1 ⟨rfl, rfl⟩
        go_wp2_with fail
        refine wp_loop_rounds 4 ?_
        rw [rounds_succ]
        go_wp2_with fail
        rw [rounds_succ]
        go_wp2_with fail
        rw [rounds_succ]
        go_wp2_with fail
        rw [rounds_succ]
        go_wp2_with fail
        go_ret3
        exact ⟨⟨4, P, by rw [HTk.out]; rfl, fun _ => by rw [HTk.out]; exact ⟨rfl, HPe.out⟩⟩, grown_reflX _ _⟩
      · have htk := KT.out 0 (by rw [hsg, h]; rfl)
        have HTk := Lib.hid htk
        have c0 : (((((⟨#[61, 60, 62, 42, 44, 40, 41]⟩ : ByteArray)[0]'(by decide)).toNat : Nat) : Int) == (s[k].toNat : Int)) = false := by rw [h]; decide
        have c1 : (((((⟨#[61, 60, 62, 42, 44, 40, 41]⟩ : ByteArray)[1]'(by decide)).toNat : Nat) : Int) == (s[k].toNat : Int)) = false := by rw [h]; decide
        have c2 : (((((⟨#[61, 60, 62, 42, 44, 40, 41]⟩ : ByteArray)[2]'(by decide)).toNat : Nat) : Int) == (s[k].toNat : Int)) = false := by rw [h]; decide
        have c3 : (((((⟨#[61, 60, 62, 42, 44, 40, 41]⟩ : ByteArray)[3]'(by decide)).toNat : Nat) : Int) == (s[k].toNat : Int)) = false := by rw [h]; decide
        have c4 : (((((⟨#[61, 60, 62, 42, 44, 40, 41]⟩ : ByteArray)[4]'(by decide)).toNat : Nat) : Int) == (s[k].toNat : Int)) = true := by rw [h]; decide
        clear htk hsg h
        go_enter Tryz.func11, Tryz.ntmps11
        go_wp2_with fail
        refine (HL0.out).mono ?_
        rintro e w1 ⟨rfl, rfl⟩
        go_wp2_with fail
        refine (HD0.out).mono ?_
        rintro e w1 ⟨rfl, rfl⟩
        go_wp2_with fail
        refine wp_loop_rounds 5 ?_
        rw [rounds_succ]
        go_wp2_with fail
        rw [rounds_succ]
        go_wp2_with fail
        rw [rounds_succ]
        go_wp2_with fail
        rw [rounds_succ]
        go_wp2_with fail
        rw [rounds_succ]
        go_wp2_with fail
        go_ret3
        exact ⟨⟨4, P, by rw [HTk.out]; rfl, fun _ => by rw [HTk.out]; exact ⟨rfl, HPe.out⟩⟩, grown_reflX _ _⟩
      · have htk := KT.out 0 (by rw [hsg, h]; rfl)
        have HTk := Lib.hid htk
        have c0 : (((((⟨#[61, 60, 62, 42, 44, 40, 41]⟩ : ByteArray)[0]'(by decide)).toNat : Nat) : Int) == (s[k].toNat : Int)) = false := by rw [h]; decide
        have c1 : (((((⟨#[61, 60, 62, 42, 44, 40, 41]⟩ : ByteArray)[1]'(by decide)).toNat : Nat) : Int) == (s[k].toNat : Int)) = false := by rw [h]; decide
        have c2 : (((((⟨#[61, 60, 62, 42, 44, 40, 41]⟩ : ByteArray)[2]'(by decide)).toNat : Nat) : Int) == (s[k].toNat : Int)) = false := by rw [h]; decide
        have c3 : (((((⟨#[61, 60, 62, 42, 44, 40, 41]⟩ : ByteArray)[3]'(by decide)).toNat : Nat) : Int) == (s[k].toNat : Int)) = false := by rw [h]; decide
        have c4 : (((((⟨#[61, 60, 62, 42, 44, 40, 41]⟩ : ByteArray)[4]'(by decide)).toNat : Nat) : Int) == (s[k].toNat : Int)) = false := by rw [h]; decide
        have c5 : (((((⟨#[61, 60, 62, 42, 44, 40, 41]⟩ : ByteArray)[5]'(by decide)).toNat : Nat) : Int) == (s[k].toNat : Int)) = true := by rw [h]; decide
        clear htk hsg h
        go_enter Tryz.func11, Tryz.ntmps11
        go_wp2_with fail
        refine (HL0.out).mono ?_
        rintro e w1 ⟨rfl, rfl⟩
        go_wp2_with fail
        refine (HD0.out).mono ?_
        rintro e w1 ⟨rfl, rfl⟩
        go_wp2_with fail
        refine wp_loop_rounds 6 ?_
        rw [rounds_succ]
        go_wp2_with fail
        rw [rounds_succ]
        go_wp2_with fail
        rw [rounds_succ]
        go_wp2_with fail
        rw [rounds_succ]
        go_wp2_with fail
        rw [rounds_succ]
        go_wp2_with fail
        rw [rounds_succ]
        go_wp2_with fail
        go_ret3
        exact ⟨⟨4, P, by rw [HTk.out]; rfl, fun _ => by rw [HTk.out]; exact ⟨rfl, HPe.out⟩⟩, grown_reflX _ _⟩
      · have htk := KT.out 0 (by rw [hsg, h]; rfl)
        have HTk := Lib.hid htk
        have c0 : (((((⟨#[61, 60, 62, 42, 44, 40, 41]⟩ : ByteArray)[0]'(by decide)).toNat : Nat) : Int) == (s[k].toNat : Int)) = false := by rw [h]; decide
        have c1 : (((((⟨#[61, 60, 62, 42, 44, 40, 41]⟩ : ByteArray)[1]'(by decide)).toNat : Nat) : Int) == (s[k].toNat : Int)) = false := by rw [h]; decide
        have c2 : (((((⟨#[61, 60, 62, 42, 44, 40, 41]⟩ : ByteArray)[2]'(by decide)).toNat : Nat) : Int) == (s[k].toNat : Int)) = false := by rw [h]; decide
        have c3 : (((((⟨#[61, 60, 62, 42, 44, 40, 41]⟩ : ByteArray)[3]'(by decide)).toNat : Nat) : Int) == (s[k].toNat : Int)) = false := by rw [h]; decide
        have c4 : (((((⟨#[61, 60, 62, 42, 44, 40, 41]⟩ : ByteArray)[4]'(by decide)).toNat : Nat) : Int) == (s[k].toNat : Int)) = false := by rw [h]; decide
        have c5 : (((((⟨#[61, 60, 62, 42, 44, 40, 41]⟩ : ByteArray)[5]'(by decide)).toNat : Nat) : Int) == (s[k].toNat : Int)) = false := by rw [h]; decide
        have c6 : (((((⟨#[61, 60, 62, 42, 44, 40, 41]⟩ : ByteArray)[6]'(by decide)).toNat : Nat) : Int) == (s[k].toNat : Int)) = true := by rw [h]; decide
        clear htk hsg h
        go_enter Tryz.func11, Tryz.ntmps11
        go_wp2_with fail
        refine (HL0.out).mono ?_
        rintro e w1 ⟨rfl, rfl⟩
        go_wp2_with fail
        refine (HD0.out).mono ?_
        rintro e w1 ⟨rfl, rfl⟩
        go_wp2_with fail
        refine wp_loop_rounds 7 ?_
        rw [rounds_succ]
        go_wp2_with fail
        rw [rounds_succ]
        go_wp2_with fail
        rw [rounds_succ]
        go_wp2_with fail
        rw [rounds_succ]
        go_wp2_with fail
        rw [rounds_succ]
        go_wp2_with fail
        rw [rounds_succ]
        go_wp2_with fail
        rw [rounds_succ]
        go_wp2_with fail
        go_ret3
        exact ⟨⟨4, P, by rw [HTk.out]; rfl, fun _ => by rw [HTk.out]; exact ⟨rfl, HPe.out⟩⟩, grown_reflX _ _⟩
      · have htk := K0.out (by rw [hsg, h]; rfl)
        have HTk := Lib.hid htk
        have c0 : (((((⟨#[61, 60, 62, 42, 44, 40, 41]⟩ : ByteArray)[0]'(by decide)).toNat : Nat) : Int) == (s[k].toNat : Int)) = false := one_ne s[k] 61 (by decide) (fun h5 => by rw [h5] at h; exact absurd h (by decide))
        have c1 : (((((⟨#[61, 60, 62, 42, 44, 40, 41]⟩ : ByteArray)[1]'(by decide)).toNat : Nat) : Int) == (s[k].toNat : Int)) = false := one_ne s[k] 60 (by decide) (fun h5 => by rw [h5] at h; exact absurd h (by decide))
        have c2 : (((((⟨#[61, 60, 62, 42, 44, 40, 41]⟩ : ByteArray)[2]'(by decide)).toNat : Nat) : Int) == (s[k].toNat : Int)) = false := one_ne s[k] 62 (by decide) (fun h5 => by rw [h5] at h; exact absurd h (by decide))
        have c3 : (((((⟨#[61, 60, 62, 42, 44, 40, 41]⟩ : ByteArray)[3]'(by decide)).toNat : Nat) : Int) == (s[k].toNat : Int)) = false := one_ne s[k] 42 (by decide) (fun h5 => by rw [h5] at h; exact absurd h (by decide))
        have c4 : (((((⟨#[61, 60, 62, 42, 44, 40, 41]⟩ : ByteArray)[4]'(by decide)).toNat : Nat) : Int) == (s[k].toNat : Int)) = false := one_ne s[k] 44 (by decide) (fun h5 => by rw [h5] at h; exact absurd h (by decide))
        have c5 : (((((⟨#[61, 60, 62, 42, 44, 40, 41]⟩ : ByteArray)[5]'(by decide)).toNat : Nat) : Int) == (s[k].toNat : Int)) = false := one_ne s[k] 40 (by decide) (fun h5 => by rw [h5] at h; exact absurd h (by decide))
        have c6 : (((((⟨#[61, 60, 62, 42, 44, 40, 41]⟩ : ByteArray)[6]'(by decide)).toNat : Nat) : Int) == (s[k].toNat : Int)) = false := one_ne s[k] 41 (by decide) (fun h5 => by rw [h5] at h; exact absurd h (by decide))
        clear htk hsg h
        go_enter Tryz.func11, Tryz.ntmps11
        go_wp2_with fail
        refine (HL0.out).mono ?_
        rintro e w1 ⟨rfl, rfl⟩
        go_wp2_with fail
        refine (HD0.out).mono ?_
        rintro e w1 ⟨rfl, rfl⟩
        go_wp2_with fail
        refine wp_loop_rounds 8 ?_
        rw [rounds_succ]
        go_wp2_with fail
        rw [rounds_succ]
        go_wp2_with fail
        rw [rounds_succ]
        go_wp2_with fail
        rw [rounds_succ]
        go_wp2_with fail
        rw [rounds_succ]
        go_wp2_with fail
        rw [rounds_succ]
        go_wp2_with fail
        rw [rounds_succ]
        go_wp2_with fail
        rw [rounds_succ]
        go_wp2_with fail
        go_ret3
        exact ⟨⟨0, 0, by rw [HTk.out]; rfl, fun hh => by rw [HTk.out] at hh; simp at hh⟩, grown_reflX _ _⟩
  · obtain rfl := hn0 hlt
    obtain rfl := hn1 hlt
    obtain rfl := hn2 hlt
    have l1 : ¬ (P : Int) < s.size := by omega
    clear hP hP1 hP2 hn0 hn1 hn2 hlt hPe hQe
    rcases hone with h | h | h | h | h | h | h | h
    · have htk := KT.out 0 (by rw [hsg, h]; rfl)
      have HTk := Lib.hid htk
      have c0 : (((((⟨#[61, 60, 62, 42, 44, 40, 41]⟩ : ByteArray)[0]'(by decide)).toNat : Nat) : Int) == (s[k].toNat : Int)) = true := by rw [h]; decide
      clear htk hsg h
      go_enter Tryz.func11, Tryz.ntmps11
      go_wp2_with fail
      refine (HL0.out).mono ?_
      rintro e w1 ⟨rfl, rfl⟩
      go_wp2_with fail
      refine (HD0.out).mono ?_
      rintro e w1 ⟨rfl, rfl⟩
      go_wp2_with fail
      refine wp_loop_rounds 1 ?_
      rw [rounds_succ]
      go_wp2_with fail
      go_ret3
      exact ⟨⟨4, P, by rw [HTk.out]; rfl, fun _ => by rw [HTk.out]; exact ⟨rfl, HPe.out⟩⟩, grown_reflX _ _⟩
    · have htk := KT.out 0 (by rw [hsg, h]; rfl)
      have HTk := Lib.hid htk
      have c0 : (((((⟨#[61, 60, 62, 42, 44, 40, 41]⟩ : ByteArray)[0]'(by decide)).toNat : Nat) : Int) == (s[k].toNat : Int)) = false := by rw [h]; decide
      have c1 : (((((⟨#[61, 60, 62, 42, 44, 40, 41]⟩ : ByteArray)[1]'(by decide)).toNat : Nat) : Int) == (s[k].toNat : Int)) = true := by rw [h]; decide
      clear htk hsg h
      go_enter Tryz.func11, Tryz.ntmps11
      go_wp2_with fail
      refine (HL0.out).mono ?_
      rintro e w1 ⟨rfl, rfl⟩
      go_wp2_with fail
      refine (HD0.out).mono ?_
      rintro e w1 ⟨rfl, rfl⟩
      go_wp2_with fail
      refine wp_loop_rounds 2 ?_
      rw [rounds_succ]
      go_wp2_with fail
      rw [rounds_succ]
      go_wp2_with fail
      go_ret3
      exact ⟨⟨4, P, by rw [HTk.out]; rfl, fun _ => by rw [HTk.out]; exact ⟨rfl, HPe.out⟩⟩, grown_reflX _ _⟩
    · have htk := KT.out 0 (by rw [hsg, h]; rfl)
      have HTk := Lib.hid htk
      have c0 : (((((⟨#[61, 60, 62, 42, 44, 40, 41]⟩ : ByteArray)[0]'(by decide)).toNat : Nat) : Int) == (s[k].toNat : Int)) = false := by rw [h]; decide
      have c1 : (((((⟨#[61, 60, 62, 42, 44, 40, 41]⟩ : ByteArray)[1]'(by decide)).toNat : Nat) : Int) == (s[k].toNat : Int)) = false := by rw [h]; decide
      have c2 : (((((⟨#[61, 60, 62, 42, 44, 40, 41]⟩ : ByteArray)[2]'(by decide)).toNat : Nat) : Int) == (s[k].toNat : Int)) = true := by rw [h]; decide
      clear htk hsg h
      go_enter Tryz.func11, Tryz.ntmps11
      go_wp2_with fail
      refine (HL0.out).mono ?_
      rintro e w1 ⟨rfl, rfl⟩
      go_wp2_with fail
      refine (HD0.out).mono ?_
      rintro e w1 ⟨rfl, rfl⟩
      go_wp2_with fail
      refine wp_loop_rounds 3 ?_
      rw [rounds_succ]
      go_wp2_with fail
      rw [rounds_succ]
      go_wp2_with fail
      rw [rounds_succ]
      go_wp2_with fail
      go_ret3
      exact ⟨⟨4, P, by rw [HTk.out]; rfl, fun _ => by rw [HTk.out]; exact ⟨rfl, HPe.out⟩⟩, grown_reflX _ _⟩
    · have htk := KT.out 0 (by rw [hsg, h]; rfl)
      have HTk := Lib.hid htk
      have c0 : (((((⟨#[61, 60, 62, 42, 44, 40, 41]⟩ : ByteArray)[0]'(by decide)).toNat : Nat) : Int) == (s[k].toNat : Int)) = false := by rw [h]; decide
      have c1 : (((((⟨#[61, 60, 62, 42, 44, 40, 41]⟩ : ByteArray)[1]'(by decide)).toNat : Nat) : Int) == (s[k].toNat : Int)) = false := by rw [h]; decide
      have c2 : (((((⟨#[61, 60, 62, 42, 44, 40, 41]⟩ : ByteArray)[2]'(by decide)).toNat : Nat) : Int) == (s[k].toNat : Int)) = false := by rw [h]; decide
      have c3 : (((((⟨#[61, 60, 62, 42, 44, 40, 41]⟩ : ByteArray)[3]'(by decide)).toNat : Nat) : Int) == (s[k].toNat : Int)) = true := by rw [h]; decide
      clear htk hsg h
      go_enter Tryz.func11, Tryz.ntmps11
      go_wp2_with fail
      refine (HL0.out).mono ?_
      rintro e w1 ⟨rfl, rfl⟩
      go_wp2_with fail
      refine (HD0.out).mono ?_
      rintro e w1 ⟨rfl, rfl⟩
      go_wp2_with fail
      refine wp_loop_rounds 4 ?_
      rw [rounds_succ]
      go_wp2_with fail
      rw [rounds_succ]
      go_wp2_with fail
      rw [rounds_succ]
      go_wp2_with fail
      rw [rounds_succ]
      go_wp2_with fail
      go_ret3
      exact ⟨⟨4, P, by rw [HTk.out]; rfl, fun _ => by rw [HTk.out]; exact ⟨rfl, HPe.out⟩⟩, grown_reflX _ _⟩
    · have htk := KT.out 0 (by rw [hsg, h]; rfl)
      have HTk := Lib.hid htk
      have c0 : (((((⟨#[61, 60, 62, 42, 44, 40, 41]⟩ : ByteArray)[0]'(by decide)).toNat : Nat) : Int) == (s[k].toNat : Int)) = false := by rw [h]; decide
      have c1 : (((((⟨#[61, 60, 62, 42, 44, 40, 41]⟩ : ByteArray)[1]'(by decide)).toNat : Nat) : Int) == (s[k].toNat : Int)) = false := by rw [h]; decide
      have c2 : (((((⟨#[61, 60, 62, 42, 44, 40, 41]⟩ : ByteArray)[2]'(by decide)).toNat : Nat) : Int) == (s[k].toNat : Int)) = false := by rw [h]; decide
      have c3 : (((((⟨#[61, 60, 62, 42, 44, 40, 41]⟩ : ByteArray)[3]'(by decide)).toNat : Nat) : Int) == (s[k].toNat : Int)) = false := by rw [h]; decide
      have c4 : (((((⟨#[61, 60, 62, 42, 44, 40, 41]⟩ : ByteArray)[4]'(by decide)).toNat : Nat) : Int) == (s[k].toNat : Int)) = true := by rw [h]; decide
      clear htk hsg h
      go_enter Tryz.func11, Tryz.ntmps11
      go_wp2_with fail
      refine (HL0.out).mono ?_
      rintro e w1 ⟨rfl, rfl⟩
      go_wp2_with fail
      refine (HD0.out).mono ?_
      rintro e w1 ⟨rfl, rfl⟩
      go_wp2_with fail
      refine wp_loop_rounds 5 ?_
      rw [rounds_succ]
      go_wp2_with fail
      rw [rounds_succ]
      go_wp2_with fail
      rw [rounds_succ]
      go_wp2_with fail
      rw [rounds_succ]
      go_wp2_with fail
      rw [rounds_succ]
      go_wp2_with fail
      go_ret3
      exact ⟨⟨4, P, by rw [HTk.out]; rfl, fun _ => by rw [HTk.out]; exact ⟨rfl, HPe.out⟩⟩, grown_reflX _ _⟩
    · have htk := KT.out 0 (by rw [hsg, h]; rfl)
      have HTk := Lib.hid htk
      have c0 : (((((⟨#[61, 60, 62, 42, 44, 40, 41]⟩ : ByteArray)[0]'(by decide)).toNat : Nat) : Int) == (s[k].toNat : Int)) = false := by rw [h]; decide
      have c1 : (((((⟨#[61, 60, 62, 42, 44, 40, 41]⟩ : ByteArray)[1]'(by decide)).toNat : Nat) : Int) == (s[k].toNat : Int)) = false := by rw [h]; decide
      have c2 : (((((⟨#[61, 60, 62, 42, 44, 40, 41]⟩ : ByteArray)[2]'(by decide)).toNat : Nat) : Int) == (s[k].toNat : Int)) = false := by rw [h]; decide
      have c3 : (((((⟨#[61, 60, 62, 42, 44, 40, 41]⟩ : ByteArray)[3]'(by decide)).toNat : Nat) : Int) == (s[k].toNat : Int)) = false := by rw [h]; decide
      have c4 : (((((⟨#[61, 60, 62, 42, 44, 40, 41]⟩ : ByteArray)[4]'(by decide)).toNat : Nat) : Int) == (s[k].toNat : Int)) = false := by rw [h]; decide
      have c5 : (((((⟨#[61, 60, 62, 42, 44, 40, 41]⟩ : ByteArray)[5]'(by decide)).toNat : Nat) : Int) == (s[k].toNat : Int)) = true := by rw [h]; decide
      clear htk hsg h
      go_enter Tryz.func11, Tryz.ntmps11
      go_wp2_with fail
      refine (HL0.out).mono ?_
      rintro e w1 ⟨rfl, rfl⟩
      go_wp2_with fail
      refine (HD0.out).mono ?_
      rintro e w1 ⟨rfl, rfl⟩
      go_wp2_with fail
      refine wp_loop_rounds 6 ?_
      rw [rounds_succ]
      go_wp2_with fail
      rw [rounds_succ]
      go_wp2_with fail
      rw [rounds_succ]
      go_wp2_with fail
      rw [rounds_succ]
      go_wp2_with fail
      rw [rounds_succ]
      go_wp2_with fail
      rw [rounds_succ]
      go_wp2_with fail
      go_ret3
      exact ⟨⟨4, P, by rw [HTk.out]; rfl, fun _ => by rw [HTk.out]; exact ⟨rfl, HPe.out⟩⟩, grown_reflX _ _⟩
    · have htk := KT.out 0 (by rw [hsg, h]; rfl)
      have HTk := Lib.hid htk
      have c0 : (((((⟨#[61, 60, 62, 42, 44, 40, 41]⟩ : ByteArray)[0]'(by decide)).toNat : Nat) : Int) == (s[k].toNat : Int)) = false := by rw [h]; decide
      have c1 : (((((⟨#[61, 60, 62, 42, 44, 40, 41]⟩ : ByteArray)[1]'(by decide)).toNat : Nat) : Int) == (s[k].toNat : Int)) = false := by rw [h]; decide
      have c2 : (((((⟨#[61, 60, 62, 42, 44, 40, 41]⟩ : ByteArray)[2]'(by decide)).toNat : Nat) : Int) == (s[k].toNat : Int)) = false := by rw [h]; decide
      have c3 : (((((⟨#[61, 60, 62, 42, 44, 40, 41]⟩ : ByteArray)[3]'(by decide)).toNat : Nat) : Int) == (s[k].toNat : Int)) = false := by rw [h]; decide
      have c4 : (((((⟨#[61, 60, 62, 42, 44, 40, 41]⟩ : ByteArray)[4]'(by decide)).toNat : Nat) : Int) == (s[k].toNat : Int)) = false := by rw [h]; decide
      have c5 : (((((⟨#[61, 60, 62, 42, 44, 40, 41]⟩ : ByteArray)[5]'(by decide)).toNat : Nat) : Int) == (s[k].toNat : Int)) = false := by rw [h]; decide
      have c6 : (((((⟨#[61, 60, 62, 42, 44, 40, 41]⟩ : ByteArray)[6]'(by decide)).toNat : Nat) : Int) == (s[k].toNat : Int)) = true := by rw [h]; decide
      clear htk hsg h
      go_enter Tryz.func11, Tryz.ntmps11
      go_wp2_with fail
      refine (HL0.out).mono ?_
      rintro e w1 ⟨rfl, rfl⟩
      go_wp2_with fail
      refine (HD0.out).mono ?_
      rintro e w1 ⟨rfl, rfl⟩
      go_wp2_with fail
      refine wp_loop_rounds 7 ?_
      rw [rounds_succ]
      go_wp2_with fail
      rw [rounds_succ]
      go_wp2_with fail
      rw [rounds_succ]
      go_wp2_with fail
      rw [rounds_succ]
      go_wp2_with fail
      rw [rounds_succ]
      go_wp2_with fail
      rw [rounds_succ]
      go_wp2_with fail
      rw [rounds_succ]
      go_wp2_with fail
      go_ret3
      exact ⟨⟨4, P, by rw [HTk.out]; rfl, fun _ => by rw [HTk.out]; exact ⟨rfl, HPe.out⟩⟩, grown_reflX _ _⟩
    · have htk := K0.out (by rw [hsg, h]; rfl)
      have HTk := Lib.hid htk
      have c0 : (((((⟨#[61, 60, 62, 42, 44, 40, 41]⟩ : ByteArray)[0]'(by decide)).toNat : Nat) : Int) == (s[k].toNat : Int)) = false := one_ne s[k] 61 (by decide) (fun h5 => by rw [h5] at h; exact absurd h (by decide))
      have c1 : (((((⟨#[61, 60, 62, 42, 44, 40, 41]⟩ : ByteArray)[1]'(by decide)).toNat : Nat) : Int) == (s[k].toNat : Int)) = false := one_ne s[k] 60 (by decide) (fun h5 => by rw [h5] at h; exact absurd h (by decide))
      have c2 : (((((⟨#[61, 60, 62, 42, 44, 40, 41]⟩ : ByteArray)[2]'(by decide)).toNat : Nat) : Int) == (s[k].toNat : Int)) = false := one_ne s[k] 62 (by decide) (fun h5 => by rw [h5] at h; exact absurd h (by decide))
      have c3 : (((((⟨#[61, 60, 62, 42, 44, 40, 41]⟩ : ByteArray)[3]'(by decide)).toNat : Nat) : Int) == (s[k].toNat : Int)) = false := one_ne s[k] 42 (by decide) (fun h5 => by rw [h5] at h; exact absurd h (by decide))
      have c4 : (((((⟨#[61, 60, 62, 42, 44, 40, 41]⟩ : ByteArray)[4]'(by decide)).toNat : Nat) : Int) == (s[k].toNat : Int)) = false := one_ne s[k] 44 (by decide) (fun h5 => by rw [h5] at h; exact absurd h (by decide))
      have c5 : (((((⟨#[61, 60, 62, 42, 44, 40, 41]⟩ : ByteArray)[5]'(by decide)).toNat : Nat) : Int) == (s[k].toNat : Int)) = false := one_ne s[k] 40 (by decide) (fun h5 => by rw [h5] at h; exact absurd h (by decide))
      have c6 : (((((⟨#[61, 60, 62, 42, 44, 40, 41]⟩ : ByteArray)[6]'(by decide)).toNat : Nat) : Int) == (s[k].toNat : Int)) = false := one_ne s[k] 41 (by decide) (fun h5 => by rw [h5] at h; exact absurd h (by decide))
      clear htk hsg h
      go_enter Tryz.func11, Tryz.ntmps11
      go_wp2_with fail
      refine (HL0.out).mono ?_
      rintro e w1 ⟨rfl, rfl⟩
      go_wp2_with fail
      refine (HD0.out).mono ?_
      rintro e w1 ⟨rfl, rfl⟩
      go_wp2_with fail
      refine wp_loop_rounds 8 ?_
      rw [rounds_succ]
      go_wp2_with fail
      rw [rounds_succ]
      go_wp2_with fail
      rw [rounds_succ]
      go_wp2_with fail
      rw [rounds_succ]
      go_wp2_with fail
      rw [rounds_succ]
      go_wp2_with fail
      rw [rounds_succ]
      go_wp2_with fail
      rw [rounds_succ]
      go_wp2_with fail
      rw [rounds_succ]
      go_wp2_with fail
      go_ret3
      exact ⟨⟨0, 0, by rw [HTk.out]; rfl, fun hh => by rw [HTk.out] at hh; simp at hh⟩, grown_reflX _ _⟩
end Go.Proofs.YtiahojbliaaklaaGreatDoor
