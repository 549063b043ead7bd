import Derived.Test.YtfambadamebjjaaZs25
import Derived.Test.YtfambadamebjjaaZs19
import Derived.Deep.RegionHeld
import Derived.Test.YtfambadamebjjaaZs23
import Derived.Laws.OwnMore
import Derived.Test.YtfambadamebjjaaZs15
set_option linter.unusedSimpArgs false
set_option linter.unusedVariables false
namespace Go.Proofs.Ytfambadamebjjaa
open Go.RowKit

theorem tok_sign (a : UInt8) (r : List UInt8) (h1 : letrB a = false) (h2 : digB a = false) (h3 : a ≠ 45) (h4 : a ≠ 39) : tokL (a :: r) = if signN (a :: r) = 0 then (4, 0, 10) else (4, signN (a :: r), 0) := by
 have t1 : (a.toNat = 39) = False := by simp; intro h; exact h4 (UInt8.toNat_inj.1 h)
 have t2 : (a.toNat = 45) = False := by simp; intro h; exact h3 (UInt8.toNat_inj.1 h)
 have t4 : partB a = false := by rw [part_letr, h1, h2]; rfl
 unfold tokL
 simp only [t1, t2, h2, t4, Bool.false_eq_true, if_false]
theorem pre_is (s : ByteArray) (k : Nat) (x y : UInt8) (h : k + 1 < s.size) : ((s.extract k (k + 2)).toList == [x, y]) = Lib.hasPrefix (s.data.toList.drop k) [x, y] := by
 rw [Lib.toList_data, extract_mid, drop_at s k (by omega), drop_at s (k + 1) h, show k + 2 - k = 2 by omega]
 simp [Lib.hasPrefix, List.isPrefixOf]
 rw [Bool.eq_iff_iff]
 simp
 constructor
 ·rintro ⟨h1, h2⟩; exact ⟨h1.symm, h2.symm⟩
 ·rintro ⟨h1, h2⟩; exact ⟨h1.symm, h2.symm⟩
theorem pre_not (s : ByteArray) (k : Nat) (x y : UInt8) (hk : k < s.size) (h : ¬ k + 1 < s.size) : Lib.hasPrefix (s.data.toList.drop k) [x, y] = false := by
 rw [drop_at s k hk, List.drop_of_length_le (by rw [Array.length_toList]; show s.size ≤ k + 1; omega)]
 simp [Lib.hasPrefix, List.isPrefixOf]
theorem one_ne (a : UInt8) (z : Nat) (hz : z < 256) (h : a ≠ UInt8.ofNat z) : ((z : Int) == (a.toNat : Int)) = false := beq_eq_false_iff_ne.2 (fun e => byte_ne h hz e.symm)
theorem one_cases (a : UInt8) : a = 61 ∨ a = 60 ∨ a = 62 ∨ a = 42 ∨ a = 44 ∨ a = 40 ∨ a = 41 ∨ ([61, 60, 62, 42, 44, 40, 41] : List UInt8).contains a = false := by
 cases h : ([61, 60, 62, 42, 44, 40, 41] : List UInt8).contains a
 ·simp
 ·simp at h
  rcases h with h | h | h | h | h | h | h <;> simp [h]
set_option maxRecDepth 100000 in
set_option maxHeartbeats 12800000 in
theorem refTok_sign (s : ByteArray) (k : Nat) (w : World) (hk : k < s.size) (hs : s.size ≤ 1510) (h1 : letrB s[k] = false) (h2 : digB s[k] = false) (h3 : s[k] ≠ 45) (h4 : s[k] ≠ 39) :
  Calls Try.prog 51 #[.string s, .int .i64 k] w (RefTok k (tokL (s.data.toList.drop k)) w) := by
 have hd := drop_at s k hk
 have ht := tok_sign s[k] (s.data.toList.drop (k + 1)) h1 h2 h3 h4
 rw [← hd] at ht
 have HL0 := Lib.hid (refLetter_any s[k].toNat s[k] rfl w)
 have HD0 := Lib.hid (refDigit_any s[k].toNat s[k] rfl w)
 rw [h1] at HL0
 rw [h2] at HD0
 have t45 : ((s[k].toNat : Int) == 45) = false := beq_eq_false_iff_ne.2 (byte_ne (n := 45) h3 (by omega))
 have t39 : ((s[k].toNat : Int) == 39) = false := beq_eq_false_iff_ne.2 (byte_ne (n := 39) h4 (by omega))
 have k0 : (0 : Int) ≤ k := by omega
 have k1 : (k : Int) < s.size := by omega
 have k2 : (s.size : Int) ≤ 1510 := by omega
 have hone := one_cases s[k]
 have hsg : signN (s.data.toList.drop k) = if Lib.hasPrefix (s.data.toList.drop k) [60, 62] || Lib.hasPrefix (s.data.toList.drop k) [60, 61] || Lib.hasPrefix (s.data.toList.drop k) [62, 61] then 2 else if ([61, 60, 62, 42, 44, 40, 41] : List UInt8).contains s[k] then 1 else 0 := by
  unfold signN
  rw [hd]
 have hP := pre_is s k 60 62
 have hP1 := pre_is s k 60 61
 have hP2 := pre_is s k 62 61
 have hn0 := pre_not s k 60 62 hk
 have hn1 := pre_not s k 60 61 hk
 have hn2 := pre_not s k 62 61 hk
 obtain ⟨tk, htk⟩ : ∃ tk, tk = tokL (s.data.toList.drop k) := ⟨_, rfl⟩
 rw [← htk] at ht ⊢
 generalize Lib.hasPrefix (s.data.toList.drop k) [60, 62] = p0 at *
 generalize Lib.hasPrefix (s.data.toList.drop k) [60, 61] = p1 at *
 generalize Lib.hasPrefix (s.data.toList.drop k) [62, 61] = p2 at *
 clear hd h1 h2 h3 h4 htk
 have KT : Hid (∀ m, signN (s.data.toList.drop k) = m + 1 → tk = (4, m + 1, 0)) := Lib.hid fun m h => by rw [ht, h]; rfl
 have K0 : Hid (signN (s.data.toList.drop k) = 0 → tk = (4, 0, 10)) := Lib.hid fun h => by rw [ht, h]; rfl
 clear ht
 obtain ⟨P, hPe⟩ : ∃ P, P = k + 1 := ⟨_, rfl⟩
 obtain ⟨Q, hQe⟩ : ∃ Q, Q = k + 2 := ⟨_, rfl⟩
 rw [← hQe] at hP hP1 hP2
 have w1 : (k : Int) + 1 = (P : Int) := by omega
 have w2 : (P : Int) + 1 = (Q : Int) := by omega
 have P0 : (0 : Int) ≤ P := by omega
 have HPe := Lib.hid hPe
 have HQe := Lib.hid hQe
 by_cases hlt : k + 1 < s.size
 ·have e0 := hP hlt
  have e1 := hP1 hlt
  have e2 := hP2 hlt
  have l1 : (P : Int) < s.size := by omega
  have l2 : (Q : Int) ≤ s.size := by omega
  have l3 : (k : Int) ≤ Q := by omega
  clear hP hP1 hP2 hn0 hn1 hn2 hlt hPe hQe
  by_cases hp : (p0 || p1 || p2) = true
  ·have htk := KT.out 1 (by rw [hsg, if_pos hp])
   have HTk := Lib.hid htk
   clear htk hsg hone
   cases p0
   ·cases p1
    ·cases p2
     ·exact absurd hp (by decide)
     ·clear hp
      go_enter Try.func51, Try.ntmps51
      go_wp2_with fail
      refine (HL0.out).mono ?_
      rintro e w1 ⟨rfl, rfl⟩
      go_wp2_with fail
      refine (HD0.out).mono ?_
      rintro e w1 ⟨rfl, rfl⟩
      go_wp2_with fail
      go_ret3
      exact ⟨⟨4, Q, by rw [HTk.out]; rfl, fun _ => by rw [HTk.out]; exact ⟨rfl, HQe.out⟩⟩, grown_reflX _ _⟩
    ·clear hp
     go_enter Try.func51, Try.ntmps51
     go_wp2_with fail
     refine (HL0.out).mono ?_
     rintro e w1 ⟨rfl, rfl⟩
     go_wp2_with fail
     refine (HD0.out).mono ?_
     rintro e w1 ⟨rfl, rfl⟩
     go_wp2_with fail
     go_ret3
     exact ⟨⟨4, Q, by rw [HTk.out]; rfl, fun _ => by rw [HTk.out]; exact ⟨rfl, HQe.out⟩⟩, grown_reflX _ _⟩
   ·clear hp
    go_enter Try.func51, Try.ntmps51
    go_wp2_with fail
    refine (HL0.out).mono ?_
    rintro e w1 ⟨rfl, rfl⟩
    go_wp2_with fail
    refine (HD0.out).mono ?_
    rintro e w1 ⟨rfl, rfl⟩
    go_wp2_with fail
    go_ret3
    exact ⟨⟨4, Q, by rw [HTk.out]; rfl, fun _ => by rw [HTk.out]; exact ⟨rfl, HQe.out⟩⟩, grown_reflX _ _⟩
  ·have p00 : p0 = false := by cases p0 <;> simp_all
   have p11 : p1 = false := by cases p1 <;> simp_all
   have p22 : p2 = false := by cases p2 <;> simp_all
   subst p00 p11 p22
   clear hp
   rcases hone with h | h | h | h | h | h | h | h
   ·have htk := KT.out 0 (by rw [hsg, h]; rfl)
    have HTk := Lib.hid htk
    have c0 : (((((⟨#[61, 60, 62, 42, 44, 40, 41]⟩ : ByteArray)[0]'(by decide)).toNat : Nat) : Int) == (s[k].toNat : Int)) = true := by rw [h]; decide
    clear htk hsg h
    go_enter Try.func51, Try.ntmps51
    go_wp2_with fail
    refine (HL0.out).mono ?_
    rintro e w1 ⟨rfl, rfl⟩
    go_wp2_with fail
    refine (HD0.out).mono ?_
    rintro e w1 ⟨rfl, rfl⟩
    go_wp2_with fail
    refine wp_loop_rounds 1 ?_
    rw [rounds_succ]
    go_wp2_with fail
    go_ret3
    exact ⟨⟨4, P, by rw [HTk.out]; rfl, fun _ => by rw [HTk.out]; exact ⟨rfl, HPe.out⟩⟩, grown_reflX _ _⟩
   ·have htk := KT.out 0 (by rw [hsg, h]; rfl)
    have HTk := Lib.hid htk
    have c0 : (((((⟨#[61, 60, 62, 42, 44, 40, 41]⟩ : ByteArray)[0]'(by decide)).toNat : Nat) : Int) == (s[k].toNat : Int)) = false := by rw [h]; decide
    have c1 : (((((⟨#[61, 60, 62, 42, 44, 40, 41]⟩ : ByteArray)[1]'(by decide)).toNat : Nat) : Int) == (s[k].toNat : Int)) = true := by rw [h]; decide
    clear htk hsg h
    go_enter Try.func51, Try.ntmps51
    go_wp2_with fail
    refine (HL0.out).mono ?_
    rintro e w1 ⟨rfl, rfl⟩
    go_wp2_with fail
    refine (HD0.out).mono ?_
    rintro e w1 ⟨rfl, rfl⟩
    go_wp2_with fail
    refine wp_loop_rounds 2 ?_
    rw [rounds_succ]
    go_wp2_with fail
    rw [rounds_succ]
    go_wp2_with fail
    go_ret3
    exact ⟨⟨4, P, by rw [HTk.out]; rfl, fun _ => by rw [HTk.out]; exact ⟨rfl, HPe.out⟩⟩, grown_reflX _ _⟩
   ·have htk := KT.out 0 (by rw [hsg, h]; rfl)
    have HTk := Lib.hid htk
    have c0 : (((((⟨#[61, 60, 62, 42, 44, 40, 41]⟩ : ByteArray)[0]'(by decide)).toNat : Nat) : Int) == (s[k].toNat : Int)) = false := by rw [h]; decide
    have c1 : (((((⟨#[61, 60, 62, 42, 44, 40, 41]⟩ : ByteArray)[1]'(by decide)).toNat : Nat) : Int) == (s[k].toNat : Int)) = false := by rw [h]; decide
    have c2 : (((((⟨#[61, 60, 62, 42, 44, 40, 41]⟩ : ByteArray)[2]'(by decide)).toNat : Nat) : Int) == (s[k].toNat : Int)) = true := by rw [h]; decide
    clear htk hsg h
    go_enter Try.func51, Try.ntmps51
    go_wp2_with fail
    refine (HL0.out).mono ?_
    rintro e w1 ⟨rfl, rfl⟩
    go_wp2_with fail
    refine (HD0.out).mono ?_
    rintro e w1 ⟨rfl, rfl⟩
    go_wp2_with fail
    refine wp_loop_rounds 3 ?_
    rw [rounds_succ]
    go_wp2_with fail
    rw [rounds_succ]
    go_wp2_with fail
    rw [rounds_succ]
    go_wp2_with fail
    go_ret3
    exact ⟨⟨4, P, by rw [HTk.out]; rfl, fun _ => by rw [HTk.out]; exact ⟨rfl, HPe.out⟩⟩, grown_reflX _ _⟩
   ·have htk := KT.out 0 (by rw [hsg, h]; rfl)
    have HTk := Lib.hid htk
    have c0 : (((((⟨#[61, 60, 62, 42, 44, 40, 41]⟩ : ByteArray)[0]'(by decide)).toNat : Nat) : Int) == (s[k].toNat : Int)) = false := by rw [h]; decide
    have c1 : (((((⟨#[61, 60, 62, 42, 44, 40, 41]⟩ : ByteArray)[1]'(by decide)).toNat : Nat) : Int) == (s[k].toNat : Int)) = false := by rw [h]; decide
    have c2 : (((((⟨#[61, 60, 62, 42, 44, 40, 41]⟩ : ByteArray)[2]'(by decide)).toNat : Nat) : Int) == (s[k].toNat : Int)) = false := by rw [h]; decide
    have c3 : (((((⟨#[61, 60, 62, 42, 44, 40, 41]⟩ : ByteArray)[3]'(by decide)).toNat : Nat) : Int) == (s[k].toNat : Int)) = true := by rw [h]; decide
    clear htk hsg h
    go_enter Try.func51, Try.ntmps51
    go_wp2_with fail
    refine (HL0.out).mono ?_
    rintro e w1 ⟨rfl, rfl⟩
    go_wp2_with fail
    refine (HD0.out).mono ?_
    rintro e w1 ⟨rfl, rfl⟩
    go_wp2_with fail
    refine wp_loop_rounds 4 ?_
    rw [rounds_succ]
    go_wp2_with fail
    rw [rounds_succ]
    go_wp2_with fail
    rw [rounds_succ]
    go_wp2_with fail
    rw [rounds_succ]
    go_wp2_with fail
    go_ret3
    exact ⟨⟨4, P, by rw [HTk.out]; rfl, fun _ => by rw [HTk.out]; exact ⟨rfl, HPe.out⟩⟩, grown_reflX _ _⟩
   ·have htk := KT.out 0 (by rw [hsg, h]; rfl)
    have HTk := Lib.hid htk
    have c0 : (((((⟨#[61, 60, 62, 42, 44, 40, 41]⟩ : ByteArray)[0]'(by decide)).toNat : Nat) : Int) == (s[k].toNat : Int)) = false := by rw [h]; decide
    have c1 : (((((⟨#[61, 60, 62, 42, 44, 40, 41]⟩ : ByteArray)[1]'(by decide)).toNat : Nat) : Int) == (s[k].toNat : Int)) = false := by rw [h]; decide
    have c2 : (((((⟨#[61, 60, 62, 42, 44, 40, 41]⟩ : ByteArray)[2]'(by decide)).toNat : Nat) : Int) == (s[k].toNat : Int)) = false := by rw [h]; decide
    have c3 : (((((⟨#[61, 60, 62, 42, 44, 40, 41]⟩ : ByteArray)[3]'(by decide)).toNat : Nat) : Int) == (s[k].toNat : Int)) = false := by rw [h]; decide
    have c4 : (((((⟨#[61, 60, 62, 42, 44, 40, 41]⟩ : ByteArray)[4]'(by decide)).toNat : Nat) : Int) == (s[k].toNat : Int)) = true := by rw [h]; decide
    clear htk hsg h
    go_enter Try.func51, Try.ntmps51
    go_wp2_with fail
    refine (HL0.out).mono ?_
    rintro e w1 ⟨rfl, rfl⟩
    go_wp2_with fail
    refine (HD0.out).mono ?_
    rintro e w1 ⟨rfl, rfl⟩
    go_wp2_with fail
    refine wp_loop_rounds 5 ?_
    rw [rounds_succ]
    go_wp2_with fail
    rw [rounds_succ]
    go_wp2_with fail
    rw [rounds_succ]
    go_wp2_with fail
    rw [rounds_succ]
    go_wp2_with fail
    rw [rounds_succ]
    go_wp2_with fail
    go_ret3
    exact ⟨⟨4, P, by rw [HTk.out]; rfl, fun _ => by rw [HTk.out]; exact ⟨rfl, HPe.out⟩⟩, grown_reflX _ _⟩
   ·have htk := KT.out 0 (by rw [hsg, h]; rfl)
    have HTk := Lib.hid htk
    have c0 : (((((⟨#[61, 60, 62, 42, 44, 40, 41]⟩ : ByteArray)[0]'(by decide)).toNat : Nat) : Int) == (s[k].toNat : Int)) = false := by rw [h]; decide
    have c1 : (((((⟨#[61, 60, 62, 42, 44, 40, 41]⟩ : ByteArray)[1]'(by decide)).toNat : Nat) : Int) == (s[k].toNat : Int)) = false := by rw [h]; decide
    have c2 : (((((⟨#[61, 60, 62, 42, 44, 40, 41]⟩ : ByteArray)[2]'(by decide)).toNat : Nat) : Int) == (s[k].toNat : Int)) = false := by rw [h]; decide
    have c3 : (((((⟨#[61, 60, 62, 42, 44, 40, 41]⟩ : ByteArray)[3]'(by decide)).toNat : Nat) : Int) == (s[k].toNat : Int)) = false := by rw [h]; decide
    have c4 : (((((⟨#[61, 60, 62, 42, 44, 40, 41]⟩ : ByteArray)[4]'(by decide)).toNat : Nat) : Int) == (s[k].toNat : Int)) = false := by rw [h]; decide
    have c5 : (((((⟨#[61, 60, 62, 42, 44, 40, 41]⟩ : ByteArray)[5]'(by decide)).toNat : Nat) : Int) == (s[k].toNat : Int)) = true := by rw [h]; decide
    clear htk hsg h
    go_enter Try.func51, Try.ntmps51
    go_wp2_with fail
    refine (HL0.out).mono ?_
    rintro e w1 ⟨rfl, rfl⟩
    go_wp2_with fail
    refine (HD0.out).mono ?_
    rintro e w1 ⟨rfl, rfl⟩
    go_wp2_with fail
    refine wp_loop_rounds 6 ?_
    rw [rounds_succ]
    go_wp2_with fail
    rw [rounds_succ]
    go_wp2_with fail
    rw [rounds_succ]
    go_wp2_with fail
    rw [rounds_succ]
    go_wp2_with fail
    rw [rounds_succ]
    go_wp2_with fail
    rw [rounds_succ]
    go_wp2_with fail
    go_ret3
    exact ⟨⟨4, P, by rw [HTk.out]; rfl, fun _ => by rw [HTk.out]; exact ⟨rfl, HPe.out⟩⟩, grown_reflX _ _⟩
   ·have htk := KT.out 0 (by rw [hsg, h]; rfl)
    have HTk := Lib.hid htk
    have c0 : (((((⟨#[61, 60, 62, 42, 44, 40, 41]⟩ : ByteArray)[0]'(by decide)).toNat : Nat) : Int) == (s[k].toNat : Int)) = false := by rw [h]; decide
    have c1 : (((((⟨#[61, 60, 62, 42, 44, 40, 41]⟩ : ByteArray)[1]'(by decide)).toNat : Nat) : Int) == (s[k].toNat : Int)) = false := by rw [h]; decide
    have c2 : (((((⟨#[61, 60, 62, 42, 44, 40, 41]⟩ : ByteArray)[2]'(by decide)).toNat : Nat) : Int) == (s[k].toNat : Int)) = false := by rw [h]; decide
    have c3 : (((((⟨#[61, 60, 62, 42, 44, 40, 41]⟩ : ByteArray)[3]'(by decide)).toNat : Nat) : Int) == (s[k].toNat : Int)) = false := by rw [h]; decide
    have c4 : (((((⟨#[61, 60, 62, 42, 44, 40, 41]⟩ : ByteArray)[4]'(by decide)).toNat : Nat) : Int) == (s[k].toNat : Int)) = false := by rw [h]; decide
    have c5 : (((((⟨#[61, 60, 62, 42, 44, 40, 41]⟩ : ByteArray)[5]'(by decide)).toNat : Nat) : Int) == (s[k].toNat : Int)) = false := by rw [h]; decide
    have c6 : (((((⟨#[61, 60, 62, 42, 44, 40, 41]⟩ : ByteArray)[6]'(by decide)).toNat : Nat) : Int) == (s[k].toNat : Int)) = true := by rw [h]; decide
    clear htk hsg h
    go_enter Try.func51, Try.ntmps51
    go_wp2_with fail
    refine (HL0.out).mono ?_
    rintro e w1 ⟨rfl, rfl⟩
    go_wp2_with fail
    refine (HD0.out).mono ?_
    rintro e w1 ⟨rfl, rfl⟩
    go_wp2_with fail
    refine wp_loop_rounds 7 ?_
    rw [rounds_succ]
    go_wp2_with fail
    rw [rounds_succ]
    go_wp2_with fail
    rw [rounds_succ]
    go_wp2_with fail
    rw [rounds_succ]
    go_wp2_with fail
    rw [rounds_succ]
    go_wp2_with fail
    rw [rounds_succ]
    go_wp2_with fail
    rw [rounds_succ]
    go_wp2_with fail
    go_ret3
    exact ⟨⟨4, P, by rw [HTk.out]; rfl, fun _ => by rw [HTk.out]; exact ⟨rfl, HPe.out⟩⟩, grown_reflX _ _⟩
   ·have htk := K0.out (by rw [hsg, h]; rfl)
    have HTk := Lib.hid htk
    have c0 : (((((⟨#[61, 60, 62, 42, 44, 40, 41]⟩ : ByteArray)[0]'(by decide)).toNat : Nat) : Int) == (s[k].toNat : Int)) = false := one_ne s[k] 61 (by decide) (fun h5 => by rw [h5] at h; exact absurd h (by decide))
    have c1 : (((((⟨#[61, 60, 62, 42, 44, 40, 41]⟩ : ByteArray)[1]'(by decide)).toNat : Nat) : Int) == (s[k].toNat : Int)) = false := one_ne s[k] 60 (by decide) (fun h5 => by rw [h5] at h; exact absurd h (by decide))
    have c2 : (((((⟨#[61, 60, 62, 42, 44, 40, 41]⟩ : ByteArray)[2]'(by decide)).toNat : Nat) : Int) == (s[k].toNat : Int)) = false := one_ne s[k] 62 (by decide) (fun h5 => by rw [h5] at h; exact absurd h (by decide))
    have c3 : (((((⟨#[61, 60, 62, 42, 44, 40, 41]⟩ : ByteArray)[3]'(by decide)).toNat : Nat) : Int) == (s[k].toNat : Int)) = false := one_ne s[k] 42 (by decide) (fun h5 => by rw [h5] at h; exact absurd h (by decide))
    have c4 : (((((⟨#[61, 60, 62, 42, 44, 40, 41]⟩ : ByteArray)[4]'(by decide)).toNat : Nat) : Int) == (s[k].toNat : Int)) = false := one_ne s[k] 44 (by decide) (fun h5 => by rw [h5] at h; exact absurd h (by decide))
    have c5 : (((((⟨#[61, 60, 62, 42, 44, 40, 41]⟩ : ByteArray)[5]'(by decide)).toNat : Nat) : Int) == (s[k].toNat : Int)) = false := one_ne s[k] 40 (by decide) (fun h5 => by rw [h5] at h; exact absurd h (by decide))
    have c6 : (((((⟨#[61, 60, 62, 42, 44, 40, 41]⟩ : ByteArray)[6]'(by decide)).toNat : Nat) : Int) == (s[k].toNat : Int)) = false := one_ne s[k] 41 (by decide) (fun h5 => by rw [h5] at h; exact absurd h (by decide))
    clear htk hsg h
    go_enter Try.func51, Try.ntmps51
    go_wp2_with fail
    refine (HL0.out).mono ?_
    rintro e w1 ⟨rfl, rfl⟩
    go_wp2_with fail
    refine (HD0.out).mono ?_
    rintro e w1 ⟨rfl, rfl⟩
    go_wp2_with fail
    refine wp_loop_rounds 8 ?_
    rw [rounds_succ]
    go_wp2_with fail
    rw [rounds_succ]
    go_wp2_with fail
    rw [rounds_succ]
    go_wp2_with fail
    rw [rounds_succ]
    go_wp2_with fail
    rw [rounds_succ]
    go_wp2_with fail
    rw [rounds_succ]
    go_wp2_with fail
    rw [rounds_succ]
    go_wp2_with fail
    rw [rounds_succ]
    go_wp2_with fail
    go_ret3
    exact ⟨⟨0, 0, by rw [HTk.out]; rfl, fun hh => by rw [HTk.out] at hh; simp at hh⟩, grown_reflX _ _⟩
 ·obtain rfl := hn0 hlt
  obtain rfl := hn1 hlt
  obtain rfl := hn2 hlt
  have l1 : ¬ (P : Int) < s.size := by omega
  clear hP hP1 hP2 hn0 hn1 hn2 hlt hPe hQe
  rcases hone with h | h | h | h | h | h | h | h
  ·have htk := KT.out 0 (by rw [hsg, h]; rfl)
   have HTk := Lib.hid htk
   have c0 : (((((⟨#[61, 60, 62, 42, 44, 40, 41]⟩ : ByteArray)[0]'(by decide)).toNat : Nat) : Int) == (s[k].toNat : Int)) = true := by rw [h]; decide
   clear htk hsg h
   go_enter Try.func51, Try.ntmps51
   go_wp2_with fail
   refine (HL0.out).mono ?_
   rintro e w1 ⟨rfl, rfl⟩
   go_wp2_with fail
   refine (HD0.out).mono ?_
   rintro e w1 ⟨rfl, rfl⟩
   go_wp2_with fail
   refine wp_loop_rounds 1 ?_
   rw [rounds_succ]
   go_wp2_with fail
   go_ret3
   exact ⟨⟨4, P, by rw [HTk.out]; rfl, fun _ => by rw [HTk.out]; exact ⟨rfl, HPe.out⟩⟩, grown_reflX _ _⟩
  ·have htk := KT.out 0 (by rw [hsg, h]; rfl)
   have HTk := Lib.hid htk
   have c0 : (((((⟨#[61, 60, 62, 42, 44, 40, 41]⟩ : ByteArray)[0]'(by decide)).toNat : Nat) : Int) == (s[k].toNat : Int)) = false := by rw [h]; decide
   have c1 : (((((⟨#[61, 60, 62, 42, 44, 40, 41]⟩ : ByteArray)[1]'(by decide)).toNat : Nat) : Int) == (s[k].toNat : Int)) = true := by rw [h]; decide
   clear htk hsg h
   go_enter Try.func51, Try.ntmps51
   go_wp2_with fail
   refine (HL0.out).mono ?_
   rintro e w1 ⟨rfl, rfl⟩
   go_wp2_with fail
   refine (HD0.out).mono ?_
   rintro e w1 ⟨rfl, rfl⟩
   go_wp2_with fail
   refine wp_loop_rounds 2 ?_
   rw [rounds_succ]
   go_wp2_with fail
   rw [rounds_succ]
   go_wp2_with fail
   go_ret3
   exact ⟨⟨4, P, by rw [HTk.out]; rfl, fun _ => by rw [HTk.out]; exact ⟨rfl, HPe.out⟩⟩, grown_reflX _ _⟩
  ·have htk := KT.out 0 (by rw [hsg, h]; rfl)
   have HTk := Lib.hid htk
   have c0 : (((((⟨#[61, 60, 62, 42, 44, 40, 41]⟩ : ByteArray)[0]'(by decide)).toNat : Nat) : Int) == (s[k].toNat : Int)) = false := by rw [h]; decide
   have c1 : (((((⟨#[61, 60, 62, 42, 44, 40, 41]⟩ : ByteArray)[1]'(by decide)).toNat : Nat) : Int) == (s[k].toNat : Int)) = false := by rw [h]; decide
   have c2 : (((((⟨#[61, 60, 62, 42, 44, 40, 41]⟩ : ByteArray)[2]'(by decide)).toNat : Nat) : Int) == (s[k].toNat : Int)) = true := by rw [h]; decide
   clear htk hsg h
   go_enter Try.func51, Try.ntmps51
   go_wp2_with fail
   refine (HL0.out).mono ?_
   rintro e w1 ⟨rfl, rfl⟩
   go_wp2_with fail
   refine (HD0.out).mono ?_
   rintro e w1 ⟨rfl, rfl⟩
   go_wp2_with fail
   refine wp_loop_rounds 3 ?_
   rw [rounds_succ]
   go_wp2_with fail
   rw [rounds_succ]
   go_wp2_with fail
   rw [rounds_succ]
   go_wp2_with fail
   go_ret3
   exact ⟨⟨4, P, by rw [HTk.out]; rfl, fun _ => by rw [HTk.out]; exact ⟨rfl, HPe.out⟩⟩, grown_reflX _ _⟩
  ·have htk := KT.out 0 (by rw [hsg, h]; rfl)
   have HTk := Lib.hid htk
   have c0 : (((((⟨#[61, 60, 62, 42, 44, 40, 41]⟩ : ByteArray)[0]'(by decide)).toNat : Nat) : Int) == (s[k].toNat : Int)) = false := by rw [h]; decide
   have c1 : (((((⟨#[61, 60, 62, 42, 44, 40, 41]⟩ : ByteArray)[1]'(by decide)).toNat : Nat) : Int) == (s[k].toNat : Int)) = false := by rw [h]; decide
   have c2 : (((((⟨#[61, 60, 62, 42, 44, 40, 41]⟩ : ByteArray)[2]'(by decide)).toNat : Nat) : Int) == (s[k].toNat : Int)) = false := by rw [h]; decide
   have c3 : (((((⟨#[61, 60, 62, 42, 44, 40, 41]⟩ : ByteArray)[3]'(by decide)).toNat : Nat) : Int) == (s[k].toNat : Int)) = true := by rw [h]; decide
   clear htk hsg h
   go_enter Try.func51, Try.ntmps51
   go_wp2_with fail
   refine (HL0.out).mono ?_
   rintro e w1 ⟨rfl, rfl⟩
   go_wp2_with fail
   refine (HD0.out).mono ?_
   rintro e w1 ⟨rfl, rfl⟩
   go_wp2_with fail
   refine wp_loop_rounds 4 ?_
   rw [rounds_succ]
   go_wp2_with fail
   rw [rounds_succ]
   go_wp2_with fail
   rw [rounds_succ]
   go_wp2_with fail
   rw [rounds_succ]
   go_wp2_with fail
   go_ret3
   exact ⟨⟨4, P, by rw [HTk.out]; rfl, fun _ => by rw [HTk.out]; exact ⟨rfl, HPe.out⟩⟩, grown_reflX _ _⟩
  ·have htk := KT.out 0 (by rw [hsg, h]; rfl)
   have HTk := Lib.hid htk
   have c0 : (((((⟨#[61, 60, 62, 42, 44, 40, 41]⟩ : ByteArray)[0]'(by decide)).toNat : Nat) : Int) == (s[k].toNat : Int)) = false := by rw [h]; decide
   have c1 : (((((⟨#[61, 60, 62, 42, 44, 40, 41]⟩ : ByteArray)[1]'(by decide)).toNat : Nat) : Int) == (s[k].toNat : Int)) = false := by rw [h]; decide
   have c2 : (((((⟨#[61, 60, 62, 42, 44, 40, 41]⟩ : ByteArray)[2]'(by decide)).toNat : Nat) : Int) == (s[k].toNat : Int)) = false := by rw [h]; decide
   have c3 : (((((⟨#[61, 60, 62, 42, 44, 40, 41]⟩ : ByteArray)[3]'(by decide)).toNat : Nat) : Int) == (s[k].toNat : Int)) = false := by rw [h]; decide
   have c4 : (((((⟨#[61, 60, 62, 42, 44, 40, 41]⟩ : ByteArray)[4]'(by decide)).toNat : Nat) : Int) == (s[k].toNat : Int)) = true := by rw [h]; decide
   clear htk hsg h
   go_enter Try.func51, Try.ntmps51
   go_wp2_with fail
   refine (HL0.out).mono ?_
   rintro e w1 ⟨rfl, rfl⟩
   go_wp2_with fail
   refine (HD0.out).mono ?_
   rintro e w1 ⟨rfl, rfl⟩
   go_wp2_with fail
   refine wp_loop_rounds 5 ?_
   rw [rounds_succ]
   go_wp2_with fail
   rw [rounds_succ]
   go_wp2_with fail
   rw [rounds_succ]
   go_wp2_with fail
   rw [rounds_succ]
   go_wp2_with fail
   rw [rounds_succ]
   go_wp2_with fail
   go_ret3
   exact ⟨⟨4, P, by rw [HTk.out]; rfl, fun _ => by rw [HTk.out]; exact ⟨rfl, HPe.out⟩⟩, grown_reflX _ _⟩
  ·have htk := KT.out 0 (by rw [hsg, h]; rfl)
   have HTk := Lib.hid htk
   have c0 : (((((⟨#[61, 60, 62, 42, 44, 40, 41]⟩ : ByteArray)[0]'(by decide)).toNat : Nat) : Int) == (s[k].toNat : Int)) = false := by rw [h]; decide
   have c1 : (((((⟨#[61, 60, 62, 42, 44, 40, 41]⟩ : ByteArray)[1]'(by decide)).toNat : Nat) : Int) == (s[k].toNat : Int)) = false := by rw [h]; decide
   have c2 : (((((⟨#[61, 60, 62, 42, 44, 40, 41]⟩ : ByteArray)[2]'(by decide)).toNat : Nat) : Int) == (s[k].toNat : Int)) = false := by rw [h]; decide
   have c3 : (((((⟨#[61, 60, 62, 42, 44, 40, 41]⟩ : ByteArray)[3]'(by decide)).toNat : Nat) : Int) == (s[k].toNat : Int)) = false := by rw [h]; decide
   have c4 : (((((⟨#[61, 60, 62, 42, 44, 40, 41]⟩ : ByteArray)[4]'(by decide)).toNat : Nat) : Int) == (s[k].toNat : Int)) = false := by rw [h]; decide
   have c5 : (((((⟨#[61, 60, 62, 42, 44, 40, 41]⟩ : ByteArray)[5]'(by decide)).toNat : Nat) : Int) == (s[k].toNat : Int)) = true := by rw [h]; decide
   clear htk hsg h
   go_enter Try.func51, Try.ntmps51
   go_wp2_with fail
   refine (HL0.out).mono ?_
   rintro e w1 ⟨rfl, rfl⟩
   go_wp2_with fail
   refine (HD0.out).mono ?_
   rintro e w1 ⟨rfl, rfl⟩
   go_wp2_with fail
   refine wp_loop_rounds 6 ?_
   rw [rounds_succ]
   go_wp2_with fail
   rw [rounds_succ]
   go_wp2_with fail
   rw [rounds_succ]
   go_wp2_with fail
   rw [rounds_succ]
   go_wp2_with fail
   rw [rounds_succ]
   go_wp2_with fail
   rw [rounds_succ]
   go_wp2_with fail
   go_ret3
   exact ⟨⟨4, P, by rw [HTk.out]; rfl, fun _ => by rw [HTk.out]; exact ⟨rfl, HPe.out⟩⟩, grown_reflX _ _⟩
  ·have htk := KT.out 0 (by rw [hsg, h]; rfl)
   have HTk := Lib.hid htk
   have c0 : (((((⟨#[61, 60, 62, 42, 44, 40, 41]⟩ : ByteArray)[0]'(by decide)).toNat : Nat) : Int) == (s[k].toNat : Int)) = false := by rw [h]; decide
   have c1 : (((((⟨#[61, 60, 62, 42, 44, 40, 41]⟩ : ByteArray)[1]'(by decide)).toNat : Nat) : Int) == (s[k].toNat : Int)) = false := by rw [h]; decide
   have c2 : (((((⟨#[61, 60, 62, 42, 44, 40, 41]⟩ : ByteArray)[2]'(by decide)).toNat : Nat) : Int) == (s[k].toNat : Int)) = false := by rw [h]; decide
   have c3 : (((((⟨#[61, 60, 62, 42, 44, 40, 41]⟩ : ByteArray)[3]'(by decide)).toNat : Nat) : Int) == (s[k].toNat : Int)) = false := by rw [h]; decide
   have c4 : (((((⟨#[61, 60, 62, 42, 44, 40, 41]⟩ : ByteArray)[4]'(by decide)).toNat : Nat) : Int) == (s[k].toNat : Int)) = false := by rw [h]; decide
   have c5 : (((((⟨#[61, 60, 62, 42, 44, 40, 41]⟩ : ByteArray)[5]'(by decide)).toNat : Nat) : Int) == (s[k].toNat : Int)) = false := by rw [h]; decide
   have c6 : (((((⟨#[61, 60, 62, 42, 44, 40, 41]⟩ : ByteArray)[6]'(by decide)).toNat : Nat) : Int) == (s[k].toNat : Int)) = true := by rw [h]; decide
   clear htk hsg h
   go_enter Try.func51, Try.ntmps51
   go_wp2_with fail
   refine (HL0.out).mono ?_
   rintro e w1 ⟨rfl, rfl⟩
   go_wp2_with fail
   refine (HD0.out).mono ?_
   rintro e w1 ⟨rfl, rfl⟩
   go_wp2_with fail
   refine wp_loop_rounds 7 ?_
   rw [rounds_succ]
   go_wp2_with fail
   rw [rounds_succ]
   go_wp2_with fail
   rw [rounds_succ]
   go_wp2_with fail
   rw [rounds_succ]
   go_wp2_with fail
   rw [rounds_succ]
   go_wp2_with fail
   rw [rounds_succ]
   go_wp2_with fail
   rw [rounds_succ]
   go_wp2_with fail
   go_ret3
   exact ⟨⟨4, P, by rw [HTk.out]; rfl, fun _ => by rw [HTk.out]; exact ⟨rfl, HPe.out⟩⟩, grown_reflX _ _⟩
  ·have htk := K0.out (by rw [hsg, h]; rfl)
   have HTk := Lib.hid htk
   have c0 : (((((⟨#[61, 60, 62, 42, 44, 40, 41]⟩ : ByteArray)[0]'(by decide)).toNat : Nat) : Int) == (s[k].toNat : Int)) = false := one_ne s[k] 61 (by decide) (fun h5 => by rw [h5] at h; exact absurd h (by decide))
   have c1 : (((((⟨#[61, 60, 62, 42, 44, 40, 41]⟩ : ByteArray)[1]'(by decide)).toNat : Nat) : Int) == (s[k].toNat : Int)) = false := one_ne s[k] 60 (by decide) (fun h5 => by rw [h5] at h; exact absurd h (by decide))
   have c2 : (((((⟨#[61, 60, 62, 42, 44, 40, 41]⟩ : ByteArray)[2]'(by decide)).toNat : Nat) : Int) == (s[k].toNat : Int)) = false := one_ne s[k] 62 (by decide) (fun h5 => by rw [h5] at h; exact absurd h (by decide))
   have c3 : (((((⟨#[61, 60, 62, 42, 44, 40, 41]⟩ : ByteArray)[3]'(by decide)).toNat : Nat) : Int) == (s[k].toNat : Int)) = false := one_ne s[k] 42 (by decide) (fun h5 => by rw [h5] at h; exact absurd h (by decide))
   have c4 : (((((⟨#[61, 60, 62, 42, 44, 40, 41]⟩ : ByteArray)[4]'(by decide)).toNat : Nat) : Int) == (s[k].toNat : Int)) = false := one_ne s[k] 44 (by decide) (fun h5 => by rw [h5] at h; exact absurd h (by decide))
   have c5 : (((((⟨#[61, 60, 62, 42, 44, 40, 41]⟩ : ByteArray)[5]'(by decide)).toNat : Nat) : Int) == (s[k].toNat : Int)) = false := one_ne s[k] 40 (by decide) (fun h5 => by rw [h5] at h; exact absurd h (by decide))
   have c6 : (((((⟨#[61, 60, 62, 42, 44, 40, 41]⟩ : ByteArray)[6]'(by decide)).toNat : Nat) : Int) == (s[k].toNat : Int)) = false := one_ne s[k] 41 (by decide) (fun h5 => by rw [h5] at h; exact absurd h (by decide))
   clear htk hsg h
   go_enter Try.func51, Try.ntmps51
   go_wp2_with fail
   refine (HL0.out).mono ?_
   rintro e w1 ⟨rfl, rfl⟩
   go_wp2_with fail
   refine (HD0.out).mono ?_
   rintro e w1 ⟨rfl, rfl⟩
   go_wp2_with fail
   refine wp_loop_rounds 8 ?_
   rw [rounds_succ]
   go_wp2_with fail
   rw [rounds_succ]
   go_wp2_with fail
   rw [rounds_succ]
   go_wp2_with fail
   rw [rounds_succ]
   go_wp2_with fail
   rw [rounds_succ]
   go_wp2_with fail
   rw [rounds_succ]
   go_wp2_with fail
   rw [rounds_succ]
   go_wp2_with fail
   rw [rounds_succ]
   go_wp2_with fail
   go_ret3
   exact ⟨⟨0, 0, by rw [HTk.out]; rfl, fun hh => by rw [HTk.out] at hh; simp at hh⟩, grown_reflX _ _⟩
end Go.Proofs.Ytfambadamebjjaa
namespace Go.Proofs.Ytfambadamebjjaa
open Go.RowKit
theorem grown_anyD {w w' : World} (h : w.grownBy w' none) (row : Option Nat) : w.grownBy w' row := ⟨h.os, h.tape, h.output, h.size, fun i hi _ => h.block i hi (by simp)⟩
theorem blkR {w w' : World} {g r : Nat} {x : Obj} (h : w.heap[g]? = some x) (hg : w.grownBy w' (some r)) (hne : g ≠ r) : w'.heap[g]? = some x :=
 (hg.block g (Array.getElem?_eq_some_iff.1 h).1 (fun e => hne (by cases e; rfl))).trans h
theorem grownD5 (w : World) (g : Nat) (u0 u1 u2 u3 u4 : Value) : w.grownBy (((((w.setCell ⟨g, 0, none⟩ u0).setCell ⟨g, 1, none⟩ u1).setCell ⟨g, 2, none⟩ u2).setCell ⟨g, 3, none⟩ u3).setCell ⟨g, 4, none⟩ u4) (some g) :=
 ((((gq_cellR w g 0 u0).trans (gq_cellR _ g 1 u1)).trans (gq_cellR _ g 2 u2)).trans (gq_cellR _ g 3 u3)).trans (gq_cellR _ g 4 u4)
set_option maxRecDepth 100000 in
theorem rname_any (b o n k : Nat) (T : List Tk) (s : RS) (w : World) (h : TkE b o n k T w) (i d c a : Nat) (hs : SR n T s i c a) :
  Calls Try.prog 35 #[.agg #[.slice (some ⟨b, o, none⟩) n k, .int .i64 i, .int .i64 d, .int .i64 c, .int .i64 a]] w fun e w' => (∃ i' c' a' : Nat, e = .returned (.tuple #[.agg #[.slice (some ⟨b, o, none⟩) n k, .int .i64 i', .int .i64 d, .int .i64 c', .int .i64 a'], .string s.name.2]) ∧ SR n T s.name.1 i' c' a') ∧ w.grownBy w' none := by
 have HN := Lib.hid (fun W (hW : w.grownBy W none) => rnow_any b o n k T W (h.keep hW) i d c a hs.lt)
 have HF := Lib.hid (fun W (hW : w.grownBy W none) => rfail_any b o n k T s W (h.keep hW) i d c a 11 hs (by decide))
 have A1 := Lib.hid (alc2a w (.cells #[.slice (some ⟨b, o, none⟩) n k, .int .i64 i, .int .i64 d, .int .i64 c, .int .i64 a] 81) (.cells #[.slice none 0 0, .int .i64 0, .int .i64 0, .int .i64 0, .int .i64 0] 81))
 have R1 := Lib.hid (alc2b w (.cells #[.slice (some ⟨b, o, none⟩) n k, .int .i64 i, .int .i64 d, .int .i64 c, .int .i64 a] 81) (.cells #[.slice none 0 0, .int .i64 0, .int .i64 0, .int .i64 0, .int .i64 0] 81))
 have G1 := Lib.hid (gq_al (gq_al (grown_reflT w none) (.cells #[.slice (some ⟨b, o, none⟩) n k, .int .i64 i, .int .i64 d, .int .i64 c, .int .i64 a] 81)) (.cells #[.slice none 0 0, .int .i64 0, .int .i64 0, .int .i64 0, .int .i64 0] 81))
 by_cases hc : c = 0
 ·have hs0 := hs
  subst hc
  have ha : a = 0 := hs.or.elim (fun ⟨_, _, e, _⟩ => e) (fun ⟨_, e, _⟩ => absurd rfl e)
  subst ha
  have hd := hs.hd
  by_cases h1 : (tkA T i).kind = 1
  ·have hm : s.more := .inl (by rw [hd, h1]; decide)
   have HS := Lib.hid (hs.pass hm)
   have HP := Lib.hid (fun W (hW : w.grownBy W none) => rstep_any b o n k T s W (h.keep hW) i d 0 hs (by rw [h1]; decide))
   have HE1 : Hid (s.name.1 = s.pass) := Lib.hid (by unfold RS.name RS.named; rw [hd, h1]; rfl)
   have HE2 : s.name.2 = (tkA T i).text := by unfold RS.name RS.named; rw [hd, h1]; rfl
   rw [HE2]
   clear h hs hs0 hm hd HE2
   simp only [show ((0 : Nat) : Int) = 0 from rfl] at *
   generalize tkA T i = tk at *
   obtain ⟨kd, tx, ps⟩ := tk
   simp only at *
   subst h1
   obtain ⟨kd, hkd⟩ : ∃ kd : Int, kd = ((1 : Nat) : Int) := ⟨_, rfl⟩
   rw [← hkd] at HN
   have k1 : (kd != 1) = false := by rw [hkd]; rfl
   clear hkd
   go_enter Try.func35, Try.ntmps35
   go_wp2_with fail
   refine (HN.out _ G1.out).mono ?_
   rintro e w2 ⟨rfl, hg⟩
   have R2 := Lib.hid (blkD hg R1.out)
   obtain ⟨⟨r0, r1, r2, r3, r4⟩, q0, q1, q2, q3, q4⟩ := boxD5 R2.out
   have A2 := Lib.hid (blkD hg A1.out)
   have G2 := Lib.hid (G1.out.trans hg)
   obtain ⟨⟨c0, c1, c2, c3, c4⟩, f0, f1, f2, f3, f4⟩ := boxD5 A2.out
   clear hg
   have t1 := fieldD0 (.int .i64 kd) (.string tx) (.int .i64 ps) w2
   go_upto_region 3 with fail
   clear r0 r1 r2 r3 r4 q0 q1 q2 q3 q4 c0 c1 c2 c3 c4 f0 f1 f2 f3 f4 t1
   refine wp_region_held_drew (S := (fun W => Hid (w2.grownBy W (some (w.heap.size + 1))))) (by kernel_rfl) (Lib.hid (grown_drewT (grown_reflX _ _))) (fun hHeld => ?_)
   refine TKB (i := 0) (v := ?vaz) rfl ?yaz ?raz
   case yaz => (intro w hSw; obtain ⟨⟨c0, c1, c2, c3, c4⟩, f0, f1, f2, f3, f4⟩ := boxD5 (blkR A2.out hSw.out (by simp)); clear hSw; go_simp; try with_reducible rfl)
   simp only [Act.put, List.getElem_toArray, List.getElem_cons_succ, List.getElem_cons_zero, List.size_toArray, List.length_cons, List.length_nil, Nat.reduceAdd, Array.replicate, List.replicate, List.setIfInBounds_toArray, List.set_cons_zero, List.set_cons_succ]
   refine TKB (i := 2) (v := ?vbz) rfl ?ybz ?rbz
   case ybz => (intro w hSw; obtain ⟨⟨c0, c1, c2, c3, c4⟩, f0, f1, f2, f3, f4⟩ := boxD5 (blkR A2.out hSw.out (by simp)); clear hSw; go_simp; try with_reducible rfl)
   simp only [Act.put, List.getElem_toArray, List.getElem_cons_succ, List.getElem_cons_zero, List.size_toArray, List.length_cons, List.length_nil, Nat.reduceAdd, Array.replicate, List.replicate, List.setIfInBounds_toArray, List.set_cons_zero, List.set_cons_succ]
   refine RD1 (i := 1) rfl (fun K' hK => ?_)
   go_simp
   go_at_call 33
   refine (HP.out _ (gq_dr G2.out)).mono ?_
   rintro e w5 ⟨rfl, hg⟩
   have Z5 : Hid (w2.grownBy w5 (some (w.heap.size + 1))) := Lib.hid ((grown_drewT (grown_reflX _ _)).trans (grown_anyD hg _))
   have G5 := Lib.hid ((gq_dr G2.out).trans hg)
   have R5 := Lib.hid (blkD (w := w2.drew) hg R2.out)
   clear hg
   refine hK.out _ _ Z5 (fun hHeld => ?_)
   clear hK K'
   simp only [Act.put, List.getElem_toArray, List.getElem_cons_succ, List.getElem_cons_zero, List.size_toArray, List.length_cons, List.length_nil, Nat.reduceAdd, Array.replicate, List.replicate, List.setIfInBounds_toArray, List.set_cons_zero, List.set_cons_succ]
   refine RD1 (i := 3) rfl (fun K' hK => ?_)
   go_simp
   go_at_call 38
   refine (HN.out _ G5.out).mono ?_
   rintro e w6 ⟨rfl, hg⟩
   have Z6 : Hid (w2.grownBy w6 (some (w.heap.size + 1))) := Lib.hid (Z5.out.trans (grown_anyD hg _))
   have G6 := Lib.hid (G5.out.trans hg)
   have R6 := Lib.hid (blkD hg R5.out)
   obtain ⟨⟨r0, r1, r2, r3, r4⟩, q0, q1, q2, q3, q4⟩ := boxD5 R6.out
   clear hg
   refine hK.out _ _ Z6 (fun hHeld => ?_)
   clear hK K'
   simp only [Act.put, List.getElem_toArray, List.getElem_cons_succ, List.getElem_cons_zero, List.size_toArray, List.length_cons, List.length_nil, Nat.reduceAdd, Array.replicate, List.replicate, List.setIfInBounds_toArray, List.set_cons_zero, List.set_cons_succ]
   refine TKB (i := 4) (v := ?vcz) rfl ?ycz ?rcz
   case ycz => (intro w hSw; have t1 := fieldD1 (.int .i64 kd) (.string tx) (.int .i64 ps) w; clear hSw; go_simp; try with_reducible rfl)
   simp only [Act.put, List.getElem_toArray, List.getElem_cons_succ, List.getElem_cons_zero, List.size_toArray, List.length_cons, List.length_nil, Nat.reduceAdd, Array.replicate, List.replicate, List.setIfInBounds_toArray, List.set_cons_zero, List.set_cons_succ]
   refine RD1 (i := 5) rfl (fun K' hK => ?_)
   go_simp
   have Z7 := Lib.hid (Z6.out.trans (grownD5 w6 (w.heap.size + 1) (.slice (some ⟨b, o, none⟩) n k) (.int .i64 ((i + 1 : Nat) : Int)) (.int .i64 d) (.int .i64 0) (.int .i64 0)))
   refine hK.out _ _ Z7 (fun hHeld => ?_)
   clear hK K'
   simp only [Act.put, List.getElem_toArray, List.getElem_cons_succ, List.getElem_cons_zero, List.size_toArray, List.length_cons, List.length_nil, Nat.reduceAdd, Array.replicate, List.replicate, List.setIfInBounds_toArray, List.set_cons_zero, List.set_cons_succ]
   refine TKB (i := 6) (v := ?vdz) rfl ?ydz ?rdz
   case ydz => (intro w hSw; (try dsimp only at hSw); go_simp; try with_reducible rfl)
   simp only [Act.put, List.getElem_toArray, List.getElem_cons_succ, List.getElem_cons_zero, List.size_toArray, List.length_cons, List.length_nil, Nat.reduceAdd, Array.replicate, List.replicate, List.setIfInBounds_toArray, List.set_cons_zero, List.set_cons_succ]
   refine wpAnyH_done (by kernel_rfl) ?_ _
   go_wp2_with fail
   exact bodyPost_ret (res_ct rfl _ _ (w.heap.size + 1) _ rfl (setD5 (by repeat (first | with_reducible exact R6.out | refine blk_ne ?_ (by simp <;> omega)))) rfl) rfl ⟨⟨i + 1, 0, 0, rfl, by rw [HE1.out]; exact HS.out⟩, grown_thenX G6.out (grownD5 w6 (w.heap.size + 1) _ _ _ _ _) (fun j e => by cases e; exact Nat.le_succ _)⟩
  ·have HE : Hid (s.name.1 = s.wrong 11) := Lib.hid (by unfold RS.name RS.named; rw [hd, decide_eq_false h1]; rfl)
   have HE2 : s.name.2 = ⟨#[]⟩ := by unfold RS.name RS.named; rw [hd, decide_eq_false h1]; rfl
   rw [HE2]
   clear h hs hs0 hd HE2
   simp only [show ((0 : Nat) : Int) = 0 from rfl] at *
   generalize tkA T i = tk at *
   obtain ⟨kd, tx, ps⟩ := tk
   simp only at *
   have k1 : ((kd : Int) != 1) = true := by
    have : (kd : Int) ≠ 1 := by omega
    simpa using this
   clear h1
   go_enter Try.func35, Try.ntmps35
   go_wp2_with fail
   refine (HN.out _ G1.out).mono ?_
   rintro e w2 ⟨rfl, hg⟩
   have R2 := Lib.hid (blkD hg R1.out)
   obtain ⟨⟨r0, r1, r2, r3, r4⟩, q0, q1, q2, q3, q4⟩ := boxD5 R2.out
   have A2 := Lib.hid (blkD hg A1.out)
   have G2 := Lib.hid (G1.out.trans hg)
   obtain ⟨⟨c0, c1, c2, c3, c4⟩, f0, f1, f2, f3, f4⟩ := boxD5 A2.out
   clear hg
   have t1 := fieldD0 (.int .i64 kd) (.string tx) (.int .i64 ps) w2
   go_wp2_with fail
   refine (HF.out _ G2.out).mono ?_
   rintro e w3 ⟨⟨c', a', rfl, hS⟩, hg⟩
   have HS := Lib.hid hS
   have R3 := Lib.hid (blkD hg R2.out)
   obtain ⟨⟨r0, r1, r2, r3, r4⟩, q0, q1, q2, q3, q4⟩ := boxD5 R3.out
   have A3 := Lib.hid (blkD hg A2.out)
   have G3 := Lib.hid (G2.out.trans hg)
   obtain ⟨⟨c0, c1, c2, c3, c4⟩, f0, f1, f2, f3, f4⟩ := boxD5 A3.out
   clear hg
   clear hS
   go_wp2_with fail
   exact bodyPost_ret (res_ct rfl _ _ (w.heap.size + 1) _ rfl (setD5 (by repeat (first | with_reducible exact R3.out | refine blk_ne ?_ (by simp <;> omega)))) rfl) rfl ⟨⟨i, c', a', rfl, by rw [HE.out]; exact HS.out⟩, (by repeat (first | with_reducible exact G3.out | with_reducible exact grown_reflT _ _ | with_reducible refine gq_set ?_ _ _ ?_ | with_reducible refine gq_al ?_ _ | with_reducible refine gq_row ?_ _ ?_ | with_reducible refine gq_dr ?_ | (simp; done) | (simp; omega) | omega))⟩
 ·have hb := (hs.bad hc).2.1
  have HE : Hid (s.name.1 = s.wrong 11) := Lib.hid (by unfold RS.name RS.named; rw [hb]; rfl)
  have HE2 : s.name.2 = ⟨#[]⟩ := by unfold RS.name RS.named; rw [hb]; rfl
  rw [HE2]
  have k0 : ((c : Int) != 0) = true := by
   have : (c : Int) ≠ 0 := by omega
   simpa using this
  clear h hs hb HE2 hc
  obtain ⟨⟨r0, r1, r2, r3, r4⟩, q0, q1, q2, q3, q4⟩ := boxD5 R1.out
  obtain ⟨⟨c0, c1, c2, c3, c4⟩, f0, f1, f2, f3, f4⟩ := boxD5 A1.out
  go_enter Try.func35, Try.ntmps35
  go_wp2_with fail
  refine (HF.out _ G1.out).mono ?_
  rintro e w3 ⟨⟨c', a', rfl, hS⟩, hg⟩
  have HS := Lib.hid hS
  have R3 := Lib.hid (blkD hg R1.out)
  obtain ⟨⟨r0, r1, r2, r3, r4⟩, q0, q1, q2, q3, q4⟩ := boxD5 R3.out
  have A3 := Lib.hid (blkD hg A1.out)
  have G3 := Lib.hid (G1.out.trans hg)
  obtain ⟨⟨c0, c1, c2, c3, c4⟩, f0, f1, f2, f3, f4⟩ := boxD5 A3.out
  clear hg
  clear hS
  go_wp2_with fail
  exact bodyPost_ret (res_ct rfl _ _ (w.heap.size + 1) _ rfl (setD5 (by repeat (first | with_reducible exact R3.out | refine blk_ne ?_ (by simp <;> omega)))) rfl) rfl ⟨⟨i, c', a', rfl, by rw [HE.out]; exact HS.out⟩, (by repeat (first | with_reducible exact G3.out | with_reducible exact grown_reflT _ _ | with_reducible refine gq_set ?_ _ _ ?_ | with_reducible refine gq_al ?_ _ | with_reducible refine gq_row ?_ _ ?_ | with_reducible refine gq_dr ?_ | (simp; done) | (simp; omega) | omega))⟩
end Go.Proofs.Ytfambadamebjjaa
namespace Go.Proofs.Ytfambadamebjjaa
open Go.RowKit

end Go.Proofs.Ytfambadamebjjaa
namespace Go.Proofs.Ytfambadamebjjaa
open Go.RowKit

theorem refToken_any (s : ByteArray) (k : Nat) (w : World) (hk : k < s.size) (hs : s.size ≤ 1510) :
  Calls Try.prog 51 #[.string s, .int .i64 k] w (RefTok k (tokL (s.data.toList.drop k)) w) := by
 cases hl : letrB s[k]
 ·cases hd : digB s[k]
  ·by_cases h45 : s[k] = 45
   ·exact refTok_num s k w hk hs hl (.inr h45)
   ·by_cases h39 : s[k] = 39
    ·exact refTok_quote s k w hk hs h39
    ·exact refTok_sign s k w hk hs hl hd h45 h39
  ·exact refTok_num s k w hk hs hl (.inl hd)
 ·exact refTok_let s k w hk hs hl
theorem runL_stop (f : UInt8 → Bool) : ∀ l : List UInt8, runL f l < l.length → f (l.getD (runL f l) 0) = false
 | [], h => by simp at h
 | c :: r, h => by
  by_cases hc : f c = true
  ·have e : runL f (c :: r) = runL f r + 1 := by rw [runL, hc]; rfl
   rw [e] at h ⊢
   have := runL_stop f r (by simpa using h)
   simpa using this
  ·have hc' : f c = false := by simpa using hc
   have e : runL f (c :: r) = 0 := by rw [runL, hc']; rfl
   rw [e]; simpa using hc'
theorem nxt_stop (s : ByteArray) (k : Nat) (hk : k ≤ s.size) (h : nxt s k < s.size) : blankB s[nxt s k] = false := by
 have hz : s.data.toList.length = s.size := by rw [Array.length_toList]; rfl
 have := runL_stop blankB (s.data.toList.drop k) (by rw [List.length_drop, hz]; unfold nxt at h; omega)
 rw [List.getD, List.getElem?_drop] at this
 have h2 := byte_at h
 rw [List.getD] at h2
 rw [← h2]
 exact this
theorem blk_nxtR (s : ByteArray) (k j : Nat) (h1 : k ≤ j) (h2 : j < nxt s k) : blankB (s.data.toList.getD j 0) = true := blk_nxt s k j h1 h2
theorem blank_not {c : UInt8} (h : blankB c = false) : c.toNat ≠ 32 ∧ c.toNat ≠ 9 ∧ c.toNat ≠ 10 ∧ c.toNat ≠ 13 := by
 unfold blankB at h
 simp at h
 omega
theorem blank_ofR {c : UInt8} (h : blankB c = true) : c.toNat = 32 ∨ c.toNat = 9 ∨ c.toNat = 10 ∨ c.toNat = 13 := by
 unfold blankB at h
 simp at h
 omega
set_option maxRecDepth 100000 in
set_option maxHeartbeats 6400000 in
theorem refLex_any (s : ByteArray) (w : World) (hsz : s.size ≤ 1510) :
  Calls Try.prog 30 #[.string s] w (LexIs (lexL s) w) := by
 by_cases hbig : 1500 < s.size
 ·have hL : lexL s = .error (1500, 13) := by unfold lexL; rw [if_pos hbig]
  rw [hL]
  have hb : (1500 : Int) < s.size := by omega
  clear hL hbig
  go_enter Try.func30, Try.ntmps30
  go_wp2_with fail
  go_ret3
  exact .inl ⟨1500, 13, rfl, rfl, grown_reflX _ _⟩
 ·have hL : lexL s = lexF s (s.size + 1) 0 [] := by unfold lexL; rw [if_neg hbig]
  rw [hL]
  have hb : (s.size : Int) ≤ 1500 := by omega
  obtain ⟨r, hr⟩ : ∃ r, r = lexF s (s.size + 1) 0 [] := ⟨_, rfl⟩
  rw [← hr]
  have HR := Lib.hid hr
  clear hL hbig hr
  obtain ⟨i0, hi, hz0, hz1, hz2⟩ := info_partsX tk_info
  go_enter Try.func30, Try.ntmps30
  go_wp2_with fail
  go_loopw [5, 6, 9] (fun v a c wr => ∃ (k f : Nat) (acc : List Tk) (N : Nat), a = .int .i64 k ∧ k ≤ s.size ∧ s.size - k < f ∧ N ≤ 250 ∧ Hid (N = acc.length) ∧ Hid (r = lexF s f k acc) ∧ Hid (wr.ownsRow w.heap.size 94 3 v N (acc.flatMap Tk.c)) ∧ Hid (w.grownBy wr none)) (fun _ a _ _ => s.size - (intOf a).toNat)
  case atStart => exact ⟨0, s.size + 1, [], 0, rfl, by omega, by omega, by omega, Lib.hid rfl, Lib.hid HR.out, Lib.hid ⟨rfl, .inl ⟨rfl, rfl⟩⟩, Lib.hid (grown_reflX _ _)⟩
  case round =>
   obtain ⟨k, f, acc, N, rfl, hk, hf, hN, HN, HRr, HO, GW⟩ := hrel
   obtain ⟨ao, cp, rfl⟩ := slice_of_ownX HO.out
   obtain ⟨f, rfl⟩ : ∃ f', f = f' + 1 := ⟨f - 1, by omega⟩
   have hq := nxt_le s k hk
   have hrd := lexF_round s f k acc
   have HRd := Lib.hid hrd
   have HBk := Lib.hid (blk_nxtR s k)
   have HSt := Lib.hid (nxt_stop s k hk)
   have HTk := Lib.hid (fun h W => refToken_any s (nxt s k) W h hsz)
   have HMt := Lib.hid (fun kd M (h : tokL (s.data.toList.drop (nxt s k)) = (kd, M, 0)) => tokL_len _ _ _ _ h)
   have hro := HO.out.lt
   obtain ⟨q, hqe⟩ : ∃ q, q = nxt s k := ⟨_, rfl⟩
   have HQe := Lib.hid hqe
   rw [← hqe] at hq
   clear hrd hqe
   have k0 : (0 : Int) ≤ k := by omega
   have q1 : (q : Int) ≤ s.size := by omega
   go_wp2_with fail
   go_loop [6] (fun a => ∃ j : Nat, a = .int .i64 j ∧ k ≤ j ∧ j ≤ q) (fun a => q - (intOf a).toNat)
   case atStart => exact ⟨k, rfl, by omega, hq.1⟩
   case round =>
    obtain ⟨j, rfl, hj1, hj2⟩ := hrel
    have j0 : (0 : Int) ≤ j := by omega
    by_cases hjq : j < q
    ·have hjs : j < s.size := by omega
     have j1 : (j : Int) < s.size := by omega
     have hbl := HBk.out j hj1 (by rw [← HQe.out]; exact hjq)
     rw [byte_at hjs] at hbl
     rcases blank_ofR hbl with h | h | h | h
     ·have u0 : ((s[j].toNat : Int) == 32) = true := beq_iff_eq.2 (by omega)
      clear h hbl
      go_wp2_with fail
      go_round
      case rel => exact ⟨j + 1, by go_num, by omega, by omega⟩
      case measure => simp [intOf]; omega
     ·have u0 : ((s[j].toNat : Int) == 9) = true := beq_iff_eq.2 (by omega)
      have u1 : ((s[j].toNat : Int) == 32) = false := beq_eq_false_iff_ne.2 (by omega)
      clear h hbl
      go_wp2_with fail
      go_round
      case rel => exact ⟨j + 1, by go_num, by omega, by omega⟩
      case measure => simp [intOf]; omega
     ·have u0 : ((s[j].toNat : Int) == 10) = true := beq_iff_eq.2 (by omega)
      have u1 : ((s[j].toNat : Int) == 32) = false := beq_eq_false_iff_ne.2 (by omega)
      have u2 : ((s[j].toNat : Int) == 9) = false := beq_eq_false_iff_ne.2 (by omega)
      clear h hbl
      go_wp2_with fail
      go_round
      case rel => exact ⟨j + 1, by go_num, by omega, by omega⟩
      case measure => simp [intOf]; omega
     ·have u0 : ((s[j].toNat : Int) == 13) = true := beq_iff_eq.2 (by omega)
      have u1 : ((s[j].toNat : Int) == 32) = false := beq_eq_false_iff_ne.2 (by omega)
      have u2 : ((s[j].toNat : Int) == 9) = false := beq_eq_false_iff_ne.2 (by omega)
      have u3 : ((s[j].toNat : Int) == 10) = false := beq_eq_false_iff_ne.2 (by omega)
      clear h hbl
      go_wp2_with fail
      go_round
      case rel => exact ⟨j + 1, by go_num, by omega, by omega⟩
      case measure => simp [intOf]; omega
    ·obtain rfl : j = q := by omega
     by_cases hend : j = s.size
     ·have hE := HRd.out.1 (by rw [← HQe.out]; exact hend)
      have HRR := Lib.hid (HRr.out.trans hE)
      subst hend
      clear hE hjq
      go_wp2_with (at_builtin; refine wpList_append_own _ rfl (.tmp 47) (.tmp 50) 77 rfl w.heap.size 94 i0 (.agg #[.int .i64 0, .string ⟨#[]⟩, .int .i64 0]) 3 32 Try.underlying77 hi hz0 hz1 hz2 rfl (by decide) _ _ _ rfl (HO.out.alloc _) ⟨wr.heap.size, 0, none⟩ 1 1 [.int .i64 0, .string ⟨#[]⟩, .int .i64 (s.size : Nat)] rfl rfl ?a1 ?a2 ?a3 ?a4 ?a5 ?_)
      all_goals try (intro j u h; exact three_new wr _ _ _ 94 j u h)
      case a2 => first | exact ⟨rfl, rfl, rfl⟩ | (intro u hu; simp at hu; rcases hu with rfl | rfl | rfl <;> rfl)
      case a3 => first | omega | (unfold maxLen; omega)
      case a4 => omega
      case a5 => have hg5 := GW.out.size; first | omega | (simp; omega)
      intro v' w3 hown' hgrow _
      have O3 := Lib.hid hown'
      have G3 := Lib.hid (grown_thenX (GW.out.trans (World.grownBy_alloc _ _ _)) hgrow (fun j hj => (hro j hj).1))
      clear hown' hgrow
      go_wp2_with fail
      go_ret3
      exact .inr ⟨_, _, HRR.out, rfl, own_tk O3.out HN.out rfl (Nat.le_refl _), G3.out⟩
     ·have hjs : j < s.size := by omega
      have j1 : (j : Int) < s.size := by omega
      have tz : ((j : Int) == (s.size : Int)) = false := beq_eq_false_iff_ne.2 (by omega)
      have hst := HSt.out (by rw [← HQe.out]; exact hjs)
      have hqs : blankB s[j] = false := by
       have e : s[j] = s[nxt s k]'(by rw [← HQe.out]; exact hjs) := by congr 1
       rw [e]; exact hst
      obtain ⟨n1, n2, n3, n4⟩ := blank_not hqs
      have t1 : ((s[j].toNat : Int) == 32) = false := beq_eq_false_iff_ne.2 (by omega)
      have t2 : ((s[j].toNat : Int) == 9) = false := beq_eq_false_iff_ne.2 (by omega)
      have t3 : ((s[j].toNat : Int) == 10) = false := beq_eq_false_iff_ne.2 (by omega)
      have t4 : ((s[j].toNat : Int) == 13) = false := beq_eq_false_iff_ne.2 (by omega)
      cases ht : tokL (s.data.toList.drop j) with | mk kd MC =>
      obtain ⟨M, c⟩ := MC
      have hTk : Hid (∀ W, Calls Try.prog 51 #[.string s, .int .i64 j] W (RefTok j (kd, M, c) W)) := Lib.hid fun W => by
       have := HTk.out (by rw [← HQe.out]; exact hjs) W
       rw [← HQe.out, ht] at this
       exact this
      have hrd2 := HRd.out.2 (by rw [← HQe.out]; omega) kd M c (by rw [← HQe.out]; exact ht)
      rw [← HQe.out] at hrd2
      have hM := fun h0 : c = 0 => HMt.out kd M (by rw [← HQe.out, ht, h0])
      rw [← HQe.out] at hM
      clear hst hqs n1 n2 n3 n4 ht HTk HSt HBk HMt HRd
      cases c with
      | succ c =>
       have HRR := Lib.hid (HRr.out.trans (hrd2.1 (by omega)))
       clear hrd2 hM
       go_wp2_with fail
       refine (hTk.out _).mono ?_
       rintro e w2 ⟨⟨ea, eb, rfl, _⟩, hg⟩
       have K2 := Lib.hid (GW.out.trans hg)
       have tc1 : (((c + 1 : Nat) : Int) == 0) = false := beq_eq_false_iff_ne.2 (by omega)
       have tc2 : (((c + 1 : Nat) : Int) != 0) = true := by rw [bne_iff_ne]; omega
       clear hg
       go_wp2_with fail
       go_ret3
       exact .inl ⟨j, c + 1, HRR.out, rfl, K2.out⟩
      | zero =>
       by_cases h250 : N = 250
       ·have HRR := Lib.hid (HRr.out.trans (hrd2.2.1 rfl (by rw [← HN.out]; exact h250)))
        have tN : (250 : Int) ≤ N := by omega
        clear hrd2 hM
        go_wp2_with fail
        refine (hTk.out _).mono ?_
        rintro e w2 ⟨⟨ea, eb, rfl, _⟩, hg⟩
        have K2 := Lib.hid (GW.out.trans hg)
        clear hg
        go_wp2_with fail
        go_ret3
        exact .inl ⟨j, 3, HRR.out, rfl, K2.out⟩
       ·have HRR := Lib.hid (HRr.out.trans (hrd2.2.2 rfl (by rw [← HN.out]; exact h250)))
        have tN : ¬ (250 : Int) ≤ N := by omega
        have hM3 := hM rfl
        rw [List.length_drop, Array.length_toList] at hM3
        have hszd : s.data.size = s.size := rfl
        have hM1 := hM3.2.1 (by first | rfl | trivial)
        have hM2 := hM3.1
        obtain ⟨P, hP⟩ : ∃ P, P = j + M := ⟨_, rfl⟩
        rw [← hP] at HRR
        have p1 : (P : Int) ≤ s.size := by omega
        have p2 : (j : Int) ≤ P := by omega
        have hN2 : N + 1 ≤ 250 := by omega
        have hp1 : P ≤ s.size := by omega
        have hf2 : s.size - P < f := by omega
        have hjP : k < P := by omega
        have HP := Lib.hid hP
        have hTz : Hid (∀ W, Calls Try.prog 51 #[.string s, .int .i64 j] W fun e w' => e = .returned (.tuple #[.int .i64 kd, .int .i64 (P : Nat), .int .i64 0]) ∧ W.grownBy w' none) := Lib.hid fun W => (hTk.out W).mono fun e w' ⟨⟨ea, eb, he, hab⟩, hg⟩ => by
         obtain ⟨h1, h2⟩ := hab rfl
         refine ⟨?_, hg⟩
         rw [he, h1, h2, ← HP.out]
         rfl
        clear hTk hrd2 hM hM3 hM1 hM2 h250 hszd hP
        go_wp2_with fail
        refine (hTz.out _).mono ?_
        rintro e w2 ⟨rfl, hg⟩
        have O2 := Lib.hid (HO.out.kept hg (by cases hv : (Value.slice ao N cp).ownBlock <;> simp))
        have K2 := Lib.hid (GW.out.trans hg)
        clear hg
        go_wp2_with (at_builtin; refine wpList_append_own _ rfl (.tmp 70) (.tmp 78) 77 rfl w.heap.size 94 i0 (.agg #[.int .i64 0, .string ⟨#[]⟩, .int .i64 0]) 3 32 Try.underlying77 hi hz0 hz1 hz2 rfl (by decide) _ _ _ rfl (O2.out.alloc _) ⟨w2.heap.size, 0, none⟩ 1 1 [.int .i64 kd, .string (s.extract j P), .int .i64 j] rfl rfl ?b1 ?b2 ?b3 ?b4 ?b5 ?_)
        case b1 => intro j u h; exact three_new w2 _ _ _ 94 j u h
        case b2 => intro u hu; simp at hu; rcases hu with rfl | rfl | rfl <;> rfl
        case b3 => unfold maxLen; omega
        case b4 => omega
        case b5 => have := K2.out.size; simp; omega
        intro v' w3 hown' hgrow _
        have O3 := Lib.hid hown'
        have G3 := Lib.hid (grown_thenX (K2.out.trans (World.grownBy_alloc _ _ _)) hgrow (fun j hj => (hro j hj).1))
        clear hown' hgrow
        go_wp2_with fail
        go_roundw
        case rel => exact ⟨P, f, acc ++ [⟨kd, s.extract j P, j⟩], N + 1, rfl, hp1, hf2, hN2, Lib.hid (by rw [List.length_append, ← HN.out]; rfl), HRR, Lib.hid (by rw [tk_snoc]; exact O3.out), G3⟩
        case measure => simp [intOf]; omega
end Go.Proofs.Ytfambadamebjjaa
namespace Go.Proofs.Ytfambadamebjjaa
open Go.RowKit

end Go.Proofs.Ytfambadamebjjaa
namespace Go.Proofs.Ytfambadamebjjaa
open Go.RowKit

end Go.Proofs.Ytfambadamebjjaa
namespace Go.Proofs.Ytfambadamebjjaa
open Go.RowKit
end Go.Proofs.Ytfambadamebjjaa
