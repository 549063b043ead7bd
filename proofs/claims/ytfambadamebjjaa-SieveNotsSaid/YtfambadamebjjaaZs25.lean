import Derived.Test.YtfambadamebjjaaZs22
import Derived.Test.YtfambadamebjjaaZs23
import Derived.Test.YtfambadamebjjaaZs18
import Derived.Test.YtfambadamebjjaaZs24
import Derived.Test.YtfambadamebjjaaZs14
set_option linter.unusedSimpArgs false
set_option linter.unusedVariables false
namespace Go.Proofs.Ytfambadamebjjaa
open Go.RowKit

def letrB (c : UInt8) : Bool := letB c || upB c || decide (c.toNat = 95)
theorem part_letr (c : UInt8) : partB c = (letrB c || digB c) := by
 unfold partB letrB
 cases letB c <;> cases upB c <;> cases digB c <;> simp
theorem refLetter_any (c : Nat) (y : UInt8) (hy : y.toNat = c) (w : World) : Calls Try.prog 71 #[.int .u8 c] w fun e w' => e = .returned (.bool (letrB y)) ∧ w = w' := by
 have HP : Hid (letrB y = ((decide (97 ≤ c) && decide (c ≤ 122)) || (decide (65 ≤ c) && decide (c ≤ 90)) || decide (c = 95))) := Lib.hid (by
  unfold letrB letB upB; rw [hy])
 generalize hp : letrB y = p at *
 clear hp hy
 rcases (show (97 ≤ c ∧ c ≤ 122) ∨ (65 ≤ c ∧ c ≤ 90) ∨ c = 95 ∨ c < 65 ∨ (90 < c ∧ c < 97 ∧ c ≠ 95) ∨ 122 < c by omega) with h | h | h | h | h | h
 ·have h1 : (97 : Int) ≤ c := by omega
  have h2 : (c : Int) ≤ 122 := by omega
  have h9 : ((c : Int) == 95) = false := beq_eq_false_iff_ne.2 (by omega)
  have e : p = true := by rw [HP.out]; simp; omega
  subst e
  clear h HP
  go_enter Try.func71, Try.ntmps71
  go_wp2_with fail
  go_ret
  exact ⟨ret_bool6 (by first | rfl | (simp; done) | (simp; omega)), rfl⟩
 ·have h1 : (c : Int) < 97 := by omega
  have h2 : (65 : Int) ≤ c := by omega
  have h3 : (c : Int) ≤ 90 := by omega
  have h9 : ((c : Int) == 95) = false := beq_eq_false_iff_ne.2 (by omega)
  have e : p = true := by rw [HP.out]; simp; omega
  subst e
  clear h HP
  go_enter Try.func71, Try.ntmps71
  go_wp2_with fail
  go_ret
  exact ⟨ret_bool6 (by first | rfl | (simp; done) | (simp; omega)), rfl⟩
 ·have h1 : (c : Int) < 97 := by omega
  have h2 : (65 : Int) ≤ c := by omega
  have h3 : (90 : Int) < c := by omega
  have h9 : ((c : Int) == 95) = true := beq_iff_eq.2 (by omega)
  have e : p = true := by rw [HP.out]; simp; omega
  subst e
  clear h HP
  go_enter Try.func71, Try.ntmps71
  go_wp2_with fail
  go_ret
  exact ⟨ret_bool6 (by first | rfl | (simp; done) | (simp; omega)), rfl⟩
 ·have h1 : (c : Int) < 97 := by omega
  have h2 : (c : Int) < 65 := by omega
  have h9 : ((c : Int) == 95) = false := beq_eq_false_iff_ne.2 (by omega)
  have e : p = false := by rw [HP.out]; simp; omega
  subst e
  clear h HP
  go_enter Try.func71, Try.ntmps71
  go_wp2_with fail
  go_ret
  exact ⟨ret_bool6 (by first | rfl | (simp; done) | (simp; omega)), rfl⟩
 ·have h1 : (c : Int) < 97 := by omega
  have h2 : (65 : Int) ≤ c := by omega
  have h3 : (90 : Int) < c := by omega
  have h9 : ((c : Int) == 95) = false := beq_eq_false_iff_ne.2 (by omega)
  have e : p = false := by rw [HP.out]; simp; omega
  subst e
  clear h HP
  go_enter Try.func71, Try.ntmps71
  go_wp2_with fail
  go_ret
  exact ⟨ret_bool6 (by first | rfl | (simp; done) | (simp; omega)), rfl⟩
 ·have h1 : (97 : Int) ≤ c := by omega
  have h2 : (122 : Int) < c := by omega
  have h3 : (65 : Int) ≤ c := by omega
  have h4 : (90 : Int) < c := by omega
  have h9 : ((c : Int) == 95) = false := beq_eq_false_iff_ne.2 (by omega)
  have e : p = false := by rw [HP.out]; simp; omega
  subst e
  clear h HP
  go_enter Try.func71, Try.ntmps71
  go_wp2_with fail
  go_ret
  exact ⟨ret_bool6 (by first | rfl | (simp; done) | (simp; omega)), rfl⟩
theorem refDigit_any (c : Nat) (y : UInt8) (hy : y.toNat = c) (w : World) : Calls Try.prog 72 #[.int .u8 c] w fun e w' => e = .returned (.bool (digB y)) ∧ w = w' := by
 unfold digB
 rw [hy]
 by_cases h1 : 48 ≤ c
 ·by_cases h2 : c ≤ 57
  ·have h1' : (48 : Int) ≤ c := by omega
   have h2' : (c : Int) ≤ 57 := by omega
   rw [decide_eq_true h1, decide_eq_true h2]
   clear h1 h2 hy
   go_enter Try.func72, Try.ntmps72
   go_wp2_with fail
   go_ret
   exact ⟨ret_bool6 (by simp; try omega), rfl⟩
  ·have h1' : (48 : Int) ≤ c := by omega
   have h2' : (57 : Int) < c := by omega
   rw [decide_eq_true h1, decide_eq_false h2]
   clear h1 h2 hy
   go_enter Try.func72, Try.ntmps72
   go_wp2_with fail
   go_ret
   exact ⟨ret_bool6 (by simp; try omega), rfl⟩
 ·have h1' : (c : Int) < 48 := by omega
  rw [decide_eq_false h1]
  clear h1 hy
  go_enter Try.func72, Try.ntmps72
  go_wp2_with fail
  go_ret
  exact ⟨ret_bool6 (by simp), rfl⟩
def lexedC (c : Nat) : Nat := if c = 2 then 10 else c
theorem lexed_any (c : Nat) (w : World) : Calls Try.prog 74 #[.int .i64 (c : Nat)] w fun e w' => e = .returned (.int .i64 (lexedC c : Nat)) ∧ w = w' := by
 unfold lexedC
 by_cases h : c = 2
 ·have t : ((c : Int) == 2) = true := beq_iff_eq.2 (by omega)
  rw [if_pos h]
  clear h
  go_enter Try.func74, Try.ntmps74
  go_wp2_with fail
  go_ret
  exact ⟨rfl, rfl⟩
 ·have t : ((c : Int) == 2) = false := beq_eq_false_iff_ne.2 (by omega)
  rw [if_neg h]
  clear h
  go_enter Try.func74, Try.ntmps74
  go_wp2_with fail
  go_ret
  exact ⟨rfl, rfl⟩
theorem lexed_lit (l : List UInt8) : lexedC (readC l) = litC l := by
 unfold lexedC
 rcases litC_cases l with ⟨h1, h2⟩ | ⟨h1, h2⟩ | ⟨h1, h2⟩ <;> rw [h1, h2] <;> rfl
end Go.Proofs.Ytfambadamebjjaa
namespace Go.Proofs.Ytfambadamebjjaa
open Go.RowKit

def RefTok (k : Nat) (t : Nat × Nat × Nat) (w : World) (e : Ending) (w' : World) : Prop :=
 (∃ a b : Nat, e = .returned (.tuple #[.int .i64 a, .int .i64 b, .int .i64 (t.2.2 : Nat)]) ∧ (t.2.2 = 0 → a = t.1 ∧ b = k + t.2.1)) ∧ w.grownBy w' none
theorem extract_mid (s : ByteArray) (k j : Nat) : (s.extract k j).data.toList = (s.data.toList.drop k).take (j - k) := by simp
theorem run_is (f : UInt8 → Bool) (s : ByteArray) (k j : Nat) (hk : k ≤ j) (hj : j ≤ s.size) (h : ∀ i, k ≤ i → i < j → f (s.data.toList.getD i 0) = true) (he : j < s.size → f (s.data.toList.getD j 0) = false) : runL f (s.data.toList.drop k) = j - k := by
 have hz : s.data.toList.length = s.size := by rw [Array.length_toList]; rfl
 rw [runL_drop f _ (j - k) (fun i hi => by
  have := h (k + i) (by omega) (by omega)
  rw [List.getD, List.getElem?_drop]; exact this) (by rw [List.length_drop, hz]; omega)]
 rw [List.drop_drop, show k + (j - k) = j by omega]
 by_cases e : j < s.size
 ·rw [drop_at s j e, runL, show f s[j] = false from by rw [← byte_at e]; exact he e]; simp
 ·rw [List.drop_of_length_le (by omega)]; simp [runL]
theorem letr_not {y : UInt8} (h : letrB y = true) : (y.toNat = 39) = False ∧ (y.toNat = 45) = False ∧ digB y = false ∧ partB y = true := by
 have hp := part_letr y
 rw [h] at hp
 refine ⟨?_, ?_, ?_, by simpa using hp⟩
 ·unfold letrB letB upB at h; simp at h; simp; omega
 ·unfold letrB letB upB at h; simp at h; simp; omega
 ·unfold letrB letB upB at h; unfold digB; simp at h; simp; omega
set_option maxRecDepth 100000 in
set_option maxHeartbeats 6400000 in
theorem refTok_let (s : ByteArray) (k : Nat) (w : World) (hk : k < s.size) (hs : s.size ≤ 1510) (hy : letrB s[k] = true) :
  Calls Try.prog 51 #[.string s, .int .i64 k] w (RefTok k (tokL (s.data.toList.drop k)) w) := by
 obtain ⟨t1, t2, t3, t4⟩ := letr_not hy
 have hd := drop_at s k hk
 have HT : Hid (∀ j, k < j → j ≤ s.size → (∀ i, k ≤ i → i < j → partB (s.data.toList.getD i 0) = true) → (j < s.size → partB (s.data.toList.getD j 0) = false) →
   tokL (s.data.toList.drop k) = (if wordB (s.extract k j).data.toList then (5, j - k, 0) else if nameB (s.extract k j) then (1, j - k, 0) else (0, j - k, 10))) := Lib.hid fun j h1 h2 h3 h4 => by
  have hr := run_is partB s k j (by omega) h2 h3 h4
  have e : nameL ((s.data.toList.drop k).take (j - k)) = nameB (s.extract k j) := by unfold nameL; rw [← extract_mid]
  rw [extract_mid, ← e]
  rw [hd] at hr ⊢
  unfold tokL
  simp only [t1, t2, t3, t4, Bool.false_eq_true, if_false, if_true, hr]
 have HL := Lib.hid (fun (j : Nat) (h : j < s.size) => refLetter_any _ s[j] rfl)
 have HD := Lib.hid (fun (j : Nat) (h : j < s.size) => refDigit_any _ s[j] rfl)
 have HL0 := Lib.hid (hy ▸ refLetter_any _ s[k] rfl w)
 have hp0 : partB (s.data.toList.getD k 0) = true := by rw [byte_at hk]; exact t4
 have HP0 := Lib.hid hp0
 generalize tokL (s.data.toList.drop k) = tk at *
 have k0 : (0 : Int) ≤ k := by omega
 have k1 : (k : Int) < s.size := by omega
 have k2 : (s.size : Int) ≤ 1510 := by omega
 clear t1 t2 t3 t4 hd hy hp0
 go_enter Try.func51, Try.ntmps51
 go_wp2_with fail
 refine (HL0.out).mono ?_
 rintro e w1 ⟨rfl, rfl⟩
 go_wp2_with fail
 go_loop [7] (fun a => ∃ j : Nat, a = .int .i64 j ∧ k < j ∧ j ≤ s.size ∧ Hid (∀ i, k ≤ i → i < j → partB (s.data.toList.getD i 0) = true)) (fun a => s.size - (intOf a).toNat)
 case atStart => exact ⟨k + 1, by go_num, by omega, by omega, Lib.hid (fun i h1 h2 => by rw [show i = k by omega]; exact HP0.out)⟩
 case round =>
  obtain ⟨j, rfl, hj1, hj2, U⟩ := hrel
  have j0 : (0 : Int) ≤ j := by omega
  by_cases hlt : j < s.size
  ·have j1 : (j : Int) < s.size := by omega
   have hb := byte_at hlt
   have HLj := Lib.hid (HL.out j hlt)
   have HDj := Lib.hid (HD.out j hlt)
   have hpl := part_letr s[j]
   cases hl : letrB s[j]
   ·rw [hl] at HLj hpl
    cases hdg : digB s[j]
    ·rw [hdg] at HDj hpl
     have htk := HT.out j hj1 hj2 U.out (fun _ => by rw [hb]; exact hpl)
     clear hl hdg hpl hb
     have HW := Lib.hid (fun W => refWord_any (s.extract k j) W)
     have HNm := Lib.hid (fun W => refName_any (s.extract k j) W (by rw [ByteArray.size_extract]; omega))
     have HK := Lib.hid (show k + (j - k) = j by omega)
     have kj : (k : Int) ≤ j := by omega
     have jz : (j : Int) ≤ s.size := by omega
     cases hw : wordB (s.extract k j).data.toList
     ·rw [hw] at HW htk
      cases hn : nameB (s.extract k j)
      ·rw [hn] at HNm htk
       have HTk := Lib.hid htk
       clear hw hn htk
       go_wp2_with fail
       refine (HLj.out _).mono ?_
       rintro e w1 ⟨rfl, rfl⟩
       go_wp2_with fail
       refine (HDj.out _).mono ?_
       rintro e w1 ⟨rfl, rfl⟩
       go_wp2_with fail
       refine (HW.out _).mono ?_
       rintro e w2 ⟨rfl, hg⟩
       have KG := Lib.hid hg
       clear hg
       go_wp2_with fail
       refine (HNm.out _).mono ?_
       rintro e w3 ⟨rfl, rfl⟩
       go_wp2_with fail
       go_ret3
       exact ⟨⟨0, 0, by rw [HTk.out]; rfl, fun h => by rw [HTk.out] at h; simp at h⟩, KG.out⟩
      ·rw [hn] at HNm htk
       have HTk := Lib.hid htk
       clear hw hn htk
       go_wp2_with fail
       refine (HLj.out _).mono ?_
       rintro e w1 ⟨rfl, rfl⟩
       go_wp2_with fail
       refine (HDj.out _).mono ?_
       rintro e w1 ⟨rfl, rfl⟩
       go_wp2_with fail
       refine (HW.out _).mono ?_
       rintro e w2 ⟨rfl, hg⟩
       have KG := Lib.hid hg
       clear hg
       go_wp2_with fail
       refine (HNm.out _).mono ?_
       rintro e w3 ⟨rfl, rfl⟩
       go_wp2_with fail
       go_ret3
       exact ⟨⟨1, j, by rw [HTk.out]; rfl, fun _ => by rw [HTk.out]; exact ⟨rfl, HK.out.symm⟩⟩, KG.out⟩
     ·rw [hw] at HW htk
      have HTk := Lib.hid htk
      clear hw htk
      go_wp2_with fail
      refine (HLj.out _).mono ?_
      rintro e w1 ⟨rfl, rfl⟩
      go_wp2_with fail
      refine (HDj.out _).mono ?_
      rintro e w1 ⟨rfl, rfl⟩
      go_wp2_with fail
      refine (HW.out _).mono ?_
      rintro e w2 ⟨rfl, hg⟩
      have KG := Lib.hid hg
      clear hg
      go_wp2_with fail
      go_ret3
      exact ⟨⟨5, j, by rw [HTk.out]; rfl, fun _ => by rw [HTk.out]; exact ⟨rfl, HK.out.symm⟩⟩, KG.out⟩
    ·rw [hdg] at HDj hpl
     have U2 : Hid (∀ i, k ≤ i → i < j + 1 → partB (s.data.toList.getD i 0) = true) := Lib.hid fun i h1 h2 => by
      by_cases e : i = j
      ·rw [e, hb]; exact hpl
      ·exact U.out i h1 (by omega)
     clear hl hdg hpl hb
     go_wp2_with fail
     refine (HLj.out _).mono ?_
     rintro e w1 ⟨rfl, rfl⟩
     go_wp2_with fail
     refine (HDj.out _).mono ?_
     rintro e w1 ⟨rfl, rfl⟩
     go_wp2_with fail
     go_round
     case rel => exact ⟨j + 1, by go_num, by omega, by omega, U2⟩
     case measure => simp [intOf]; omega
   ·rw [hl] at HLj hpl
    have U2 : Hid (∀ i, k ≤ i → i < j + 1 → partB (s.data.toList.getD i 0) = true) := Lib.hid fun i h1 h2 => by
     by_cases e : i = j
     ·rw [e, hb]; simpa using hpl
     ·exact U.out i h1 (by omega)
    clear hl hpl hb
    go_wp2_with fail
    refine (HLj.out _).mono ?_
    rintro e w1 ⟨rfl, rfl⟩
    go_wp2_with fail
    go_round
    case rel => exact ⟨j + 1, by go_num, by omega, by omega, U2⟩
    case measure => simp [intOf]; omega
  ·obtain rfl : j = s.size := by omega
   have htk := HT.out _ hj1 hj2 U.out (fun h => by omega)
   have HW := Lib.hid (fun W => refWord_any (s.extract k s.size) W)
   have HNm := Lib.hid (fun W => refName_any (s.extract k s.size) W (by rw [ByteArray.size_extract]; omega))
   have HK := Lib.hid (show k + (s.size - k) = s.size by omega)
   have kj : (k : Int) ≤ s.size := by omega
   have jz : (s.size : Int) ≤ s.size := by omega
   cases hw : wordB (s.extract k s.size).data.toList
   ·rw [hw] at HW htk
    cases hn : nameB (s.extract k s.size)
    ·rw [hn] at HNm htk
     have HTk := Lib.hid htk
     clear hw hn htk
     go_wp2_with fail
     refine (HW.out _).mono ?_
     rintro e w2 ⟨rfl, hg⟩
     have KG := Lib.hid hg
     clear hg
     go_wp2_with fail
     refine (HNm.out _).mono ?_
     rintro e w3 ⟨rfl, rfl⟩
     go_wp2_with fail
     go_ret3
     exact ⟨⟨0, 0, by rw [HTk.out]; rfl, fun h => by rw [HTk.out] at h; simp at h⟩, KG.out⟩
    ·rw [hn] at HNm htk
     have HTk := Lib.hid htk
     clear hw hn htk
     go_wp2_with fail
     refine (HW.out _).mono ?_
     rintro e w2 ⟨rfl, hg⟩
     have KG := Lib.hid hg
     clear hg
     go_wp2_with fail
     refine (HNm.out _).mono ?_
     rintro e w3 ⟨rfl, rfl⟩
     go_wp2_with fail
     go_ret3
     exact ⟨⟨1, s.size, by rw [HTk.out]; rfl, fun _ => by rw [HTk.out]; exact ⟨rfl, HK.out.symm⟩⟩, KG.out⟩
   ·rw [hw] at HW htk
    have HTk := Lib.hid htk
    clear hw htk
    go_wp2_with fail
    refine (HW.out _).mono ?_
    rintro e w2 ⟨rfl, hg⟩
    have KG := Lib.hid hg
    clear hg
    go_wp2_with fail
    go_ret3
    exact ⟨⟨5, s.size, by rw [HTk.out]; rfl, fun _ => by rw [HTk.out]; exact ⟨rfl, HK.out.symm⟩⟩, KG.out⟩
end Go.Proofs.Ytfambadamebjjaa
namespace Go.Proofs.Ytfambadamebjjaa
open Go.RowKit

theorem run_dp (r : List UInt8) : ∀ d, runL digB r = d → (∀ y, (r.drop d).head? = some y → letrB y = false) → runL partB r = d := by
 induction r with
 | nil => intro d h _; simp [runL] at h ⊢; exact h
 | cons c r ih =>
  intro d h hn
  by_cases hc : digB c = true
  ·rw [runL, hc] at h
   simp at h
   obtain ⟨e, rfl⟩ : ∃ e, d = e + 1 := ⟨d - 1, by omega⟩
   have hp : partB c = true := by rw [part_letr, hc]; simp
   rw [runL, hp]
   have := ih e (by omega) (fun y hy => hn y (by simpa using hy))
   simp [this]
  ·have hc' : digB c = false := by simpa using hc
   rw [runL, hc'] at h
   simp at h
   subst h
   have hl := hn c (by simp)
   have hp : partB c = false := by rw [part_letr, hl, hc']; rfl
   rw [runL, hp]; simp
theorem run_dl (r : List UInt8) : ∀ d y, runL digB r = d → (r.drop d).head? = some y → letrB y = true → d < runL partB r ∧ r[d]? = some y := by
 induction r with
 | nil => intro d y h hy; simp at hy
 | cons c r ih =>
  intro d y h hy hl
  by_cases hc : digB c = true
  ·rw [runL, hc] at h
   simp at h
   obtain ⟨e, rfl⟩ : ∃ e, d = e + 1 := ⟨d - 1, by omega⟩
   have hp : partB c = true := by rw [part_letr, hc]; simp
   have := ih e y (by omega) (by simpa using hy) hl
   rw [runL, hp]
   simp
   exact ⟨this.1, by simpa using this.2⟩
  ·have hc' : digB c = false := by simpa using hc
   rw [runL, hc'] at h
   simp at h
   subst h
   simp at hy
   subst hy
   have hp : partB c = true := by rw [part_letr, hl]; rfl
   rw [runL, hp]; simp
theorem letr_dig {y : UInt8} (h : letrB y = true) : digB y = false := (letr_not h).2.2.1
theorem wr_letter (a : UInt8) (r : List UInt8) (y : UInt8) (hm : y ∈ r) (hl : letrB y = true) : wrB (a :: r) = false := by
 have hall : ∀ l : List UInt8, y ∈ l → l.all digB = false := fun l h => by
  rw [List.all_eq_false]; exact ⟨y, h, by rw [letr_dig hl]; simp⟩
 have y48 : y ≠ 48 := fun e => by subst e; exact absurd hl (by decide)
 by_cases h45 : a = 45
 ·subst h45
  cases r with
  | nil => cases hm
  | cons c r =>
   rw [wrB_of_neg]
   split
   ·rfl
   ·exact hall _ hm
 ·rw [wrB_of_pos h45]
  split
  ·rename_i h48
   subst h48
   rw [beq_eq_false_iff_ne]
   intro e
   have := (List.cons.inj e).2
   subst this
   cases hm
  ·exact hall _ (by simp [hm])
theorem lit_num (a : UInt8) (r : List UInt8) (ha : digB a = true ∨ a = 45) : litC (a :: r) = (if wrB (a :: r) then (if inI (ival (a :: r)) then 0 else 1) else 10) := by
 have h39 : a ≠ 39 := fun e => by subst e; rcases ha with h | h <;> exact absurd h (by decide)
 have hN : ∀ (b : UInt8) (z : List UInt8), (digB b = false ∧ b ≠ 45) → a :: r ≠ b :: z := fun b z hb e => by
  have := (List.cons.inj e).1
  subst this
  rcases ha with h | h
  ·rw [hb.1] at h; cases h
  ·exact hb.2 h
 have hr : readC (a :: r) = intC (a :: r) := by
  unfold readC
  rw [if_neg (hN _ _ (by decide)), if_neg (hN _ _ (by decide)), if_neg (hN _ _ (by decide))]
  simp only [if_neg h39]
 rw [← lexed_lit, hr]
 unfold intC lexedC
 split
 ·split <;> rfl
 ·rfl
theorem tok_num (a : UInt8) (r : List UInt8) (ha : digB a = true ∨ a = 45) :
  (∀ y, (r.drop (runL digB r)).head? = some y → letrB y = true → (tokL (a :: r)).2.2 = 10) ∧
  ((∀ y, (r.drop (runL digB r)).head? = some y → letrB y = false) → tokL (a :: r) = (2, 1 + runL digB r, litC ((a :: r).take (1 + runL digB r)))) := by
 have t1 : (a.toNat = 39) = False := by
  rcases ha with h | h
  ·have := digB_iff.1 h; simp; omega
  ·subst h; decide
 have htok : tokL (a :: r) = (2, 1 + runL partB r, litC ((a :: r).take (1 + runL partB r))) := by
  rcases ha with h | h
  ·have hd := digB_iff.1 h
   have t2 : (a.toNat = 45) = False := by simp; omega
   have hp : partB a = true := by rw [part_letr, h]; simp
   have hN : runL partB (a :: r) = 1 + runL partB r := by rw [runL, hp]; simp; omega
   unfold tokL
   simp only [t1, t2, h, if_false, if_true, hN]
  ·subst h
   have t2 : ((45 : UInt8).toNat = 45) = True := by decide
   unfold tokL
   simp only [t1, t2, if_false, if_true]
 rw [htok]
 constructor
 ·intro y hy hl
  obtain ⟨h1, h2⟩ := run_dl r _ y rfl hy hl
  have hm : y ∈ r.take (runL partB r) := by
   rw [List.mem_iff_getElem?]
   exact ⟨_, by rw [List.getElem?_take_of_lt h1]; exact h2⟩
  show litC ((a :: r).take (1 + runL partB r)) = 10
  rw [Nat.add_comm, List.take_succ_cons, lit_num a _ ha, wr_letter a _ y hm hl]; rfl
 ·intro h
  rw [run_dp r _ rfl h]
set_option maxRecDepth 100000 in
set_option maxHeartbeats 6400000 in
theorem refTok_num (s : ByteArray) (k : Nat) (w : World) (hk : k < s.size) (hs : s.size ≤ 1510) (hl : letrB s[k] = false) (hy : digB s[k] = true ∨ s[k] = 45) :
  Calls Try.prog 51 #[.string s, .int .i64 k] w (RefTok k (tokL (s.data.toList.drop k)) w) := by
 have hd := drop_at s k hk
 have hz : s.data.toList.length = s.size := by rw [Array.length_toList]; rfl
 have hnum := tok_num s[k] (s.data.toList.drop (k + 1)) hy
 rw [← hd] at hnum
 have HT : Hid (∀ j, k < j → j ≤ s.size → (∀ i, k < i → i < j → digB (s.data.toList.getD i 0) = true) → (j < s.size → digB (s.data.toList.getD j 0) = false) →
   (∀ h : j < s.size, letrB s[j] = true → (tokL (s.data.toList.drop k)).2.2 = 10) ∧
   ((∀ h : j < s.size, letrB s[j] = false) → tokL (s.data.toList.drop k) = (2, j - k, litC ((s.data.toList.drop k).take (j - k))))) := Lib.hid fun j h1 h2 h3 h4 => by
  have hr := run_is digB s (k + 1) j (by omega) h2 (fun i a b => h3 i (by omega) b) h4
  rw [hr] at hnum
  have hdd : (s.data.toList.drop (k + 1)).drop (j - (k + 1)) = s.data.toList.drop j := by rw [List.drop_drop]; congr 1; omega
  rw [hdd] at hnum
  have hhead : ∀ h : j < s.size, (s.data.toList.drop j).head? = some s[j] := fun h => by rw [drop_at s j h]; rfl
  refine ⟨fun h hl => hnum.1 _ (hhead h) hl, fun h => ?_⟩
  have := hnum.2 (fun y hy => by
   by_cases e : j < s.size
   ·rw [hhead e] at hy; cases hy; exact h e
   ·rw [List.drop_of_length_le (by omega)] at hy; cases hy)
  rw [show 1 + (j - (k + 1)) = j - k by omega] at this
  exact this
 have HL := Lib.hid (fun (j : Nat) (h : j < s.size) => refLetter_any _ s[j] rfl)
 have HD := Lib.hid (fun (j : Nat) (h : j < s.size) => refDigit_any _ s[j] rfl)
 have HL0 := Lib.hid (hl ▸ refLetter_any _ s[k] rfl w)
 have HD0 := Lib.hid (refDigit_any _ s[k] rfl w)
 generalize tokL (s.data.toList.drop k) = tk at *
 have k0 : (0 : Int) ≤ k := by omega
 have k1 : (k : Int) < s.size := by omega
 have k2 : (s.size : Int) ≤ 1510 := by omega
 have h45 : digB s[k] = false → ((s[k].toNat : Int) == 45) = true := fun h => by
  rcases hy with h2 | h2
  ·rw [h] at h2; cases h2
  ·rw [h2]; decide
 have H45 := Lib.hid h45
 clear hd hl hnum hy h45
 go_enter Try.func51, Try.ntmps51
 go_wp2_with fail
 refine (HL0.out).mono ?_
 rintro e w1 ⟨rfl, rfl⟩
 go_upto_region 11 with (fail)
 go_cut [58] (fun b wx => b = .bool true ∧ w = wx)
 case first =>
  cases hdg : digB s[k]
  ·rw [hdg] at HD0
   have t45 := H45.out hdg
   clear hdg
   go_wp2_with fail
   refine (HD0.out).mono ?_
   rintro e w1 ⟨rfl, rfl⟩
   go_wp2_with fail
   go_meet
   exact ⟨rfl, rfl⟩
  ·rw [hdg] at HD0
   clear hdg
   go_wp2_with fail
   refine (HD0.out).mono ?_
   rintro e w1 ⟨rfl, rfl⟩
   go_wp2_with fail
   go_meet
   exact ⟨rfl, rfl⟩
 case rest =>
 obtain ⟨rfl, rfl⟩ := hcut
 go_wp2_with fail
 go_loop [7] (fun a => ∃ j : Nat, a = .int .i64 j ∧ k < j ∧ j ≤ s.size ∧ Hid (∀ i, k < i → i < j → digB (s.data.toList.getD i 0) = true)) (fun a => s.size - (intOf a).toNat)
 case atStart => exact ⟨k + 1, by go_num, by omega, by omega, Lib.hid (fun i h1 h2 => by omega)⟩
 case round =>
  obtain ⟨j, rfl, hj1, hj2, U⟩ := hrel
  have j0 : (0 : Int) ≤ j := by omega
  by_cases hlt : j < s.size
  ·have j1 : (j : Int) < s.size := by omega
   have hb := byte_at hlt
   have HLj := Lib.hid (HL.out j hlt)
   have HDj := Lib.hid (HD.out j hlt)
   cases hdg : digB s[j]
   ·rw [hdg] at HDj
    have ht2 := HT.out j hj1 hj2 U.out (fun _ => by rw [hb]; exact hdg)
    cases hl : letrB s[j]
    ·rw [hl] at HLj
     have htk := ht2.2 (fun _ => hl)
     clear ht2 hdg hl hb
     have hX : (s.extract k j).data.toList = (s.data.toList.drop k).take (j - k) := extract_mid s k j
     have HRd := Lib.hid (fun W => refRead_any (s.extract k j) W (by rw [ByteArray.size_extract]; omega))
     obtain ⟨va, vb, vc, hv⟩ := readV_code (s.extract k j).data.toList
     rw [hv] at HRd
     have HLx := Lib.hid (fun W => lexed_any (readC (s.extract k j).data.toList) W)
     rw [lexed_lit] at HLx
     have hlit : tk = (2, j - k, litC (s.extract k j).data.toList) := by rw [htk, hX]
     have HTk := Lib.hid hlit
     have HK := Lib.hid (show k + (j - k) = j by omega)
     have kj : (k : Int) ≤ j := by omega
     have jz : (j : Int) ≤ s.size := by omega
     clear hX hv htk hlit
     generalize readC (s.extract k j).data.toList = rc at *
     generalize litC (s.extract k j).data.toList = lc at *
     go_wp2_with fail
     refine (HDj.out _).mono ?_
     rintro e w1 ⟨rfl, rfl⟩
     go_wp2_with fail
     refine (HLj.out _).mono ?_
     rintro e w1 ⟨rfl, rfl⟩
     go_wp2_with fail
     refine (HRd.out _).mono ?_
     rintro e w2 ⟨rfl, hb⟩
     have KG := Lib.hid ((grown_belowX hb none).trans (World.grownBy_alloc w2 (.cells #[.int .i64 va, .int .i64 vb, .string vc] 31) none))
     clear hb
     go_wp2_with fail
     refine (HLx.out _).mono ?_
     rintro e w3 ⟨rfl, rfl⟩
     go_wp2_with fail
     go_ret3
     exact ⟨⟨2, j, by rw [HTk.out]; rfl, fun _ => by rw [HTk.out]; exact ⟨rfl, HK.out.symm⟩⟩, KG.out⟩
    ·rw [hl] at HLj
     have htk := Lib.hid (ht2.1 hlt hl)
     clear ht2 hdg hl hb
     go_wp2_with fail
     refine (HDj.out _).mono ?_
     rintro e w1 ⟨rfl, rfl⟩
     go_wp2_with fail
     refine (HLj.out _).mono ?_
     rintro e w1 ⟨rfl, rfl⟩
     go_wp2_with fail
     go_ret3
     exact ⟨⟨0, 0, by rw [htk.out]; rfl, fun h => by rw [htk.out] at h; simp at h⟩, grown_reflX _ _⟩
   ·rw [hdg] at HDj
    have U2 : Hid (∀ i, k < i → i < j + 1 → digB (s.data.toList.getD i 0) = true) := Lib.hid fun i h1 h2 => by
     by_cases e : i = j
     ·rw [e, hb]; exact hdg
     ·exact U.out i h1 (by omega)
    clear hdg hb
    go_wp2_with fail
    refine (HDj.out _).mono ?_
    rintro e w1 ⟨rfl, rfl⟩
    go_wp2_with fail
    go_round
    case rel => exact ⟨j + 1, by go_num, by omega, by omega, U2⟩
    case measure => simp [intOf]; omega
  ·obtain rfl : j = s.size := by omega
   have htk := (HT.out _ hj1 hj2 U.out (fun h => by omega)).2 (fun h => by omega)
   have hX : (s.extract k s.size).data.toList = (s.data.toList.drop k).take (s.size - k) := extract_mid s k s.size
   have HRd := Lib.hid (fun W => refRead_any (s.extract k s.size) W (by rw [ByteArray.size_extract]; omega))
   obtain ⟨va, vb, vc, hv⟩ := readV_code (s.extract k s.size).data.toList
   rw [hv] at HRd
   have HLx := Lib.hid (fun W => lexed_any (readC (s.extract k s.size).data.toList) W)
   rw [lexed_lit] at HLx
   have hlit : tk = (2, s.size - k, litC (s.extract k s.size).data.toList) := by rw [htk, hX]
   have HTk := Lib.hid hlit
   have HK := Lib.hid (show k + (s.size - k) = s.size by omega)
   have kj : (k : Int) ≤ s.size := by omega
   have jz : (s.size : Int) ≤ s.size := by omega
   clear hX hv htk hlit
   generalize readC (s.extract k s.size).data.toList = rc at *
   generalize litC (s.extract k s.size).data.toList = lc at *
   go_wp2_with fail
   refine (HRd.out _).mono ?_
   rintro e w2 ⟨rfl, hb⟩
   have KG := Lib.hid ((grown_belowX hb none).trans (World.grownBy_alloc w2 (.cells #[.int .i64 va, .int .i64 vb, .string vc] 31) none))
   clear hb
   go_wp2_with fail
   refine (HLx.out _).mono ?_
   rintro e w3 ⟨rfl, rfl⟩
   go_wp2_with fail
   go_ret3
   exact ⟨⟨2, s.size, by rw [HTk.out]; rfl, fun _ => by rw [HTk.out]; exact ⟨rfl, HK.out.symm⟩⟩, KG.out⟩
end Go.Proofs.Ytfambadamebjjaa
namespace Go.Proofs.Ytfambadamebjjaa
open Go.RowKit

theorem qC_ne (c : UInt8) (x : List UInt8) (h : c ≠ 39) : qC (c :: x) = (qC x).map (· + 1) := by
 cases x with
 | nil => simp [qC, h]
 | cons d t => rw [qC, if_neg h]
theorem qC_two (x : List UInt8) : qC (39 :: 39 :: x) = (qC x).map (· + 2) := by rw [qC, if_pos rfl, if_pos rfl]
theorem qC_end (x : List UInt8) (h : x.head? ≠ some 39) : qC (39 :: x) = some 1 := by
 cases x with
 | nil => simp [qC]
 | cons d t =>
  have hd : d ≠ 39 := fun e => h (by rw [e]; rfl)
  rw [qC, if_pos rfl, if_neg hd]
theorem qC_q1 (c : UInt8) (x : List UInt8) : qC (q1 c ++ x) = (qC x).map (· + (q1 c).length) := by
 rcases q1_cases c with ⟨rfl, e⟩ | ⟨h39, h92, hp, e⟩ | ⟨h39, hp, e⟩
 ·rw [e]; exact qC_two x
 ·rw [e]; exact qC_ne c x h39
 ·rw [e]
  have h1 : c.toNat / 16 < 16 := by have := c.toNat_lt; omega
  have h2 : c.toNat % 16 < 16 := by omega
  show qC (92 :: hexd (c.toNat / 16) :: hexd (c.toNat % 16) :: x) = _
  rw [qC_ne _ _ (by decide), qC_ne _ _ (hexd_ne h1), qC_ne _ _ (hexd_ne h2)]
  cases qC x <;> simp
theorem qC_qs : ∀ t : List UInt8, qC (qs t ++ [39]) ≠ none
 | [] => by simp [qs, qC]
 | c :: t => by
  have e : qs (c :: t) ++ [39] = q1 c ++ (qs t ++ [39]) := by simp [qs]
  rw [e, qC_q1]
  intro h
  exact qC_qs t (by simpa using h)
theorem lit_open (r : List UInt8) (h : qC r = none) : litC (39 :: r) = 10 := by
 have hb : readB r = none := by
  cases hb : readB r with
  | none => rfl
  | some t =>
   have := qs_of_readB _ _ _ (Nat.le_refl _) hb
   rw [this] at h
   exact absurd h (qC_qs t)
 have hr : readC (39 :: r) = textC (readB r) := by unfold readC; simp
 rw [hb] at hr
 rw [← lexed_lit, hr]; rfl
theorem tok_quote (r : List UInt8) : (qC r = none → (tokL (39 :: r)).2.2 = 10) ∧ (∀ m, qC r = some m → tokL (39 :: r) = (3, 1 + m, litC ((39 :: r).take (1 + m)))) := by
 have t1 : ((39 : UInt8).toNat = 39) = True := by decide
 have htok : tokL (39 :: r) = (3, 1 + qN r, litC ((39 :: r).take (1 + qN r))) := by
  unfold tokL
  simp only [t1, if_true]
 rw [htok]
 refine ⟨fun h => ?_, fun m h => ?_⟩
 ·have e : qN r = r.length := by unfold qN; rw [h]; rfl
  show litC ((39 :: r).take (1 + qN r)) = 10
  rw [e, Nat.add_comm, List.take_succ_cons, List.take_length]
  exact lit_open r h
 ·have e : qN r = m := by unfold qN; rw [h]; rfl
  rw [e]
def QAt (s : ByteArray) (k e : Nat) : Prop := qC (s.data.toList.drop (k + 1)) = (qC (s.data.toList.drop e)).map (· + (e - (k + 1)))
theorem QAt.step {s : ByteArray} {k e : Nat} (h : QAt s k e) (he : k + 1 ≤ e) (hs : e < s.size) (hn : s[e] ≠ 39) : QAt s k (e + 1) := by
 unfold QAt at h ⊢
 rw [h, drop_at s e hs, qC_ne _ _ hn, Option.map_map]
 congr 1
 funext x
 show x + 1 + _ = x + _
 omega
theorem QAt.step2 {s : ByteArray} {k e : Nat} (h : QAt s k e) (he : k + 1 ≤ e) (hs : e + 1 < s.size) (h1 : s[e] = 39) (h2 : s[e + 1] = 39) : QAt s k (e + 2) := by
 unfold QAt at h ⊢
 rw [h, drop_at s e (by omega), drop_at s (e + 1) hs, h1, h2, qC_two, Option.map_map]
 congr 1
 funext x
 show x + 2 + _ = x + _
 omega
theorem QAt.stop {s : ByteArray} {k : Nat} (h : QAt s k s.size) : qC (s.data.toList.drop (k + 1)) = none := by
 unfold QAt at h
 rw [h, List.drop_of_length_le (by rw [Array.length_toList]; exact Nat.le_refl _)]; rfl
theorem QAt.shut {s : ByteArray} {k e : Nat} (h : QAt s k e) (hs : e < s.size) (h1 : s[e] = 39) (h2 : ∀ hh : e + 1 < s.size, s[e + 1] ≠ 39) : qC (s.data.toList.drop (k + 1)) = some (1 + (e - (k + 1))) := by
 unfold QAt at h
 rw [h, drop_at s e hs, h1, qC_end]
 ·rfl
 ·by_cases hh : e + 1 < s.size
  ·rw [drop_at s (e + 1) hh]; simpa using h2 hh
  ·rw [List.drop_of_length_le (by rw [Array.length_toList]; show s.size ≤ e + 1; omega)]; simp
set_option maxRecDepth 100000 in
set_option maxHeartbeats 6400000 in
theorem refTok_quote (s : ByteArray) (k : Nat) (w : World) (hk : k < s.size) (hs : s.size ≤ 1510) (hy : s[k] = 39) :
  Calls Try.prog 51 #[.string s, .int .i64 k] w (RefTok k (tokL (s.data.toList.drop k)) w) := by
 have hd := drop_at s k hk
 rw [hy] at hd
 have hq := tok_quote (s.data.toList.drop (k + 1))
 rw [← hd] at hq
 have HQ := Lib.hid hq
 have HL0 := Lib.hid (refLetter_any s[k].toNat s[k] rfl w)
 have HD0 := Lib.hid (refDigit_any s[k].toNat s[k] rfl w)
 rw [show letrB s[k] = false from by rw [hy]; decide] at HL0
 rw [show digB s[k] = false from by rw [hy]; decide] at HD0
 have tn : s[k].toNat = 39 := by rw [hy]; decide
 have t45 : ((s[k].toNat : Int) == 45) = false := by rw [tn]; decide
 have t39 : ((s[k].toNat : Int) == 39) = true := by rw [tn]; decide
 obtain ⟨tk, htk⟩ : ∃ tk, tk = tokL (s.data.toList.drop k) := ⟨_, rfl⟩
 rw [← htk] at HQ ⊢
 have k0 : (0 : Int) ≤ k := by omega
 have k1 : (k : Int) < s.size := by omega
 have k2 : (s.size : Int) ≤ 1510 := by omega
 clear hd hq htk hy tn
 go_enter Try.func51, Try.ntmps51
 go_wp2_with fail
 refine (HL0.out).mono ?_
 rintro e w1 ⟨rfl, rfl⟩
 go_wp2_with fail
 refine (HD0.out).mono ?_
 rintro e w1 ⟨rfl, rfl⟩
 go_wp2_with fail
 clear HL0 HD0 t45 t39
 go_loop [7] (fun a => ∃ e : Nat, a = .int .i64 e ∧ k < e ∧ e ≤ s.size ∧ Hid (QAt s k e)) (fun a => s.size - (intOf a).toNat)
 case atStart => exact ⟨k + 1, by go_num, by omega, by omega, Lib.hid (by unfold QAt; simp)⟩
 case round =>
  obtain ⟨e, rfl, he1, he2, QE⟩ := hrel
  have e0 : (0 : Int) ≤ e := by omega
  go_wp2_with fail
  go_loop [7] (fun a => ∃ j : Nat, a = .int .i64 j ∧ e ≤ j ∧ j ≤ s.size ∧ Hid (QAt s k j)) (fun a => s.size - (intOf a).toNat)
  case atStart => exact ⟨e, rfl, by omega, he2, QE⟩
  case round =>
   obtain ⟨j, rfl, hj1, hj2, QJ⟩ := hrel
   have j0 : (0 : Int) ≤ j := by omega
   by_cases hlt : j < s.size
   ·have j1 : (j : Int) < s.size := by omega
    by_cases h39 : s[j] = 39
    ·have hn : (s[j].toNat : Int) = 39 := by rw [h39]; decide
     have tb : ((s[j].toNat : Int) != 39) = false := by rw [bne_eq_false_iff_eq]; exact hn
     have tz : ((j : Int) == (s.size : Int)) = false := beq_eq_false_iff_ne.2 (by omega)
     by_cases h2 : ∃ hh : j + 1 < s.size, s[j + 1] = 39
     ·obtain ⟨hh, h2⟩ := h2
      have hn2 : (s[j + 1].toNat : Int) = 39 := by rw [h2]; decide
      have tb2 : ((s[j + 1].toNat : Int) != 39) = false := by rw [bne_eq_false_iff_eq]; exact hn2
      have tz2 : ((j : Int) + 1 == (s.size : Int)) = false := beq_eq_false_iff_ne.2 (by omega)
      have j2 : (j : Int) + 1 < s.size := by omega
      have Q2 := Lib.hid (QJ.out.step2 (by omega) hh h39 h2)
      clear hn hn2 h39 h2
      go_wp2_with fail
      go_round
      case rel => exact ⟨j + 2, by go_num, by omega, by omega, Q2⟩
      case measure => simp [intOf]; omega
     ·have hsh := QJ.out.shut hlt h39 (fun hh h => h2 ⟨hh, h⟩)
      have htk := HQ.out.2 _ hsh
      obtain ⟨P, hP⟩ : ∃ P, P = j + 1 := ⟨_, rfl⟩
      rw [show 1 + (1 + (j - (k + 1))) = P - k by omega] at htk
      have hX : (s.extract k P).data.toList = (s.data.toList.drop k).take (P - k) := extract_mid s k P
      have HRd := Lib.hid (fun W => refRead_any (s.extract k P) W (by rw [ByteArray.size_extract]; omega))
      obtain ⟨va, vb, vc, hv⟩ := readV_code (s.extract k P).data.toList
      rw [hv] at HRd
      have HLx := Lib.hid (fun W => lexed_any (readC (s.extract k P).data.toList) W)
      rw [lexed_lit] at HLx
      have hlit : tk = (3, P - k, litC (s.extract k P).data.toList) := by rw [htk, hX]
      have HTk := Lib.hid hlit
      have HK := Lib.hid (show k + (P - k) = P by omega)
      have kj : (k : Int) ≤ P := by omega
      have jz : (P : Int) ≤ s.size := by omega
      have hPw : (j : Int) + 1 = (P : Int) := by omega
      have hP0 : (0 : Int) ≤ P := by omega
      have hPw2 : IntKind.i64.wrap (P : Int) = (P : Int) := IntWalk.i64_in _ (by omega)
      generalize readC (s.extract k P).data.toList = rc at *
      generalize litC (s.extract k P).data.toList = lc at *
      by_cases hend : j + 1 < s.size
      ·have hne : s[j + 1] ≠ 39 := fun h => h2 ⟨hend, h⟩
       have hPs : P < s.size := by omega
       have eP : s[P] = s[j + 1] := by subst hP; rfl
       have hn2 : ¬ (s[P].toNat : Int) = 39 := by rw [eP]; exact byte_ne (n := 39) hne (by omega)
       have tb2 : ((s[P].toNat : Int) != 39) = true := by rw [bne_iff_ne]; exact hn2
       have tz2 : ((P : Int) == (s.size : Int)) = false := beq_eq_false_iff_ne.2 (by omega)
       have j2 : (P : Int) < s.size := by omega
       clear hn hn2 h39 h2 hsh htk hX hv hlit hne eP hP
       go_wp2_with fail
       refine (HRd.out _).mono ?_
       rintro e w2 ⟨rfl, hb⟩
       have KG := Lib.hid ((grown_belowX hb none).trans (World.grownBy_alloc w2 (.cells #[.int .i64 va, .int .i64 vb, .string vc] 31) none))
       clear hb
       go_wp2_with fail
       refine (HLx.out _).mono ?_
       rintro e w3 ⟨rfl, rfl⟩
       go_wp2_with fail
       go_ret3
       exact ⟨⟨3, P, by rw [HTk.out]; rfl, fun _ => by rw [HTk.out]; exact ⟨rfl, HK.out.symm⟩⟩, KG.out⟩
      ·have tz2 : ((P : Int) == (s.size : Int)) = true := beq_iff_eq.2 (by omega)
       clear hn h39 h2 hsh htk hX hv hlit hP
       go_wp2_with fail
       refine (HRd.out _).mono ?_
       rintro e w2 ⟨rfl, hb⟩
       have KG := Lib.hid ((grown_belowX hb none).trans (World.grownBy_alloc w2 (.cells #[.int .i64 va, .int .i64 vb, .string vc] 31) none))
       clear hb
       go_wp2_with fail
       refine (HLx.out _).mono ?_
       rintro e w3 ⟨rfl, rfl⟩
       go_wp2_with fail
       go_ret3
       exact ⟨⟨3, P, by rw [HTk.out]; rfl, fun _ => by rw [HTk.out]; exact ⟨rfl, HK.out.symm⟩⟩, KG.out⟩
    ·have hn : ¬ (s[j].toNat : Int) = 39 := byte_ne (n := 39) h39 (by omega)
     have tb : ((s[j].toNat : Int) != 39) = true := by rw [bne_iff_ne]; exact hn
     have Q2 := Lib.hid (QJ.out.step (by omega) hlt h39)
     clear hn h39
     go_wp2_with fail
     go_round
     case rel => exact ⟨j + 1, by go_num, by omega, by omega, Q2⟩
     case measure => simp [intOf]; omega
   ·obtain rfl : j = s.size := by omega
    have h10 := Lib.hid (HQ.out.1 QJ.out.stop)
    go_wp2_with fail
    go_ret3
    exact ⟨⟨0, 0, by rw [h10.out]; rfl, fun h => by rw [h10.out] at h; simp at h⟩, grown_reflX _ _⟩
end Go.Proofs.Ytfambadamebjjaa
namespace Go.Proofs.Ytfambadamebjjaa

def Qry.asked (q : Qry) : List Itm := q.items ++ q.order.map Kyo.item
def Qry.grouped (q : Qry) : Bool := decide (0 < q.group.length) || q.asked.any fun x => decide (x.agg ≠ 0)
end Go.Proofs.Ytfambadamebjjaa
namespace Go.Proofs.Ytfambadamebjjaa
open Go.RowKit
theorem SR.come {b o n k i c a : Nat} {T : List Tk} {s : RS} {w : World} {t : ByteArray} (h : TkE b o n k T w) (hs : SR n T s i c a) (ht : keyT t) (hc : s.comes t = true) : c = 0 ∧ a = 0 ∧ (tkA T i).kind ≠ 0 ∧ s.more := by
 have he : s.hd.text = t := of_decide_eq_true hc
 have hm : s.more := .inr (by rw [he]; exact keyT_ne ht)
 obtain ⟨rfl, rfl⟩ := hs.good hm
 refine ⟨rfl, rfl, ?_, hm⟩
 have hd := hs.hd
 have hw := h.tw _ (tkA_mem (T := T) (i := i) (by have := hs.lt; have := h.len; omega))
 rw [← hd, he] at hw
 rw [← hd]
 rcases ht with e | e
 ·rw [hw.word e]; decide
 ·rw [hw.sign e]; decide
theorem rpass_any (b o n k : Nat) (T : List Tk) (s : RS) (w : World) (h : TkE b o n k T w) (i d c a : Nat) (t : ByteArray) (hs : SR n T s i c a) (ht : keyT t) (hc : s.comes t = true) :
  Calls Try.prog 33 #[.agg #[.slice (some ⟨b, o, none⟩) n k, .int .i64 i, .int .i64 d, .int .i64 c, .int .i64 a]] w fun e w' => (e = .returned (.agg #[.slice (some ⟨b, o, none⟩) n k, .int .i64 ((i + 1 : Nat) : Int), .int .i64 d, .int .i64 0, .int .i64 0]) ∧ SR n T s.pass (i + 1) 0 0) ∧ w.grownBy w' none := by
 obtain ⟨rfl, rfl, hk, hm⟩ := hs.come h ht hc
 exact (rstep_any b o n k T s w h i d 0 hs hk).mono fun e w' ⟨he, hg⟩ => ⟨⟨he, hs.pass hm⟩, hg⟩
set_option maxRecDepth 100000 in
theorem rwant_any (b o n k : Nat) (T : List Tk) (s : RS) (w : World) (h : TkE b o n k T w) (i d c a : Nat) (t : ByteArray) (hs : SR n T s i c a) (ht : keyT t) :
  Calls Try.prog 31 #[.agg #[.slice (some ⟨b, o, none⟩) n k, .int .i64 i, .int .i64 d, .int .i64 c, .int .i64 a], .string t] w fun e w' => (∃ i' c' a' : Nat, e = .returned (.agg #[.slice (some ⟨b, o, none⟩) n k, .int .i64 i', .int .i64 d, .int .i64 c', .int .i64 a']) ∧ SR n T (s.need t) i' c' a') ∧ w.grownBy w' none := by
 have HI := Lib.hid (fun W (hW : w.grownBy W none) => ris_any b o n k T s W (h.keep hW) i d c a t hs ht)
 have A1 := Lib.hid (alc2a w (.cells #[.slice (some ⟨b, o, none⟩) n k, .int .i64 i, .int .i64 d, .int .i64 c, .int .i64 a] 81) (.cells #[.slice none 0 0, .int .i64 0, .int .i64 0, .int .i64 0, .int .i64 0] 81))
 have R1 := Lib.hid (alc2b w (.cells #[.slice (some ⟨b, o, none⟩) n k, .int .i64 i, .int .i64 d, .int .i64 c, .int .i64 a] 81) (.cells #[.slice none 0 0, .int .i64 0, .int .i64 0, .int .i64 0, .int .i64 0] 81))
 have G1 := Lib.hid (gq_al (gq_al (grown_reflT w none) (.cells #[.slice (some ⟨b, o, none⟩) n k, .int .i64 i, .int .i64 d, .int .i64 c, .int .i64 a] 81)) (.cells #[.slice none 0 0, .int .i64 0, .int .i64 0, .int .i64 0, .int .i64 0] 81))
 obtain ⟨q, hq⟩ : ∃ q, q = s.comes t := ⟨_, rfl⟩
 rw [← hq] at HI
 cases q with
 | true =>
  have HP := Lib.hid (fun W (hW : w.grownBy W none) => rpass_any b o n k T s W (h.keep hW) i d c a t hs ht hq.symm)
  have HN : Hid (s.need t = s.pass) := Lib.hid (by unfold RS.need; rw [← hq]; rfl)
  clear h hs ht hq
  go_enter Try.func31, Try.ntmps31
  go_wp2_with fail
  refine (HI.out _ G1.out).mono ?_
  rintro e w2 ⟨rfl, hg⟩
  have R2 := Lib.hid (blkD hg R1.out)
  obtain ⟨⟨r0, r1, r2, r3, r4⟩, q0, q1, q2, q3, q4⟩ := boxD5 R2.out
  have A2 := Lib.hid (blkD hg A1.out)
  have G2 := Lib.hid (G1.out.trans hg)
  obtain ⟨⟨c0, c1, c2, c3, c4⟩, f0, f1, f2, f3, f4⟩ := boxD5 A2.out
  clear hg
  go_wp2_with fail
  refine (HP.out _ G2.out).mono ?_
  rintro e w3 ⟨⟨rfl, hS⟩, hg⟩
  have HS := Lib.hid hS
  have R3 := Lib.hid (blkD hg R2.out)
  obtain ⟨⟨r0, r1, r2, r3, r4⟩, q0, q1, q2, q3, q4⟩ := boxD5 R3.out
  have A3 := Lib.hid (blkD hg A2.out)
  have G3 := Lib.hid (G2.out.trans hg)
  obtain ⟨⟨c0, c1, c2, c3, c4⟩, f0, f1, f2, f3, f4⟩ := boxD5 A3.out
  clear hg
  clear hS
  go_wp2_with fail
  exact bodyPost_ret (results_cell_row rfl _ _ (w.heap.size + 1) _ _ _ _ rfl (setD5 (by repeat (first | with_reducible exact R3.out | refine blk_ne ?_ (by simp <;> omega)))) Try.underlying81 rfl st_size) rfl ⟨⟨i + 1, 0, 0, rfl, by rw [HN.out]; exact HS.out⟩, (by repeat (first | with_reducible exact G3.out | with_reducible exact grown_reflT _ _ | with_reducible refine gq_set ?_ _ _ ?_ | with_reducible refine gq_al ?_ _ | with_reducible refine gq_row ?_ _ ?_ | with_reducible refine gq_dr ?_ | (simp; done) | (simp; omega) | omega))⟩
 | false =>
  have HP := Lib.hid (fun W (hW : w.grownBy W none) => rfail_any b o n k T s W (h.keep hW) i d c a 11 hs (by decide))
  have HN : Hid (s.need t = s.wrong 11) := Lib.hid (by unfold RS.need; rw [← hq]; rfl)
  clear h hs ht hq
  go_enter Try.func31, Try.ntmps31
  go_wp2_with fail
  refine (HI.out _ G1.out).mono ?_
  rintro e w2 ⟨rfl, hg⟩
  have R2 := Lib.hid (blkD hg R1.out)
  obtain ⟨⟨r0, r1, r2, r3, r4⟩, q0, q1, q2, q3, q4⟩ := boxD5 R2.out
  have A2 := Lib.hid (blkD hg A1.out)
  have G2 := Lib.hid (G1.out.trans hg)
  obtain ⟨⟨c0, c1, c2, c3, c4⟩, f0, f1, f2, f3, f4⟩ := boxD5 A2.out
  clear hg
  go_wp2_with fail
  refine (HP.out _ G2.out).mono ?_
  rintro e w3 ⟨⟨c', a', rfl, hS⟩, hg⟩
  have HS := Lib.hid hS
  have R3 := Lib.hid (blkD hg R2.out)
  obtain ⟨⟨r0, r1, r2, r3, r4⟩, q0, q1, q2, q3, q4⟩ := boxD5 R3.out
  have A3 := Lib.hid (blkD hg A2.out)
  have G3 := Lib.hid (G2.out.trans hg)
  obtain ⟨⟨c0, c1, c2, c3, c4⟩, f0, f1, f2, f3, f4⟩ := boxD5 A3.out
  clear hg
  clear hS
  go_wp2_with fail
  exact bodyPost_ret (results_cell_row rfl _ _ (w.heap.size + 1) _ _ _ _ rfl (setD5 (by repeat (first | with_reducible exact R3.out | refine blk_ne ?_ (by simp <;> omega)))) Try.underlying81 rfl st_size) rfl ⟨⟨i, c', a', rfl, by rw [HN.out]; exact HS.out⟩, (by repeat (first | with_reducible exact G3.out | with_reducible exact grown_reflT _ _ | with_reducible refine gq_set ?_ _ _ ?_ | with_reducible refine gq_al ?_ _ | with_reducible refine gq_row ?_ _ ?_ | with_reducible refine gq_dr ?_ | (simp; done) | (simp; omega) | omega))⟩
end Go.Proofs.Ytfambadamebjjaa
namespace Go.Proofs.Ytfambadamebjjaa
open Go.RowKit

def Itm.c (x : Itm) : List Value := [.int .i64 x.agg, .string x.col, .int .i64 x.pos]
def Kyo.c (x : Kyo) : List Value := [.int .i64 x.item.agg, .string x.item.col, .int .i64 x.item.pos, .bool x.desc]
theorem aggT_cases (t : ByteArray) : (t = bCount ∧ aggT t = 2) ∨ (¬ t = bCount ∧ t = bSum ∧ aggT t = 3) ∨ (¬ t = bCount ∧ ¬ t = bSum ∧ t = bMin ∧ aggT t = 4) ∨ (¬ t = bCount ∧ ¬ t = bSum ∧ ¬ t = bMin ∧ t = bMax ∧ aggT t = 5) ∨ (¬ t = bCount ∧ ¬ t = bSum ∧ ¬ t = bMin ∧ ¬ t = bMax ∧ aggT t = 0) := by
 unfold aggT
 by_cases h1 : t = bCount
 ·exact .inl ⟨h1, if_pos h1⟩
 ·rw [if_neg h1]
  by_cases h2 : t = bSum
  ·exact .inr (.inl ⟨h1, h2, if_pos h2⟩)
  ·rw [if_neg h2]
   by_cases h3 : t = bMin
   ·exact .inr (.inr (.inl ⟨h1, h2, h3, if_pos h3⟩))
   ·rw [if_neg h3]
    by_cases h4 : t = bMax
    ·exact .inr (.inr (.inr (.inl ⟨h1, h2, h3, h4, if_pos h4⟩)))
    ·exact .inr (.inr (.inr (.inr ⟨h1, h2, h3, h4, if_neg h4⟩)))
end Go.Proofs.Ytfambadamebjjaa
