import Derived.Test.YtfambadamebjjaaZs07
import Derived.WalkKit
import Derived.WalkSpells
import Derived.WalkLawsBesides
import Derived.Lib.Hide
import Derived.Lib.IndexBytes
import Derived.Deep.DeepCutAuto
set_option linter.unusedSimpArgs false
set_option linter.unusedVariables false
namespace Go.Proofs.Ytfambadamebjjaa
open Go.RowKit

def intRes (l : List UInt8) : Value := if wrB l then (if inI (ival l) then .tuple #[vi (ival l), .int .i64 0] else .tuple #[vz, .int .i64 1]) else .tuple #[vz, .int .i64 2]

def readV (l : List UInt8) : Value :=
 if l = [78, 85, 76, 76] then .tuple #[vz, .int .i64 0]
 else if l = [70, 65, 76, 83, 69] then .tuple #[.agg #[.int .i64 1, .int .i64 0, .string ⟨#[]⟩], .int .i64 0]
 else if l = [84, 82, 85, 69] then .tuple #[.agg #[.int .i64 1, .int .i64 1, .string ⟨#[]⟩], .int .i64 0]
 else match l with
  | c :: r => if c = 39 then textRes (readB r) else intRes (c :: r)
  | [] => intRes []

theorem bytes_is {s : ByteArray} {l : List UInt8} (h : s.data.toList = l) : (s.toList == l) = true := by rw [Lib.toList_data, h, beq_self_eq_true]
theorem bytes_not {s : ByteArray} {l : List UInt8} (h : s.data.toList ≠ l) : (s.toList == l) = false := by rw [Lib.toList_data, beq_eq_false_iff_ne]; exact h

end Go.Proofs.Ytfambadamebjjaa
namespace Go.Proofs.Ytfambadamebjjaa
open Go.RowKit

def letB (c : UInt8) : Bool := decide (97 ≤ c.toNat) && decide (c.toNat ≤ 122)
def okAt (i : Nat) (c : UInt8) : Bool := letB c || (decide (i ≠ 0) && (digB c || decide (c.toNat = 95)))
def okUp (s : ByteArray) (k : Nat) : Bool := (List.range k).all fun i => okAt i (s.data.toList.getD i 0)
def nameB (s : ByteArray) : Bool := decide (0 < s.size) && decide (s.size ≤ 20) && okUp s s.size
theorem okUp_step (s : ByteArray) (k : Nat) : okUp s (k + 1) = (okUp s k && okAt k (s.data.toList.getD k 0)) := by
 unfold okUp
 rw [List.range_succ, List.all_append]
 simp
theorem okUp_no {s : ByteArray} {k n : Nat} (hk : k < n) (h : okAt k (s.data.toList.getD k 0) = false) : okUp s n = false := by
 unfold okUp
 rw [List.all_eq_false]
 exact ⟨k, List.mem_range.2 hk, by rw [h]; decide⟩
theorem byte_at {s : ByteArray} {k : Nat} (h : k < s.size) : s.data.toList.getD k 0 = s[k] := by
 have h2 : k < s.data.toList.length := by rw [Array.length_toList]; exact h
 simp only [List.getD, List.getElem?_eq_getElem h2, Option.getD_some]
 rfl
theorem ret_bool6 {a b : Bool} (h : a = b) : Ending.returned (.bool a) = .returned (.bool b) := by rw [h]
set_option maxHeartbeats 3200000 in
theorem refName_any (s : ByteArray) (w : World) (hsz : s.size ≤ 9223372036854775807) : Calls Try.prog 70 #[.string s] w fun e w' => e = .returned (.bool (nameB s)) ∧ w = w' := by
 by_cases h0 : s.size = 0
 ·have e0 : s = ⟨#[]⟩ := by
   apply ByteArray.ext
   exact Array.eq_empty_of_size_eq_zero h0
  subst e0
  go_enter Try.func70, Try.ntmps70
  go_wp2_with fail
  go_loop [3] (fun i => i = .int .i64 0) (fun _ => 0)
  case atStart => rfl
  case round =>
   subst hrel
   go_wp2_with fail
   go_ret
   exact ⟨ret_bool6 (by decide), rfl⟩
 ·have hne : s.toList.isEmpty = false := by
   rw [Lib.toList_data, Bool.eq_false_iff]
   intro h
   have := List.isEmpty_iff.1 h
   apply h0
   have h2 := congrArg List.length this
   rw [Array.length_toList] at h2
   exact h2
  go_enter Try.func70, Try.ntmps70
  go_wp2_with fail
  go_loop [3] (fun i => ∃ (k : Nat), i = .int .i64 k ∧ k ≤ s.size ∧ Hid (okUp s k = true)) (fun i => s.size - (intOf i).toNat)
  case atStart => exact ⟨0, rfl, by omega, Lib.hid rfl⟩
  case round =>
   obtain ⟨k, rfl, hk, U⟩ := hrel
   by_cases hlt : k < s.size
   ·have hb := byte_at hlt
    have i0 : (0 : Int) ≤ k := by omega
    have i1 : (k : Int) < s.size := by omega
    have hst := okUp_step s k
    rw [U.out, hb, Bool.true_and] at hst
    have HN : Hid (okAt k s[k] = false → nameB s = false) := Lib.hid fun h => by
     have := okUp_no (s := s) hlt (by rw [hb]; exact h)
     unfold nameB
     rw [this]; simp
    have HS := Lib.hid hst
    obtain ⟨y, hy⟩ : ∃ y, y = s[k] := ⟨_, rfl⟩
    rw [← hy] at HN HS
    have hix : (s[k]).toNat = y.toNat := by rw [hy]
    have key : (okAt k y = true ∧ (((97 : Int) ≤ y.toNat ∧ (y.toNat : Int) ≤ 122) ∨ (¬ (k : Int) = 0 ∧ (48 : Int) ≤ y.toNat ∧ (y.toNat : Int) ≤ 57) ∨ (¬ (k : Int) = 0 ∧ (y.toNat : Int) = 95)))
      ∨ (okAt k y = false ∧ ((y.toNat : Int) < 48 ∨ ((57 : Int) < y.toNat ∧ (y.toNat : Int) < 95) ∨ (y.toNat : Int) = 96 ∨ (122 : Int) < y.toNat ∨ (k = 0 ∧ (48 : Int) ≤ y.toNat ∧ (y.toNat : Int) ≤ 57) ∨ (k = 0 ∧ (y.toNat : Int) = 95))) := by
     by_cases h : okAt k y = true
     ·refine .inl ⟨h, ?_⟩
      unfold okAt letB digB at h
      simp at h
      omega
     ·refine .inr ⟨by simpa using h, ?_⟩
      unfold okAt letB digB at h
      simp at h
      omega
    clear hst hb hy
    rcases key with ⟨e1, h⟩ | ⟨e1, h⟩
    ·rw [e1] at HS
     have HS' := Lib.hid HS.out
     clear HN HS
     rcases h with ⟨h1, h2⟩ | ⟨h0, h1, h2⟩ | ⟨h0, h1⟩
     ·go_wp2_with fail
      go_round
      case rel => exact ⟨k + 1, by go_num, by omega, HS'⟩
      case measure => simp [intOf]; omega
     ·have h3 : (y.toNat : Int) < 97 := by omega
      go_wp2_with fail
      go_round
      case rel => exact ⟨k + 1, by go_num, by omega, HS'⟩
      case measure => simp [intOf]; omega
     ·have h3 : (y.toNat : Int) < 97 := by omega
      have h4 : (57 : Int) < (y.toNat : Int) := by omega
      have h5 : ((y.toNat : Int) == 95) = true := beq_iff_eq.2 (by omega)
      have h6 : (48 : Int) ≤ (y.toNat : Int) := by omega
      clear h1
      go_wp2_with fail
      go_round
      case rel => exact ⟨k + 1, by go_num, by omega, HS'⟩
      case measure => simp [intOf]; omega
    ·have hn := HN.out e1
     clear HN HS e1
     rcases h with h1 | ⟨h1, h2⟩ | h1 | h1 | ⟨rfl, h1, h2⟩ | ⟨rfl, h1⟩
     ·have h3 : (y.toNat : Int) < 97 := by omega
      have h5 : ((y.toNat : Int) == 95) = false := beq_eq_false_iff_ne.2 (by omega)
      go_wp2_with fail
      go_ret
      exact ⟨by first | rfl | exact ret_bool6 hn.symm, rfl⟩
     ·have h3 : (y.toNat : Int) < 97 := by omega
      have h4 : (48 : Int) ≤ (y.toNat : Int) := by omega
      have h5 : ((y.toNat : Int) == 95) = false := beq_eq_false_iff_ne.2 (by omega)
      go_wp2_with fail
      go_ret
      exact ⟨by first | rfl | exact ret_bool6 hn.symm, rfl⟩
     ·have h3 : (y.toNat : Int) < 97 := by omega
      have h4 : (48 : Int) ≤ (y.toNat : Int) := by omega
      have h6 : (57 : Int) < (y.toNat : Int) := by omega
      have h5 : ((y.toNat : Int) == 95) = false := beq_eq_false_iff_ne.2 (by omega)
      clear h1
      go_wp2_with fail
      go_ret
      exact ⟨by first | rfl | exact ret_bool6 hn.symm, rfl⟩
     ·have h3 : (97 : Int) ≤ (y.toNat : Int) := by omega
      have h4 : (48 : Int) ≤ (y.toNat : Int) := by omega
      have h7 : decide ((y.toNat : Int) ≤ 122) = false := decide_eq_false (by omega)
      have h8 : decide ((y.toNat : Int) ≤ 57) = false := decide_eq_false (by omega)
      have h6 : (57 : Int) < (y.toNat : Int) := by omega
      have h5 : ((y.toNat : Int) == 95) = false := beq_eq_false_iff_ne.2 (by omega)
      go_wp2_with fail
      go_ret
      exact ⟨by first | rfl | exact ret_bool6 hn.symm, rfl⟩
     ·have h3 : (y.toNat : Int) < 97 := by omega
      go_wp2_with fail
      go_ret
      exact ⟨by first | rfl | exact ret_bool6 hn.symm, rfl⟩
     ·have h3 : (y.toNat : Int) < 97 := by omega
      have h4 : (48 : Int) ≤ (y.toNat : Int) := by omega
      have h6 : (57 : Int) < (y.toNat : Int) := by omega
      have h5 : ((y.toNat : Int) == 95) = true := beq_iff_eq.2 h1
      clear h1
      go_wp2_with fail
      go_ret
      exact ⟨by first | rfl | exact ret_bool6 hn.symm, rfl⟩
   ·obtain rfl : k = s.size := by omega
    by_cases h20 : s.size ≤ 20
    ·have h20' : (s.size : Int) ≤ 20 := by omega
     go_wp2_with fail
     go_ret
     have hn : nameB s = true := by unfold nameB; rw [U.out, decide_eq_true (show 0 < s.size by omega), decide_eq_true h20]; rfl
     exact ⟨ret_bool6 (by rw [hn]; try (first | rfl | (simp; done) | (simp; omega))), rfl⟩
    ·have h20' : (20 : Int) < s.size := by omega
     go_wp2_with fail
     go_ret
     have hn : nameB s = false := by unfold nameB; rw [decide_eq_false h20]; simp
     exact ⟨ret_bool6 (by rw [hn]; try (first | rfl | (simp; done) | (simp; omega))), rfl⟩
end Go.Proofs.Ytfambadamebjjaa
namespace Go.Proofs.Ytfambadamebjjaa
open Go.RowKit

abbrev Ptr := Option Addr
end Go.Proofs.Ytfambadamebjjaa
namespace Go.Proofs.Ytfambadamebjjaa
open Go.RowKit

def blankB (c : UInt8) : Bool := decide (c.toNat = 9) || decide (c.toNat = 10) || decide (c.toNat = 13) || decide (c.toNat = 32)
def upB (c : UInt8) : Bool := decide (65 ≤ c.toNat) && decide (c.toNat ≤ 90)
def partB (c : UInt8) : Bool := letB c || upB c || digB c || decide (c.toNat = 95)
def runL (f : UInt8 → Bool) : List UInt8 → Nat
 | [] => 0
 | c :: r => if f c then runL f r + 1 else 0
theorem runL_le (f : UInt8 → Bool) : ∀ l : List UInt8, runL f l ≤ l.length
 | [] => Nat.le_refl _
 | c :: r => by
  simp only [runL]; split
  ·have := runL_le f r; simp; omega
  ·simp
def qC : List UInt8 → Option Nat
 | [] => none
 | [c] => if c = 39 then some 1 else none
 | c :: d :: r => if c = 39 then (if d = 39 then (qC r).map (· + 2) else some 1) else (qC (d :: r)).map (· + 1)
def qN (l : List UInt8) : Nat := (qC l).getD l.length
theorem qC_le : ∀ (n : Nat) (l : List UInt8) (k : Nat), l.length ≤ n → qC l = some k → 1 ≤ k ∧ k ≤ l.length
 | _, [], k, _, h => by simp [qC] at h
 | 0, c :: r, k, hn, _ => by simp at hn
 | n + 1, [c], k, hn, h => by
  rw [qC] at h
  split at h
  ·simp at h; subst h; simp
  ·simp at h
 | n + 1, c :: d :: r, k, hn, h => by
  rw [qC] at h
  split at h
  ·split at h
   ·obtain ⟨j, hj, rfl⟩ := Option.map_eq_some_iff.1 h
    have := qC_le n r j (by simp at hn; omega) hj
    simp; omega
   ·simp at h; subst h; simp
  ·obtain ⟨j, hj, rfl⟩ := Option.map_eq_some_iff.1 h
   have := qC_le n (d :: r) j (by simp at hn; simp; omega) hj
   simp at this ⊢; omega
theorem qN_le (l : List UInt8) : qN l ≤ l.length := by
 unfold qN
 cases h : qC l with
 | none => exact Nat.le_refl _
 | some k => exact (qC_le _ l k (Nat.le_refl _) h).2

def intC (l : List UInt8) : Nat := if wrB l then (if inI (ival l) then 0 else 1) else 2
def textC (o : Option (List UInt8)) : Nat := match o with | none => 2 | some t => if t.length ≤ 60 then 0 else 1
def readC (l : List UInt8) : Nat :=
 if l = [78, 85, 76, 76] then 0 else if l = [70, 65, 76, 83, 69] then 0 else if l = [84, 82, 85, 69] then 0
 else match l with
  | c :: r => if c = 39 then textC (readB r) else intC (c :: r)
  | [] => intC []
theorem textRes_code (o : Option (List UInt8)) : ∃ k n t, textRes o = .tuple #[.agg #[.int .i64 k, .int .i64 n, .string t], .int .i64 (textC o)] := by
 unfold textRes textC
 cases o with
 | none => exact ⟨_, _, _, rfl⟩
 | some t => simp only; split <;> exact ⟨_, _, _, rfl⟩
theorem intRes_code (l : List UInt8) : ∃ k n t, intRes l = .tuple #[.agg #[.int .i64 k, .int .i64 n, .string t], .int .i64 (intC l)] := by
 unfold intRes intC
 split
 ·split <;> exact ⟨_, _, _, rfl⟩
 ·exact ⟨_, _, _, rfl⟩
theorem readV_code (l : List UInt8) : ∃ k n t, readV l = .tuple #[.agg #[.int .i64 k, .int .i64 n, .string t], .int .i64 (readC l)] := by
 unfold readV readC
 split
 ·exact ⟨_, _, _, rfl⟩
 ·split
  ·exact ⟨_, _, _, rfl⟩
  ·split
   ·exact ⟨_, _, _, rfl⟩
   ·match l with
    | [] => exact intRes_code []
    | c :: r =>
     simp only
     split
     ·exact textRes_code _
     ·exact intRes_code _
theorem textC_le (o : Option (List UInt8)) : textC o ≤ 2 := by
 unfold textC
 split
 ·omega
 ·split <;> omega
theorem intC_le (l : List UInt8) : intC l ≤ 2 := by
 unfold intC
 split
 ·split <;> omega
 ·omega
theorem readC_le (l : List UInt8) : readC l ≤ 2 := by
 unfold readC
 split
 ·omega
 ·split
  ·omega
  ·split
   ·omega
   ·split
    ·split
     ·exact textC_le _
     ·exact intC_le _
    ·exact intC_le _

def litC (l : List UInt8) : Nat := match readC l with | 0 => 0 | 1 => 1 | _ => 10
def words : List (List UInt8) := [[83, 69, 76, 69, 67, 84], [70, 82, 79, 77], [87, 72, 69, 82, 69], [71, 82, 79, 85, 80], [79, 82, 68, 69, 82], [66, 89], [76, 73, 77, 73, 84], [65, 83, 67], [68, 69, 83, 67],
 [65, 78, 68], [79, 82], [78, 79, 84], [73, 83], [73, 78], [66, 69, 84, 87, 69, 69, 78], [78, 85, 76, 76], [84, 82, 85, 69], [70, 65, 76, 83, 69], [67, 79, 85, 78, 84], [83, 85, 77], [77, 73, 78], [77, 65, 88]]
def wordB (l : List UInt8) : Bool := words.contains l
def nameL (l : List UInt8) : Bool := nameB ⟨l.toArray⟩
def signN (l : List UInt8) : Nat :=
 if Lib.hasPrefix l [60, 62] || Lib.hasPrefix l [60, 61] || Lib.hasPrefix l [62, 61] then 2
 else match l with | c :: _ => if [61, 60, 62, 42, 44, 40, 41].contains c then 1 else 0 | [] => 0
def tokL (l : List UInt8) : Nat × Nat × Nat := match l with
 | [] => (0, 0, 10)
 | c :: r =>
  if c.toNat = 39 then (3, 1 + qN r, litC ((c :: r).take (1 + qN r)))
  else if c.toNat = 45 then (2, 1 + runL partB r, litC ((c :: r).take (1 + runL partB r)))
  else if digB c then (2, runL partB (c :: r), litC ((c :: r).take (runL partB (c :: r))))
  else if partB c then
   (if wordB ((c :: r).take (runL partB (c :: r))) then (5, runL partB (c :: r), 0)
    else if nameL ((c :: r).take (runL partB (c :: r))) then (1, runL partB (c :: r), 0) else (0, runL partB (c :: r), 10))
  else if signN (c :: r) = 0 then (4, 0, 10) else (4, signN (c :: r), 0)
structure Tk where
 kind : Nat
 text : ByteArray
 pos : Nat
def lexF (s : ByteArray) : Nat → Nat → List Tk → Except (Nat × Nat) (List Tk)
 | 0, _, acc => .ok acc
 | f + 1, at0, acc =>
  if at0 + runL blankB (s.data.toList.drop at0) = s.size then .ok (acc ++ [⟨0, ⟨#[]⟩, s.size⟩])
  else match tokL (s.data.toList.drop (at0 + runL blankB (s.data.toList.drop at0))) with
   | (k, n, 0) => if acc.length = 250 then .error (at0 + runL blankB (s.data.toList.drop at0), 3)
    else lexF s f (at0 + runL blankB (s.data.toList.drop at0) + n) (acc ++ [⟨k, s.extract (at0 + runL blankB (s.data.toList.drop at0)) (at0 + runL blankB (s.data.toList.drop at0) + n), at0 + runL blankB (s.data.toList.drop at0)⟩])
   | (_, _, c + 1) => .error (at0 + runL blankB (s.data.toList.drop at0), c + 1)
def lexL (s : ByteArray) : Except (Nat × Nat) (List Tk) := if 1500 < s.size then .error (1500, 13) else lexF s (s.size + 1) 0 []

theorem signN_le (l : List UInt8) : signN l ≤ l.length ∧ signN l ≤ 2 := by
 unfold signN
 split
 ·rename_i h
  match l, h with
  | [], h => simp [Lib.hasPrefix] at h
  | [a], h => simp [Lib.hasPrefix] at h
  | a :: b :: r, _ => simp
 ·split
  ·split <;> simp
  ·simp
theorem tokL_len (l : List UInt8) (k n c : Nat) (h : tokL l = (k, n, c)) : n ≤ l.length ∧ (c = 0 → 1 ≤ n) ∧ c ≤ 10 := by
 match l, h with
 | [], h => simp [tokL] at h; obtain ⟨rfl, rfl, rfl⟩ := h; simp
 | a :: r, h =>
  have hl : ∀ x, litC x ≤ 10 := fun x => by unfold litC; split <;> omega
  have hr1 := runL_le partB r
  have hr2 := runL_le partB (a :: r)
  have hq := qN_le r
  have hs := signN_le (a :: r)
  simp only [tokL] at h
  have hp : partB a = true → 1 ≤ runL partB (a :: r) := fun h => by simp [runL, h]
  have hd : digB a = true → partB a = true := fun h => by simp [partB, h]
  split at h
  ·simp only [Prod.mk.injEq] at h; obtain ⟨_, rfl, rfl⟩ := h; exact ⟨by simp; omega, fun _ => by omega, hl _⟩
  ·split at h
   ·simp only [Prod.mk.injEq] at h; obtain ⟨_, rfl, rfl⟩ := h; exact ⟨by simp; omega, fun _ => by omega, hl _⟩
   ·split at h
    ·rename_i hdg
     simp only [Prod.mk.injEq] at h; obtain ⟨_, rfl, rfl⟩ := h; exact ⟨hr2, fun _ => hp (hd hdg), hl _⟩
    ·split at h
     ·rename_i hpt
      split at h
      ·simp only [Prod.mk.injEq] at h; obtain ⟨_, rfl, rfl⟩ := h; exact ⟨hr2, fun _ => hp hpt, by omega⟩
      ·split at h <;> (simp only [Prod.mk.injEq] at h; obtain ⟨_, rfl, rfl⟩ := h; exact ⟨hr2, fun _ => hp hpt, by omega⟩)
     ·split at h <;> (simp only [Prod.mk.injEq] at h; obtain ⟨_, rfl, rfl⟩ := h)
      ·exact ⟨by omega, fun h => by omega, by omega⟩
      ·exact ⟨hs.1, fun _ => by omega, by omega⟩
end Go.Proofs.Ytfambadamebjjaa
