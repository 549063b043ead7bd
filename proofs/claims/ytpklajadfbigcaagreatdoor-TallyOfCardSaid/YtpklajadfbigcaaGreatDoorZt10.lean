import Derived.Test.YtpklajadfbigcaaGreatDoorZt09
import Derived.Deep.RegionWith
import Derived.Deep.RegionHeld3
import Derived.BigQuiet
import Derived.StillTailTactics
import Derived.WalkKit
import Derived.WalkSpells
import Derived.WalkLawsBesides
import Derived.Lib.Hide
import Derived.Lib.IndexBytes
import Derived.Deep.DeepCutAuto
set_option linter.unusedSimpArgs false
set_option linter.unusedVariables false
namespace Go.Proofs.YtpklajadfbigcaaGreatDoor
open Go.RowKit

end Go.Proofs.YtpklajadfbigcaaGreatDoor
namespace Go.Proofs.YtpklajadfbigcaaGreatDoor
open Go.RowKit

def intRes (l : List UInt8) : Value := if wrB l then (if inI (ival l) then .tuple #[vi (ival l), .int .i64 0] else .tuple #[vz, .int .i64 1]) else .tuple #[vz, .int .i64 2]

def readV (l : List UInt8) : Value :=
  if l = [78, 85, 76, 76] then .tuple #[vz, .int .i64 0]
  else if l = [70, 65, 76, 83, 69] then .tuple #[.agg #[.int .i64 1, .int .i64 0, .string ⟨#[]⟩], .int .i64 0]
  else if l = [84, 82, 85, 69] then .tuple #[.agg #[.int .i64 1, .int .i64 1, .string ⟨#[]⟩], .int .i64 0]
  else match l with
    | c :: r => if c = 39 then textRes (readB r) else intRes (c :: r)
    | [] => intRes []

end Go.Proofs.YtpklajadfbigcaaGreatDoor
namespace Go.Proofs.YtpklajadfbigcaaGreatDoor
open Go.RowKit

def letB (c : UInt8) : Bool := decide (97 ≤ c.toNat) && decide (c.toNat ≤ 122)
def okAt (i : Nat) (c : UInt8) : Bool := letB c || (decide (i ≠ 0) && (digB c || decide (c.toNat = 95)))
def okUp (s : ByteArray) (k : Nat) : Bool := (List.range k).all fun i => okAt i (s.data.toList.getD i 0)
def nameB (s : ByteArray) : Bool := decide (0 < s.size) && decide (s.size ≤ 20) && okUp s s.size
theorem okUp_step (s : ByteArray) (k : Nat) : okUp s (k + 1) = (okUp s k && okAt k (s.data.toList.getD k 0)) := by
  unfold okUp
  rw [List.range_succ, List.all_append]
  simp
theorem okUp_no {s : ByteArray} {k n : Nat} (hk : k < n) (h : okAt k (s.data.toList.getD k 0) = false) : okUp s n = false := by
  unfold okUp
  rw [List.all_eq_false]
  exact ⟨k, List.mem_range.2 hk, by rw [h]; decide⟩
theorem byte_at {s : ByteArray} {k : Nat} (h : k < s.size) : s.data.toList.getD k 0 = s[k] := by
  have h2 : k < s.data.toList.length := by rw [Array.length_toList]; exact h
  simp only [List.getD, List.getElem?_eq_getElem h2, Option.getD_some]
  rfl
theorem ret_bool6 {a b : Bool} (h : a = b) : Ending.returned (.bool a) = .returned (.bool b) := by rw [h]
set_option maxHeartbeats 3200000 in
theorem refName_any (s : ByteArray) (w : World) (hsz : s.size ≤ 9223372036854775807) : Calls Tryz.prog 62 #[.string s] w fun e w' => e = .returned (.bool (nameB s)) ∧ w = w' := by
  by_cases h0 : s.size = 0
  · have e0 : s = ⟨#[]⟩ := by
      apply ByteArray.ext
      exact Array.eq_empty_of_size_eq_zero h0
    subst e0
    go_enter Tryz.func62, Tryz.ntmps62
    go_wp2_with fail
    go_loop [3] (fun i => i = .int .i64 0) (fun _ => 0)
    case atStart => rfl
    case round =>
      subst hrel
      go_wp2_with fail
      go_ret
      exact ⟨ret_bool6 (by decide), rfl⟩
  · have hne : s.toList.isEmpty = false := by
      rw [Lib.toList_data, Bool.eq_false_iff]
      intro h
      have := List.isEmpty_iff.1 h
      apply h0
      have h2 := congrArg List.length this
      rw [Array.length_toList] at h2
      exact h2
    go_enter Tryz.func62, Tryz.ntmps62
    go_wp2_with fail
    go_loop [3] (fun i => ∃ (k : Nat), i = .int .i64 k ∧ k ≤ s.size ∧ Hid (okUp s k = true)) (fun i => s.size - (intOf i).toNat)
    case atStart => exact ⟨0, rfl, by omega, Lib.hid rfl⟩
    case round =>
      obtain ⟨k, rfl, hk, U⟩ := hrel
      by_cases hlt : k < s.size
      · have hb := byte_at hlt
        have i0 : (0 : Int) ≤ k := by omega
        have i1 : (k : Int) < s.size := by omega
        have hst := okUp_step s k
        rw [U.out, hb, Bool.true_and] at hst
        have HN : Hid (okAt k s[k] = false → nameB s = false) := Lib.hid fun h => by
          have := okUp_no (s := s) hlt (by rw [hb]; exact h)
          unfold nameB
          rw [this]; simp
        have HS := Lib.hid hst
        obtain ⟨y, hy⟩ : ∃ y, y = s[k] := ⟨_, rfl⟩
        rw [← hy] at HN HS
        have hix : (s[k]).toNat = y.toNat := by rw [hy]
        have key : (okAt k y = true ∧ (((97 : Int) ≤ y.toNat ∧ (y.toNat : Int) ≤ 122) ∨ (¬ (k : Int) = 0 ∧ (48 : Int) ≤ y.toNat ∧ (y.toNat : Int) ≤ 57) ∨ (¬ (k : Int) = 0 ∧ (y.toNat : Int) = 95)))
            ∨ (okAt k y = false ∧ ((y.toNat : Int) < 48 ∨ ((57 : Int) < y.toNat ∧ (y.toNat : Int) < 95) ∨ (y.toNat : Int) = 96 ∨ (122 : Int) < y.toNat ∨ (k = 0 ∧ (48 : Int) ≤ y.toNat ∧ (y.toNat : Int) ≤ 57) ∨ (k = 0 ∧ (y.toNat : Int) = 95))) := by
          by_cases h : okAt k y = true
          · refine .inl ⟨h, ?_⟩
            unfold okAt letB digB at h
            simp at h
            omega
          · refine .inr ⟨by simpa using h, ?_⟩
            unfold okAt letB digB at h
            simp at h
            omega
        clear hst hb hy
        rcases key with ⟨e1, h⟩ | ⟨e1, h⟩
        · rw [e1] at HS
          have HS' := Lib.hid HS.out
          clear HN HS
          rcases h with ⟨h1, h2⟩ | ⟨h0, h1, h2⟩ | ⟨h0, h1⟩
          · go_wp2_with fail
            go_round
            case rel => exact ⟨k + 1, by go_num, by omega, HS'⟩
            case measure => simp [intOf]; omega
          · have h3 : (y.toNat : Int) < 97 := by omega
            go_wp2_with fail
            go_round
            case rel => exact ⟨k + 1, by go_num, by omega, HS'⟩
            case measure => simp [intOf]; omega
          · have h3 : (y.toNat : Int) < 97 := by omega
            have h4 : (57 : Int) < (y.toNat : Int) := by omega
            have h5 : ((y.toNat : Int) == 95) = true := beq_iff_eq.2 (by omega)
            have h6 : (48 : Int) ≤ (y.toNat : Int) := by omega
            clear h1
            go_wp2_with fail
            go_round
            case rel => exact ⟨k + 1, by go_num, by omega, HS'⟩
            case measure => simp [intOf]; omega
        · have hn := HN.out e1
          clear HN HS e1
          rcases h with h1 | ⟨h1, h2⟩ | h1 | h1 | ⟨rfl, h1, h2⟩ | ⟨rfl, h1⟩
          · have h3 : (y.toNat : Int) < 97 := by omega
            have h5 : ((y.toNat : Int) == 95) = false := beq_eq_false_iff_ne.2 (by omega)
            go_wp2_with fail
            go_ret
            exact ⟨by first | rfl | exact ret_bool6 hn.symm, rfl⟩
          · have h3 : (y.toNat : Int) < 97 := by omega
            have h4 : (48 : Int) ≤ (y.toNat : Int) := by omega
            have h5 : ((y.toNat : Int) == 95) = false := beq_eq_false_iff_ne.2 (by omega)
            go_wp2_with fail
            go_ret
            exact ⟨by first | rfl | exact ret_bool6 hn.symm, rfl⟩
          · have h3 : (y.toNat : Int) < 97 := by omega
            have h4 : (48 : Int) ≤ (y.toNat : Int) := by omega
            have h6 : (57 : Int) < (y.toNat : Int) := by omega
            have h5 : ((y.toNat : Int) == 95) = false := beq_eq_false_iff_ne.2 (by omega)
            clear h1
            go_wp2_with fail
            go_ret
            exact ⟨by first | rfl | exact ret_bool6 hn.symm, rfl⟩
          · have h3 : (97 : Int) ≤ (y.toNat : Int) := by omega
            have h4 : (48 : Int) ≤ (y.toNat : Int) := by omega
            have h7 : decide ((y.toNat : Int) ≤ 122) = false := decide_eq_false (by omega)
            have h8 : decide ((y.toNat : Int) ≤ 57) = false := decide_eq_false (by omega)
            have h6 : (57 : Int) < (y.toNat : Int) := by omega
            have h5 : ((y.toNat : Int) == 95) = false := beq_eq_false_iff_ne.2 (by omega)
            go_wp2_with fail
            go_ret
            exact ⟨by first | rfl | exact ret_bool6 hn.symm, rfl⟩
          · have h3 : (y.toNat : Int) < 97 := by omega
            go_wp2_with fail
            go_ret
            exact ⟨by first | rfl | exact ret_bool6 hn.symm, rfl⟩
          · have h3 : (y.toNat : Int) < 97 := by omega
            have h4 : (48 : Int) ≤ (y.toNat : Int) := by omega
            have h6 : (57 : Int) < (y.toNat : Int) := by omega
            have h5 : ((y.toNat : Int) == 95) = true := beq_iff_eq.2 h1
            clear h1
            go_wp2_with fail
            go_ret
            exact ⟨by first | rfl | exact ret_bool6 hn.symm, rfl⟩
      · obtain rfl : k = s.size := by omega
        by_cases h20 : s.size ≤ 20
        · have h20' : (s.size : Int) ≤ 20 := by omega
          go_wp2_with fail
          go_ret
          have hn : nameB s = true := by unfold nameB; rw [U.out, decide_eq_true (show 0 < s.size by omega), decide_eq_true h20]; rfl
          exact ⟨ret_bool6 (by rw [hn]; try (first | rfl | (simp; done) | (simp; omega))), rfl⟩
        · have h20' : (20 : Int) < s.size := by omega
          go_wp2_with fail
          go_ret
          have hn : nameB s = false := by unfold nameB; rw [decide_eq_false h20]; simp
          exact ⟨ret_bool6 (by rw [hn]; try (first | rfl | (simp; done) | (simp; omega))), rfl⟩
end Go.Proofs.YtpklajadfbigcaaGreatDoor
namespace Go.Proofs.YtpklajadfbigcaaGreatDoor
namespace Wd
open Go.RowKit

theorem nat_halves (x : BitVec 128) : x.toNat = hN (hiB x) * 18446744073709551616 + loB x := by
  have h := mkB_nat (hiB x) (loB x) (lo_lt x)
  rw [mk_hi_lo] at h
  have e := congrArg BitVec.toNat h
  rw [BitVec.toNat_ofNat] at e
  have h1 := hN_lt (hiB x)
  have h2 := lo_lt x
  omega
theorem wrap_hN (h : Int) : IntKind.u64.wrap h = (hN h : Int) := by
  rw [IntKind.wrap_u64]
  unfold hN
  omega
def textB (x : BitVec 128) : List UInt8 := if x.toInt < 0 then 45 :: Lib.decDigits (-x).toNat else Lib.decDigits x.toNat
theorem hi_sign (x : BitVec 128) : hiB x < 0 ↔ x.toInt < 0 := by
  have := hi_eq x
  have := lo_lt x
  omega
theorem small_half (x : BitVec 128) (h : x.toNat ≤ 170141183460469231731687303715884105728) : hN (hiB x) < 10000000000000000000 := by
  have := nat_halves x
  omega
theorem neg_small (x : BitVec 128) (h : x.toInt < 0) : (-x).toNat ≤ 170141183460469231731687303715884105728 := by
  have h1 := x.isLt
  rw [BitVec.toInt_eq_toNat_cond] at h
  rw [BitVec.toNat_neg]
  split at h <;> omega
theorem pos_small (x : BitVec 128) (h : ¬ x.toInt < 0) : x.toNat ≤ 170141183460469231731687303715884105728 := by
  have h1 := x.isLt
  rw [BitVec.toInt_eq_toNat_cond] at h
  split at h <;> omega

set_option maxHeartbeats 1600000 in
theorem text_gen (h k : Int) (l m : Nat) (t : ByteArray) (w : World) (hneg : h < 0)
    (HS : Hid (∀ w, Calls Tryz.prog 84 #[.agg #[.int .i64 0, .int .u64 0], .agg #[.int .i64 h, .int .u64 l]] w fun e w' => e = .returned (.agg #[.int .i64 k, .int .u64 m]) ∧ Below w.heap.size w w'))
    (HD : Hid (∀ w, TabW w → Calls Tryz.prog 83 #[.agg #[.int .i64 k, .int .u64 m]] w fun e w' => e = .returned (.string t) ∧ Below w.heap.size w w')) (ht : t.size ≤ 1000) (htab : TabW w) :
    Calls Tryz.prog 80 #[.agg #[.int .i64 h, .int .u64 l]] w fun e w' => e = .returned (.string ⟨(45 :: t.data.toList).toArray⟩) ∧ Below w.heap.size w w' := by
  have HT := Lib.hid htab
  clear htab
  have c0 : (w.alloc (.cells #[.int .i64 h, .int .u64 l] 75)).cell? ⟨w.heap.size, 0, none⟩ = some (.int .i64 h) := (box2_new w _ _ _).1
  have K0 := Lib.hid ((Below.refl w.heap.size w).alloc (Nat.le_refl _) (.cells #[.int .i64 h, .int .u64 l] 75))
  go_enter Tryz.func80, Tryz.ntmps80
  go_wp2_with fail
  refine (HS.out _).mono ?_
  rintro e w1 ⟨rfl, hb⟩
  have K1 := Lib.hid (K0.out.trans (hb.mono (by simp)))
  clear hb
  go_wp2_with fail
  refine (HD.out _ (HT.out.keep K1.out)).mono ?_
  rintro e w2 ⟨rfl, hb⟩
  have K2 := Lib.hid (K1.out.trans (hb.mono K1.out.size))
  clear hb
  go_wp2_with fail
  go_ret
  exact ⟨ret_bytes (by simp), K2.out⟩
set_option maxHeartbeats 1600000 in
theorem text_pos (h : Int) (l : Nat) (t : ByteArray) (w : World) (hpos : 0 ≤ h)
    (HD : Hid (∀ w, TabW w → Calls Tryz.prog 83 #[.agg #[.int .i64 h, .int .u64 l]] w fun e w' => e = .returned (.string t) ∧ Below w.heap.size w w')) (htab : TabW w) :
    Calls Tryz.prog 80 #[.agg #[.int .i64 h, .int .u64 l]] w fun e w' => e = .returned (.string t) ∧ Below w.heap.size w w' := by
  have HT := Lib.hid htab
  clear htab
  have K0 := Lib.hid ((Below.refl w.heap.size w).alloc (Nat.le_refl _) (.cells #[.int .i64 h, .int .u64 l] 75))
  go_enter Tryz.func80, Tryz.ntmps80
  go_wp2_with fail
  refine (HD.out _ (HT.out.keep K0.out)).mono ?_
  rintro e w2 ⟨rfl, hb⟩
  have K2 := Lib.hid (K0.out.trans (hb.mono (by simp)))
  clear hb
  go_wp2_with fail
  go_ret
  exact ⟨rfl, K2.out⟩
theorem wtext_any (x : BitVec 128) (w : World) (htab : TabW w) :
    Calls Tryz.prog 80 #[.agg #[.int .i64 (hiB x), .int .u64 (loB x)]] w fun e w' => e = .returned (.string ⟨(textB x).toArray⟩) ∧ Below w.heap.size w w' := by
  unfold textB
  by_cases hx : x.toInt < 0
  · rw [if_pos hx]
    have hs := neg_small x hx
    have e : hN (hiB (-x)) * 18446744073709551616 + loB (-x) = (-x).toNat := (nat_halves (-x)).symm
    have hl := dig_len 127 (-x).toNat (by omega)
    have := text_gen (hiB x) (hiB (-x)) (loB x) (loB (-x)) ⟨(Lib.decDigits (-x).toNat).toArray⟩ w ((hi_sign x).2 hx)
      (Lib.hid fun w => by have := sub_any 0#128 x w; rw [BitVec.zero_sub] at this; exact this)
      (Lib.hid fun w ht => by have := prog_digits (hiB (-x)) (hN (hiB (-x))) (loB (-x)) w (wrap_hN _) (small_half _ hs) (lo_lt _) ht; rw [e] at this; exact this)
      (by show (Lib.decDigits (-x).toNat).toArray.size ≤ 1000; rw [List.size_toArray]; omega) htab
    exact this
  · rw [if_neg hx]
    have e : hN (hiB x) * 18446744073709551616 + loB x = x.toNat := (nat_halves x).symm
    exact text_pos (hiB x) (loB x) _ w (by have := mt (hi_sign x).1 hx; omega)
      (Lib.hid fun w ht => by have := prog_digits (hiB x) (hN (hiB x)) (loB x) w (wrap_hN _) (small_half _ (pos_small x hx)) (lo_lt _) ht; rw [e] at this; exact this) htab
end Wd
end Go.Proofs.YtpklajadfbigcaaGreatDoor
namespace Go.Proofs.YtpklajadfbigcaaGreatDoor
open Go.RowKit

abbrev Ptr := Option Addr
end Go.Proofs.YtpklajadfbigcaaGreatDoor
