import Derived.Lib.ItoaNum
import Derived.Lib.Repeat
import Derived.Test.YtpklajadfbigcaaGreatDoorZt00
import Derived.Deep.QuietTactic
import Derived.BigQuiet
import Derived.Deep.RegionHeld3
import Derived.Deep.RegionWith
import Derived.Lib.Hide
import Derived.Test.YtpklajadfbigcaaGreatDoorShelf
import Derived.Lib.Builder
import Derived.Lib.AppendStr
set_option linter.unusedSimpArgs false
set_option linter.unusedVariables false
namespace Go.Proofs.YtpklajadfbigcaaGreatDoor
namespace Wd

theorem rep_snoc (k : Nat) : Lib.repeatL [48] (k + 1) = Lib.repeatL [48] k ++ [48] := by
  induction k with
  | zero => rfl
  | succ k ih =>
    have e : ∀ n, Lib.repeatL [48] (n + 1) = [48] ++ Lib.repeatL [48] n := fun _ => rfl
    rw [e (k + 1), ih, ← List.append_assoc, ← e k, ih]
theorem dig_len : ∀ (k b : Nat), b < 10 ^ (k + 1) → 1 ≤ (Lib.decDigits b).length ∧ (Lib.decDigits b).length ≤ k + 1
  | 0, b, h => by rw [Lib.decDigits, dif_pos (by omega)]; simp
  | k + 1, b, h => by
    rw [Lib.decDigits]
    split
    · simp
    · have := dig_len k (b / 10) (by rw [Nat.pow_succ] at h; omega)
      rw [List.length_append]
      simp only [List.length_cons, List.length_nil]
      omega
theorem dig_blocks (f : Nat) (hf : 1 ≤ f) : ∀ (k b : Nat), b < 10 ^ (k + 1) →
    Lib.decDigits (f * 10 ^ (k + 1) + b) = Lib.decDigits f ++ Lib.repeatL [48] (k + 1 - (Lib.decDigits b).length) ++ Lib.decDigits b
  | 0, b, h => by
    have hb : b < 10 := by omega
    rw [Lib.decDigits, dif_neg (by omega)]
    have e1 : (f * 10 ^ (0 + 1) + b) / 10 = f := by omega
    have e2 : (f * 10 ^ (0 + 1) + b) % 10 = b := by omega
    have e3 : Lib.decDigits b = [UInt8.ofNat (48 + b)] := by rw [Lib.decDigits, dif_pos hb]
    rw [e1, e2, e3]
    simp [Lib.repeatL]
  | k + 1, b, h => by
    have hb : b / 10 < 10 ^ (k + 1) := by rw [Nat.pow_succ] at h; omega
    have ih := dig_blocks f hf k (b / 10) hb
    have hl := dig_len k (b / 10) hb
    have hp : 10 ^ (k + 1 + 1) = 10 * 10 ^ (k + 1) := by rw [Nat.pow_succ]; omega
    have hge : 1 ≤ 10 ^ (k + 1) := Nat.pos_of_ne_zero (by simp)
    have e1 : (f * 10 ^ (k + 1 + 1) + b) / 10 = f * 10 ^ (k + 1) + b / 10 := by
      rw [hp, show f * (10 * 10 ^ (k + 1)) = 10 * (f * 10 ^ (k + 1)) by rw [Nat.mul_left_comm]]
      omega
    have e2 : (f * 10 ^ (k + 1 + 1) + b) % 10 = b % 10 := by
      rw [hp, show f * (10 * 10 ^ (k + 1)) = 10 * (f * 10 ^ (k + 1)) by rw [Nat.mul_left_comm]]
      omega
    have hbig : ¬ f * 10 ^ (k + 1 + 1) + b < 10 := by
      have : 10 ≤ f * 10 ^ (k + 1 + 1) := by
        calc 10 ≤ 10 * 10 ^ (k + 1) := by omega
          _ = 1 * 10 ^ (k + 1 + 1) := by rw [hp]; omega
          _ ≤ f * 10 ^ (k + 1 + 1) := Nat.mul_le_mul_right _ hf
      omega
    rw [Lib.decDigits, dif_neg hbig, e1, e2, ih]
    by_cases hb10 : b < 10
    · have e0 : b / 10 = 0 := by omega
      have e3 : Lib.decDigits b = [UInt8.ofNat (48 + b)] := by rw [Lib.decDigits, dif_pos hb10]
      have e4 : Lib.decDigits 0 = [48] := by rw [Lib.decDigits, dif_pos (by omega)]; rfl
      have e5 : b % 10 = b := by omega
      rw [e0, e3, e4, e5]
      simp only [List.length_cons, List.length_nil]
      rw [show k + 1 + 1 - (0 + 1) = k + 1 - (0 + 1) + 1 by omega, rep_snoc]
      simp
    · have e3 : Lib.decDigits b = Lib.decDigits (b / 10) ++ [UInt8.ofNat (48 + b % 10)] := by
        rw [Lib.decDigits, dif_neg hb10]
      rw [e3, List.length_append]
      simp only [List.length_cons, List.length_nil]
      rw [show k + 1 + 1 - ((Lib.decDigits (b / 10)).length + (0 + 1)) = k + 1 - (Lib.decDigits (b / 10)).length by omega]
      simp
end Wd
end Go.Proofs.YtpklajadfbigcaaGreatDoor
namespace Go.Proofs.YtpklajadfbigcaaGreatDoor
namespace Wd

def qD (u n : Nat) : Nat := (u * 4294967296 + n) / 10000000000000000000
def guess (u n q r : Nat) : Prop := u = q * 2328306436 + r ∧ qD u n ≤ q ∧ q ≤ 4294967298
theorem guess_start (u n : Nat) (hu : u < 10000000000000000000) (hn : n < 4294967296) : guess u n (u / 2328306436) (u % 2328306436) := by
  unfold guess qD
  omega
theorem guess_more {u n q r : Nat} (hu : u < 10000000000000000000) (hn : n < 4294967296) (h : guess u n q r) (t : 4294967296 ≤ q ∨ r * 4294967296 + n < q * 2313682944) : guess u n (q - 1) (r + 2328306436) ∧ 1 ≤ q := by
  unfold guess qD at *
  omega
theorem guess_end {u n q r : Nat} (h : guess u n q r) (t : ¬ (4294967296 ≤ q ∨ r * 4294967296 + n < q * 2313682944)) : q = qD u n := by
  unfold guess qD at *
  omega
theorem guess_over {u n q r : Nat} (hn : n < 4294967296) (h : guess u n q r) (t : 4294967296 ≤ r) (hq : q ≤ 4294967297) : q = qD u n := by
  unfold guess qD at *
  omega
end Wd
end Go.Proofs.YtpklajadfbigcaaGreatDoor
namespace Go.Proofs.YtpklajadfbigcaaGreatDoor
open Go.RowKit

abbrev vi (n : Int) : Value := .agg #[.int .i64 2, .int .i64 n, .string ⟨#[]⟩]
abbrev vz : Value := .agg #[.int .i64 0, .int .i64 0, .string ⟨#[]⟩]

set_option maxHeartbeats 400000 in
theorem refInt_any (n : Int) (w : World) :
    Calls Tryz.prog 19 #[.int .i64 n] w fun e w' => e = .returned (vi n) ∧ w.alloc (.cells #[.int .i64 2, .int .i64 n, .string ⟨#[]⟩] 37) = w' := by
  go_enter Tryz.func19, Tryz.ntmps19
  go_wp2
  exact bodyPost_ret (v := vi n) (by simp [results, Tryz.results19, go_sem, vi]) rfl ⟨rfl, rfl⟩

end Go.Proofs.YtpklajadfbigcaaGreatDoor
namespace Go.Proofs.YtpklajadfbigcaaGreatDoor
open Go.RowKit

def cmp3 (a b : Int) : Int := if a < b then -1 else if b < a then 1 else 0

theorem isNaNKind_any (a : Int) (w : World) :
    Calls Tryz.prog 63 #[.int .i64 a] w fun e w' => e = .returned (.bool false) ∧ w = w' := by
  go_enter Tryz.func63, Tryz.ntmps63
  go_wp2
  go_ret
  exact ⟨by simp, rfl⟩

theorem isNaNInt_any (a : Int) (w : World) :
    Calls Tryz.prog 64 #[.int .i64 a] w fun e w' => e = .returned (.bool false) ∧ w = w' := by
  go_enter Tryz.func64, Tryz.ntmps64
  go_wp2
  go_ret
  exact ⟨by simp, rfl⟩

set_option maxHeartbeats 400000 in
theorem cmpKind_any (a b : Int) (w : World) :
    Calls Tryz.prog 46 #[.int .i64 a, .int .i64 b] w fun e w' => e = .returned (.int .i64 (cmp3 a b)) ∧ w = w' := by
  go_enter Tryz.func46, Tryz.ntmps46
  go_wp2_with (go_at_call 63; refine (isNaNKind_any _ _).mono ?_; rintro e w' ⟨rfl, rfl⟩)
  all_goals (go_ret; refine ⟨ret_int ?_, rfl⟩; unfold cmp3; (repeat' split) <;> first | rfl | (exfalso; omega))

set_option maxHeartbeats 400000 in
theorem cmpInt_any (a b : Int) (w : World) :
    Calls Tryz.prog 47 #[.int .i64 a, .int .i64 b] w fun e w' => e = .returned (.int .i64 (cmp3 a b)) ∧ w = w' := by
  go_enter Tryz.func47, Tryz.ntmps47
  go_wp2_with (go_at_call 64; refine (isNaNInt_any _ _).mono ?_; rintro e w' ⟨rfl, rfl⟩)
  all_goals (go_ret; refine ⟨ret_int ?_, rfl⟩; unfold cmp3; (repeat' split) <;> first | rfl | (exfalso; omega))

set_option maxHeartbeats 400000 in
theorem ints_any (a b : Int) (w : World) :
    Calls Tryz.prog 40 #[.int .i64 a, .int .i64 b] w fun e w' => e = .returned (.int .i64 (cmp3 a b)) ∧ w = w' := by
  go_enter Tryz.func40, Tryz.ntmps40
  go_wp2
  all_goals (go_ret; refine ⟨ret_int ?_, rfl⟩; unfold cmp3; (repeat' split) <;> first | rfl | (exfalso; omega))

theorem strCompare_any (a b : ByteArray) (w : World) :
    Calls Tryz.prog 48 #[.string a, .string b] w fun e w' => e = .returned (.int .i64 (Lib.compareBytes a.data.toList b.data.toList)) ∧ w = w' :=
  (Tryz.strings_Compare a b w).mono fun _ _ ⟨he, hw⟩ => ⟨he, hw.symm⟩

def or3 (a b c : Int) : Int := if a ≠ 0 then a else if b ≠ 0 then b else c

set_option maxHeartbeats 400000 in
theorem or_any (a b c : Int) (blk : Nat) (w : World) (h0 : w.cell? ⟨blk, 0, none⟩ = some (.int .i64 a)) (h1 : w.cell? ⟨blk, 1, none⟩ = some (.int .i64 b)) (h2 : w.cell? ⟨blk, 2, none⟩ = some (.int .i64 c)) :
    Calls Tryz.prog 45 #[.slice (some ⟨blk, 0, none⟩) 3 3] w fun e w' => e = .returned (.int .i64 (or3 a b c)) ∧ w = w' := by
  go_enter Tryz.func45, Tryz.ntmps45
  go_wp2
  go_loop [8] (fun i => ∃ k : Nat, k ≤ 3 ∧ i = .int .i64 k ∧ (0 < k → a = 0) ∧ (1 < k → b = 0) ∧ (2 < k → c = 0)) (fun i => 3 - (intOf i).toNat)
  case atStart => exact ⟨0, by omega, rfl, by omega, by omega, by omega⟩
  case round =>
    obtain ⟨k, hk, rfl, ha, hb, hc⟩ := hrel
    obtain rfl | rfl | rfl | rfl : k = 0 ∨ k = 1 ∨ k = 2 ∨ k = 3 := by omega
    · by_cases h : a = 0
      · subst h
        clear ha hb hc
        go_wp2
        go_round
        case rel => exact ⟨1, by omega, by go_num, by simp, by omega, by omega⟩
        case measure => simp [intOf]
      · have hn : (a != 0) = true := by simpa using h
        clear ha hb hc
        go_wp2
        go_ret
        exact ⟨ret_int (by simp [or3, h]), rfl⟩
    · have ha' := ha (by omega)
      subst ha'
      by_cases h : b = 0
      · subst h
        clear ha hb hc
        go_wp2
        go_round
        case rel => exact ⟨2, by omega, by go_num, by simp, by simp, by omega⟩
        case measure => simp [intOf]
      · have hn : (b != 0) = true := by simpa using h
        clear ha hb hc
        go_wp2
        go_ret
        exact ⟨ret_int (by simp [or3, h]), rfl⟩
    · have ha' := ha (by omega)
      subst ha'
      have hb' := hb (by omega)
      subst hb'
      by_cases h : c = 0
      · subst h
        clear ha hb hc
        go_wp2
        go_round
        case rel => exact ⟨3, by omega, by go_num, by simp, by simp, by simp⟩
        case measure => simp [intOf]
      · have hn : (c != 0) = true := by simpa using h
        clear ha hb hc
        go_wp2
        go_ret
        exact ⟨ret_int (by simp [or3]), rfl⟩
    · have ha' := ha (by omega)
      subst ha'
      have hb' := hb (by omega)
      subst hb'
      have hc' := hc (by omega)
      subst hc'
      clear ha hb hc
      go_wp2
      go_ret
      exact ⟨ret_int (by simp [or3]), rfl⟩
end Go.Proofs.YtpklajadfbigcaaGreatDoor
namespace Go.Proofs.YtpklajadfbigcaaGreatDoor
open Go.RowKit

end Go.Proofs.YtpklajadfbigcaaGreatDoor
