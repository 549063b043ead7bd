import Derived.Test.YtfambadamebjjaaZs00
import Derived.Deep.QuietTactic
import Derived.BigQuiet
import Derived.Deep.RegionHeld3
import Derived.Deep.RegionWith
import Derived.Lib.Hide
import Derived.Test.YtfambadamebjjaaShelf
import Derived.Lib.Builder
import Derived.Lib.AppendStr
set_option linter.unusedSimpArgs false
set_option linter.unusedVariables false
namespace Go.Proofs.Ytfambadamebjjaa
open Go.RowKit

abbrev vi (n : Int) : Value := .agg #[.int .i64 2, .int .i64 n, .string ⟨#[]⟩]
abbrev vz : Value := .agg #[.int .i64 0, .int .i64 0, .string ⟨#[]⟩]

set_option maxHeartbeats 400000 in
theorem refInt_any (n : Int) (w : World) :
  Calls Try.prog 43 #[.int .i64 n] w fun e w' => e = .returned (vi n) ∧ w.alloc (.cells #[.int .i64 2, .int .i64 n, .string ⟨#[]⟩] 31) = w' := by
 go_enter Try.func43, Try.ntmps43
 go_wp2
 exact bodyPost_ret (v := vi n) (by simp [results, Try.results43, go_sem, vi]) rfl ⟨rfl, rfl⟩

theorem below_store3 {B b : Nat} {w w1 : World} (h : Below B w w1) (hb : B ≤ b) (u0 u1 u2 : Value) : Below B w (((w1.setCell ⟨b, 0, none⟩ u0).setCell ⟨b, 1, none⟩ u1).setCell ⟨b, 2, none⟩ u2) :=
 ((h.setCell (p := ⟨b, 0, none⟩) hb u0).setCell (p := ⟨b, 1, none⟩) hb u1).setCell (p := ⟨b, 2, none⟩) hb u2
end Go.Proofs.Ytfambadamebjjaa
namespace Go.Proofs.Ytfambadamebjjaa
open Go.RowKit

def cmp3 (a b : Int) : Int := if a < b then -1 else if b < a then 1 else 0

theorem isNaNKind_any (a : Int) (w : World) :
  Calls Try.prog 96 #[.int .i64 a] w fun e w' => e = .returned (.bool false) ∧ w = w' := by
 go_enter Try.func96, Try.ntmps96
 go_wp2
 go_ret
 exact ⟨by simp, rfl⟩

theorem isNaNInt_any (a : Int) (w : World) :
  Calls Try.prog 97 #[.int .i64 a] w fun e w' => e = .returned (.bool false) ∧ w = w' := by
 go_enter Try.func97, Try.ntmps97
 go_wp2
 go_ret
 exact ⟨by simp, rfl⟩

set_option maxHeartbeats 400000 in
theorem cmpKind_any (a b : Int) (w : World) :
  Calls Try.prog 93 #[.int .i64 a, .int .i64 b] w fun e w' => e = .returned (.int .i64 (cmp3 a b)) ∧ w = w' := by
 go_enter Try.func93, Try.ntmps93
 go_wp2_with (go_at_call 96; refine (isNaNKind_any _ _).mono ?_; rintro e w' ⟨rfl, rfl⟩)
 all_goals (go_ret; refine ⟨ret_int ?_, rfl⟩; unfold cmp3; (repeat' split) <;> first | rfl | (exfalso; omega))

set_option maxHeartbeats 400000 in
theorem cmpInt_any (a b : Int) (w : World) :
  Calls Try.prog 94 #[.int .i64 a, .int .i64 b] w fun e w' => e = .returned (.int .i64 (cmp3 a b)) ∧ w = w' := by
 go_enter Try.func94, Try.ntmps94
 go_wp2_with (go_at_call 97; refine (isNaNInt_any _ _).mono ?_; rintro e w' ⟨rfl, rfl⟩)
 all_goals (go_ret; refine ⟨ret_int ?_, rfl⟩; unfold cmp3; (repeat' split) <;> first | rfl | (exfalso; omega))

set_option maxHeartbeats 400000 in
theorem ints_any (a b : Int) (w : World) :
  Calls Try.prog 60 #[.int .i64 a, .int .i64 b] w fun e w' => e = .returned (.int .i64 (cmp3 a b)) ∧ w = w' := by
 go_enter Try.func60, Try.ntmps60
 go_wp2
 all_goals (go_ret; refine ⟨ret_int ?_, rfl⟩; unfold cmp3; (repeat' split) <;> first | rfl | (exfalso; omega))

theorem strCompare_any (a b : ByteArray) (w : World) :
  Calls Try.prog 95 #[.string a, .string b] w fun e w' => e = .returned (.int .i64 (Lib.compareBytes a.data.toList b.data.toList)) ∧ w = w' :=
 (Try.strings_Compare a b w).mono fun _ _ ⟨he, hw⟩ => ⟨he, hw.symm⟩

def or3 (a b c : Int) : Int := if a ≠ 0 then a else if b ≠ 0 then b else c

set_option maxHeartbeats 400000 in
theorem or_any (a b c : Int) (blk : Nat) (w : World) (h0 : w.cell? ⟨blk, 0, none⟩ = some (.int .i64 a)) (h1 : w.cell? ⟨blk, 1, none⟩ = some (.int .i64 b)) (h2 : w.cell? ⟨blk, 2, none⟩ = some (.int .i64 c)) :
  Calls Try.prog 92 #[.slice (some ⟨blk, 0, none⟩) 3 3] w fun e w' => e = .returned (.int .i64 (or3 a b c)) ∧ w = w' := by
 go_enter Try.func92, Try.ntmps92
 go_wp2
 go_loop [8] (fun i => ∃ k : Nat, k ≤ 3 ∧ i = .int .i64 k ∧ (0 < k → a = 0) ∧ (1 < k → b = 0) ∧ (2 < k → c = 0)) (fun i => 3 - (intOf i).toNat)
 case atStart => exact ⟨0, by omega, rfl, by omega, by omega, by omega⟩
 case round =>
  obtain ⟨k, hk, rfl, ha, hb, hc⟩ := hrel
  obtain rfl | rfl | rfl | rfl : k = 0 ∨ k = 1 ∨ k = 2 ∨ k = 3 := by omega
  ·by_cases h : a = 0
   ·subst h
    clear ha hb hc
    go_wp2
    go_round
    case rel => exact ⟨1, by omega, by go_num, by simp, by omega, by omega⟩
    case measure => simp [intOf]
   ·have hn : (a != 0) = true := by simpa using h
    clear ha hb hc
    go_wp2
    go_ret
    exact ⟨ret_int (by simp [or3, h]), rfl⟩
  ·have ha' := ha (by omega)
   subst ha'
   by_cases h : b = 0
   ·subst h
    clear ha hb hc
    go_wp2
    go_round
    case rel => exact ⟨2, by omega, by go_num, by simp, by simp, by omega⟩
    case measure => simp [intOf]
   ·have hn : (b != 0) = true := by simpa using h
    clear ha hb hc
    go_wp2
    go_ret
    exact ⟨ret_int (by simp [or3, h]), rfl⟩
  ·have ha' := ha (by omega)
   subst ha'
   have hb' := hb (by omega)
   subst hb'
   by_cases h : c = 0
   ·subst h
    clear ha hb hc
    go_wp2
    go_round
    case rel => exact ⟨3, by omega, by go_num, by simp, by simp, by simp⟩
    case measure => simp [intOf]
   ·have hn : (c != 0) = true := by simpa using h
    clear ha hb hc
    go_wp2
    go_ret
    exact ⟨ret_int (by simp [or3]), rfl⟩
  ·have ha' := ha (by omega)
   subst ha'
   have hb' := hb (by omega)
   subst hb'
   have hc' := hc (by omega)
   subst hc'
   clear ha hb hc
   go_wp2
   go_ret
   exact ⟨ret_int (by simp [or3]), rfl⟩
end Go.Proofs.Ytfambadamebjjaa
namespace Go.Proofs.Ytfambadamebjjaa
open Go.RowKit

theorem byte_info : (Try.prog.info? 5).map (fun i => (i.zero, i.size, i.bytes)) = some (some (.int .u8 0), 1, 1) := by kernel_rfl

end Go.Proofs.Ytfambadamebjjaa
namespace Go.Proofs.Ytfambadamebjjaa
open Go.RowKit

end Go.Proofs.Ytfambadamebjjaa
