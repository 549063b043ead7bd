import Derived.Test.YtpklajadfbigcaaGreatDoorZt05
import Derived.Test.YtpklajadfbigcaaGreatDoorZt04
import Derived.Lib.ItoaNum
import Derived.Lib.ItoaMem
import Derived.Lib.AppendIntMem
import Derived.Lib.LaidTab
import Derived.Stop.LaidErr
import Derived.MakeChecks
import Derived.Deep.QuietTactic
import Derived.BigQuiet
import Derived.WalkSmall
set_option linter.unusedSimpArgs false
set_option linter.unusedVariables false
namespace Go.Proofs.YtpklajadfbigcaaGreatDoor
open Go.RowKit

end Go.Proofs.YtpklajadfbigcaaGreatDoor
namespace Go.Proofs.YtpklajadfbigcaaGreatDoor
namespace Wd
open Go.RowKit

set_option maxHeartbeats 800000 in
theorem of_any (n : Int) (w : World) (h0 : -9223372036854775808 ≤ n) (h1 : n ≤ 9223372036854775807) :
    Calls Tryz.prog 66 #[.int .i64 n] w fun e w' => e = .returned (.agg #[.int .i64 (hiB (BitVec.ofInt 128 n)), .int .u64 (loB (BitVec.ofInt 128 n))]) ∧ Below w.heap.size w w' := by
  have e1 := of_hi n h0 h1
  have e2 := of_lo n
  have hw : IntKind.u64.wrap n = ((hN n : Nat) : Int) := by unfold hN; simp [IntKind.wrap, IntKind.signed, IntKind.bits]; omega
  rw [e1, e2]
  clear e1 e2
  generalize hN n = l at *
  go_enter Tryz.func66, Tryz.ntmps66
  go_wp2
  exact bodyPost_ret (v := .agg #[.int .i64 (n / 9223372036854775808), .int .u64 l]) (by simp [results, Tryz.results66, go_sem]) rfl ⟨rfl, (Below.refl _ _).alloc (Nat.le_refl _) _⟩

set_option maxHeartbeats 1600000 in
theorem add_any (x y : BitVec 128) (w : World) :
    Calls Tryz.prog 50 #[.agg #[.int .i64 (hiB x), .int .u64 (loB x)], .agg #[.int .i64 (hiB y), .int .u64 (loB y)]] w fun e w' => e = .returned (.agg #[.int .i64 (hiB (x + y)), .int .u64 (loB (x + y))]) ∧ Below w.heap.size w w' := by
  have HA := add64_0 (loB x) (loB y)
  have e1 := add_lo x y
  have e2 := add_hi x y
  have hc : ((loB x + loB y) / 18446744073709551616 : Nat) ≤ 1 := by have := lo_lt x; have := lo_lt y; omega
  rw [← e1] at HA
  generalize (loB x + loB y) / 18446744073709551616 = c at *
  have E2 := Lib.hid e2
  clear e1 e2
  generalize hiB (x + y) = hz at *
  generalize loB (x + y) = lz at *
  generalize hiB x = hx at *
  generalize hiB y = hy at *
  generalize loB x = lx at *
  generalize loB y = ly at *
  go_enter Tryz.func50, Tryz.ntmps50
  go_wp2_with (simp only [HA])
  have e : wrap64 (wrap64 (hx + hy) + (c : Int)) = hz := by rw [E2.out]; simp only [w64, wrap64]
  rw [e]
  exact bodyPost_ret (v := .agg #[.int .i64 hz, .int .u64 lz]) (by simp [results, Tryz.results50, go_sem]) rfl ⟨rfl, (((Below.refl _ _).alloc (Nat.le_refl _) _).alloc (by simp) _).alloc (by simp; omega) _⟩

set_option maxHeartbeats 1600000 in
theorem sub_any (x y : BitVec 128) (w : World) :
    Calls Tryz.prog 84 #[.agg #[.int .i64 (hiB x), .int .u64 (loB x)], .agg #[.int .i64 (hiB y), .int .u64 (loB y)]] w fun e w' => e = .returned (.agg #[.int .i64 (hiB (x - y)), .int .u64 (loB (x - y))]) ∧ Below w.heap.size w w' := by
  have HA := sub64_0 (loB x) (loB y)
  have e1 : (loB x + 18446744073709551616 - loB y) % 18446744073709551616 = loB (x - y) := by have := sub_lo x y; have := lo_lt y; omega
  rw [e1] at HA
  generalize hb : (if loB x < loB y then 1 else 0 : Nat) = c at *
  have e2 := sub_hi x y hb.symm
  have hc : c ≤ 1 := by rw [← hb]; split <;> omega
  have E2 := Lib.hid e2
  clear e1 e2 hb
  generalize hiB (x - y) = hz at *
  generalize loB (x - y) = lz at *
  generalize hiB x = hx at *
  generalize hiB y = hy at *
  generalize loB x = lx at *
  generalize loB y = ly at *
  go_enter Tryz.func84, Tryz.ntmps84
  go_wp2_with (simp only [HA])
  have e : wrap64 (wrap64 (hx - hy) - (c : Int)) = hz := by rw [E2.out]; simp only [w64, wrap64]
  rw [e]
  exact bodyPost_ret (v := .agg #[.int .i64 hz, .int .u64 lz]) (by simp [results, Tryz.results84, go_sem]) rfl ⟨rfl, (((Below.refl _ _).alloc (Nat.le_refl _) _).alloc (by simp) _).alloc (by simp; omega) _⟩

end Wd
end Go.Proofs.YtpklajadfbigcaaGreatDoor
namespace Go.Proofs.YtpklajadfbigcaaGreatDoor
namespace Wd
open Go.RowKit

def One (w wr : World) (x : BitVec 128) : Prop := Below w.heap.size w wr ∧ BArr wr w.heap.size (fun i => x.getLsbD i)
theorem start1 (w : World) (x : BitVec 128) : One w (w.alloc (.cells (wArr x) 103)) x :=
  ⟨(Below.refl _ _).alloc (Nat.le_refl _) _, BArr.new w (fun i => x.getLsbD i)⟩
def intV (x : BitVec 128) : Value := if fitB x then .tuple #[.int .i64 x.toInt, .bool true] else .tuple #[.int .i64 0, .bool false]
theorem intV_fit {x : BitVec 128} {m : Int} (h : allTop x 128) (hm : m = (x.toNat % 2 ^ 64 : Nat)) : intV x = .tuple #[.int .i64 (wrap64 m), .bool true] := by
  have hf := top_fit h
  unfold intV
  rw [if_pos hf, ← fit_low x hf, hm]
  simp only [w64, wrap64, loB]
theorem intV_not {x : BitVec 128} {k : Nat} (h1 : 64 ≤ k) (h2 : k < 128) (e : x.getLsbD k ≠ x.getLsbD 63) : intV x = .tuple #[.int .i64 0, .bool false] := by
  unfold intV
  rw [not_fit h1 h2 e]
  rfl
theorem pow_lt (k : Nat) (h : k < 64) : 2 ^ k ≤ 9223372036854775808 ∧ (k < 63 → 2 ^ k ≤ 4611686018427387904) ∧ (k = 63 → 2 ^ k = 9223372036854775808) := by
  refine ⟨?_, fun h' => ?_, fun h' => by rw [h']⟩
  · calc 2 ^ k ≤ 2 ^ 63 := Nat.pow_le_pow_right (by decide) (by omega)
      _ = 9223372036854775808 := by decide
  · calc 2 ^ k ≤ 2 ^ 62 := Nat.pow_le_pow_right (by decide) (by omega)
      _ = 4611686018427387904 := by decide

set_option maxRecDepth 100000 in
set_option maxHeartbeats 1600000 in
theorem refInt_any (x : BitVec 128) (w : World) :
    Calls Tryz.prog 55 #[.agg (wArr x)] w fun e w' => e = .returned (intV x) ∧ Below w.heap.size w w' := by
  obtain ⟨v, hv⟩ : ∃ v, v = intV x := ⟨_, rfl⟩
  rw [← hv]
  have HV := Lib.hid hv
  clear hv
  go_enter Tryz.func55, Tryz.ntmps55
  go_wp2_with fail
  go_loopw [4, 5, 6] (fun n p i wr => ∃ k a b : Nat, k ≤ 64 ∧ i = .int .i64 k ∧ n = .int .u64 a ∧ p = .int .u64 b ∧ Hid (a = x.toNat % 2 ^ k) ∧ Hid (k < 64 → b = 2 ^ k) ∧ Hid (One w wr x)) (fun _ _ i _ => 64 - (intOf i).toNat)
  case atStart => exact ⟨0, 0, 1, by omega, rfl, rfl, rfl, Lib.hid (by simp [Nat.mod_one]), Lib.hid (fun _ => rfl), Lib.hid (start1 w x)⟩
  case round =>
    obtain ⟨k, a, b, hk, rfl, rfl, rfl, Ha, Hb, K⟩ := hrel
    by_cases hlt : k < 64
    · have c1 := K.out.2.cell (i := k) (by omega)
      have hp := pow_lt k hlt
      have hb1 : b ≤ 9223372036854775808 := by rw [Hb.out hlt]; exact hp.1
      have hab : a < b := by rw [Ha.out, Hb.out hlt]; exact Nat.mod_lt _ (Nat.pos_of_ne_zero (by simp))
      have hst := Lib.hid (low_step x k)
      have HP := Lib.hid hp
      clear hp
      obtain ⟨bit, hbit⟩ : ∃ t, t = x.getLsbD k := ⟨_, rfl⟩
      rw [← hbit] at c1
      have HB := Lib.hid hbit
      clear hbit
      by_cases h63 : k < 63
      · have hb2 : b ≤ 4611686018427387904 := by rw [Hb.out hlt]; exact HP.out.2.1 h63
        have Hb3 : Hid (k + 1 < 64 → b * 2 = 2 ^ (k + 1)) := Lib.hid fun _ => by rw [Hb.out hlt, Nat.pow_succ]
        cases bit
        · have Ha2 : Hid (a = x.toNat % 2 ^ (k + 1)) := Lib.hid (by rw [hst.out, ← HB.out, Ha.out]; simp)
          go_wp2_with fail
          go_roundw
          case rel => exact ⟨k + 1, a, b * 2, by omega, by go_num, rfl, by go_num, Ha2, Hb3, K⟩
          case measure => simp [intOf]; omega
        · have Ha2 : Hid (a + b = x.toNat % 2 ^ (k + 1)) := Lib.hid (by rw [hst.out, ← HB.out, Ha.out, Hb.out hlt]; simp)
          go_wp2_with fail
          go_roundw
          case rel => exact ⟨k + 1, a + b, b * 2, by omega, by go_num, by go_num, by go_num, Ha2, Hb3, K⟩
          case measure => simp [intOf]; omega
      · obtain rfl : k = 63 := by omega
        have hb2 : b = 9223372036854775808 := by rw [Hb.out hlt]
        subst hb2
        cases bit
        · have Ha2 : Hid (a = x.toNat % 2 ^ (63 + 1)) := Lib.hid (by rw [hst.out, ← HB.out, Ha.out]; simp)
          go_wp2_with fail
          go_roundw
          case rel => exact ⟨64, a, 0, by omega, rfl, rfl, rfl, Ha2, Lib.hid (fun h => absurd h (by omega)), K⟩
          case measure => simp [intOf]
        · have Ha2 : Hid (a + 9223372036854775808 = x.toNat % 2 ^ (63 + 1)) := Lib.hid (by rw [hst.out, ← HB.out, Ha.out]; simp)
          go_wp2_with fail
          go_roundw
          case rel => exact ⟨64, a + 9223372036854775808, 0, by omega, rfl, by go_num, rfl, Ha2, Lib.hid (fun h => absurd h (by omega)), K⟩
          case measure => simp [intOf]
    · obtain rfl : k = 64 := by omega
      clear hlt hk Hb
      go_wp2_with fail
      go_loopw [7] (fun i wr => ∃ k : Nat, 64 ≤ k ∧ k ≤ 128 ∧ i = .int .i64 k ∧ Hid (allTop x k) ∧ Hid (One w wr x)) (fun i _ => 128 - (intOf i).toNat)
      case atStart => exact ⟨64, by omega, by omega, rfl, Lib.hid (top_start x), K⟩
      case round =>
        clear K
        obtain ⟨k, hk1, hk2, rfl, T, K⟩ := hrel
        by_cases hlt : k < 128
        · have c1 := K.out.2.cell (i := k) (by omega)
          have c2 := K.out.2.cell (i := 63) (by omega)
          obtain ⟨bit, hbit⟩ : ∃ t, t = x.getLsbD k := ⟨_, rfl⟩
          obtain ⟨top, htop⟩ : ∃ t, t = x.getLsbD 63 := ⟨_, rfl⟩
          rw [← hbit] at c1
          rw [← htop] at c2
          have HB := Lib.hid hbit
          have HT := Lib.hid htop
          clear hbit htop
          cases bit <;> cases top
          all_goals
            go_wp2_with fail
            go_quiet (fail)
            go_wp2_with fail
          · go_roundw
            case rel => exact ⟨k + 1, by omega, by omega, by go_num, Lib.hid (top_step T.out (by rw [← HB.out, ← HT.out])), Lib.hid ⟨below_drewN K.out.1 _, K.out.2⟩⟩
            case measure => simp [intOf]; omega
          · go_ret2
            exact ⟨by rw [HV.out, intV_not hk1 hlt (by rw [← HB.out, ← HT.out]; decide)]; rfl, below_drewN K.out.1 _⟩
          · go_ret2
            exact ⟨by rw [HV.out, intV_not hk1 hlt (by rw [← HB.out, ← HT.out]; decide)]; rfl, below_drewN K.out.1 _⟩
          · go_roundw
            case rel => exact ⟨k + 1, by omega, by omega, by go_num, Lib.hid (top_step T.out (by rw [← HB.out, ← HT.out])), Lib.hid ⟨below_drewN K.out.1 _, K.out.2⟩⟩
            case measure => simp [intOf]; omega
        · obtain rfl : k = 128 := by omega
          go_wp2_with fail
          go_ret2
          exact ⟨by rw [HV.out, intV_fit T.out (m := (a : Int)) (by rw [Ha.out])]; rfl, K.out.1⟩
end Wd
end Go.Proofs.YtpklajadfbigcaaGreatDoor
namespace Go.Proofs.YtpklajadfbigcaaGreatDoor
open Go.RowKit

end Go.Proofs.YtpklajadfbigcaaGreatDoor
namespace Go.Proofs.YtpklajadfbigcaaGreatDoor
open Go.RowKit

def dval (l : List UInt8) : Nat := l.foldl (fun n c => 10 * n + (c.toNat - 48)) 0
end Go.Proofs.YtpklajadfbigcaaGreatDoor
