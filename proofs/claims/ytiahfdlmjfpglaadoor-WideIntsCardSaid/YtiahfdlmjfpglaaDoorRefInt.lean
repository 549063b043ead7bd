/- The contract of the document's Int. -/
import Derived.Test.YtiahfdlmjfpglaaDoorIntM
import Derived.Test.YtiahfdlmjfpglaaDoorRefAdd
import Derived.Deep.QuietTactic
import Derived.BigQuiet
import Derived.WalkSmall
namespace Go.Proofs.YtiahfdlmjfpglaaDoor
open Go.RowKit

/-- The bits are there, and nothing old has turned. -/
def One (w wr : World) (x : BitVec 128) : Prop := Below w.heap.size w wr ∧ BArr wr w.heap.size (fun i => x.getLsbD i)
theorem start1 (w : World) (x : BitVec 128) : One w (w.alloc (.cells (wArr x) 27)) x :=
  ⟨(Below.refl _ _).alloc (Nat.le_refl _) _, BArr.new w (fun i => x.getLsbD i)⟩
/-- The answer. -/
def intV (x : BitVec 128) : Value := if fitB x then .tuple #[.int .i64 x.toInt, .bool true] else .tuple #[.int .i64 0, .bool false]
theorem intV_fit {x : BitVec 128} {m : Int} (h : allTop x 128) (hm : m = (x.toNat % 2 ^ 64 : Nat)) : intV x = .tuple #[.int .i64 (wrap64 m), .bool true] := by
  have hf := top_fit h
  unfold intV
  rw [if_pos hf, ← fit_low x hf, hm]
  simp only [w64, wrap64, loB]
theorem intV_not {x : BitVec 128} {k : Nat} (h1 : 64 ≤ k) (h2 : k < 128) (e : x.getLsbD k ≠ x.getLsbD 63) : intV x = .tuple #[.int .i64 0, .bool false] := by
  unfold intV
  rw [not_fit h1 h2 e]
  rfl
theorem pow_lt (k : Nat) (h : k < 64) : 2 ^ k ≤ 9223372036854775808 ∧ (k < 63 → 2 ^ k ≤ 4611686018427387904) ∧ (k = 63 → 2 ^ k = 9223372036854775808) := by
  refine ⟨?_, fun h' => ?_, fun h' => by rw [h']⟩
  · calc 2 ^ k ≤ 2 ^ 63 := Nat.pow_le_pow_right (by decide) (by omega)
      _ = 9223372036854775808 := by decide
  · calc 2 ^ k ≤ 2 ^ 62 := Nat.pow_le_pow_right (by decide) (by omega)
      _ = 4611686018427387904 := by decide

set_option maxRecDepth 100000 in
set_option maxHeartbeats 1600000 in
theorem refInt_any (x : BitVec 128) (w : World) :
    Calls Tryd.prog 19 #[.agg (wArr x)] w fun e w' => e = .returned (intV x) ∧ Below w.heap.size w w' := by
  obtain ⟨v, hv⟩ : ∃ v, v = intV x := ⟨_, rfl⟩
  rw [← hv]
  have HV := Lib.hid hv
  clear hv
  go_enter Tryd.func19, Tryd.ntmps19
  go_wp2_with fail
  go_loopw [4, 5, 6] (fun n p i wr => ∃ k a b : Nat, k ≤ 64 ∧ i = .int .i64 k ∧ n = .int .u64 a ∧ p = .int .u64 b ∧ Hid (a = x.toNat % 2 ^ k) ∧ Hid (k < 64 → b = 2 ^ k) ∧ Hid (One w wr x)) (fun _ _ i _ => 64 - (intOf i).toNat)
  case atStart => exact ⟨0, 0, 1, by omega, rfl, rfl, rfl, Lib.hid (by simp [Nat.mod_one]), Lib.hid (fun _ => rfl), Lib.hid (start1 w x)⟩
  case round =>
    obtain ⟨k, a, b, hk, rfl, rfl, rfl, Ha, Hb, K⟩ := hrel
    by_cases hlt : k < 64
    · have c1 := K.out.2.cell (i := k) (by omega)
      have hp := pow_lt k hlt
      have hb1 : b ≤ 9223372036854775808 := by rw [Hb.out hlt]; exact hp.1
      have hab : a < b := by rw [Ha.out, Hb.out hlt]; exact Nat.mod_lt _ (Nat.pos_of_ne_zero (by simp))
      have hst := Lib.hid (low_step x k)
      have HP := Lib.hid hp
      clear hp
      obtain ⟨bit, hbit⟩ : ∃ t, t = x.getLsbD k := ⟨_, rfl⟩
      rw [← hbit] at c1
      have HB := Lib.hid hbit
      clear hbit
      by_cases h63 : k < 63
      · have hb2 : b ≤ 4611686018427387904 := by rw [Hb.out hlt]; exact HP.out.2.1 h63
        have Hb3 : Hid (k + 1 < 64 → b * 2 = 2 ^ (k + 1)) := Lib.hid fun _ => by rw [Hb.out hlt, Nat.pow_succ]
        cases bit
        · have Ha2 : Hid (a = x.toNat % 2 ^ (k + 1)) := Lib.hid (by rw [hst.out, ← HB.out, Ha.out]; simp)
          go_wp2_with fail
          go_roundw
          case rel => exact ⟨k + 1, a, b * 2, by omega, by go_num, rfl, by go_num, Ha2, Hb3, K⟩
          case measure => simp [intOf]; omega
        · have Ha2 : Hid (a + b = x.toNat % 2 ^ (k + 1)) := Lib.hid (by rw [hst.out, ← HB.out, Ha.out, Hb.out hlt]; simp)
          go_wp2_with fail
          go_roundw
          case rel => exact ⟨k + 1, a + b, b * 2, by omega, by go_num, by go_num, by go_num, Ha2, Hb3, K⟩
          case measure => simp [intOf]; omega
      · obtain rfl : k = 63 := by omega
        have hb2 : b = 9223372036854775808 := by rw [Hb.out hlt]
        subst hb2
        cases bit
        · have Ha2 : Hid (a = x.toNat % 2 ^ (63 + 1)) := Lib.hid (by rw [hst.out, ← HB.out, Ha.out]; simp)
          go_wp2_with fail
          go_roundw
          case rel => exact ⟨64, a, 0, by omega, rfl, rfl, rfl, Ha2, Lib.hid (fun h => absurd h (by omega)), K⟩
          case measure => simp [intOf]
        · have Ha2 : Hid (a + 9223372036854775808 = x.toNat % 2 ^ (63 + 1)) := Lib.hid (by rw [hst.out, ← HB.out, Ha.out]; simp)
          go_wp2_with fail
          go_roundw
          case rel => exact ⟨64, a + 9223372036854775808, 0, by omega, rfl, by go_num, rfl, Ha2, Lib.hid (fun h => absurd h (by omega)), K⟩
          case measure => simp [intOf]
    · obtain rfl : k = 64 := by omega
      clear hlt hk Hb
      go_wp2_with fail
      go_loopw [7] (fun i wr => ∃ k : Nat, 64 ≤ k ∧ k ≤ 128 ∧ i = .int .i64 k ∧ Hid (allTop x k) ∧ Hid (One w wr x)) (fun i _ => 128 - (intOf i).toNat)
      case atStart => exact ⟨64, by omega, by omega, rfl, Lib.hid (top_start x), K⟩
      case round =>
        clear K
        obtain ⟨k, hk1, hk2, rfl, T, K⟩ := hrel
        by_cases hlt : k < 128
        · have c1 := K.out.2.cell (i := k) (by omega)
          have c2 := K.out.2.cell (i := 63) (by omega)
          obtain ⟨bit, hbit⟩ : ∃ t, t = x.getLsbD k := ⟨_, rfl⟩
          obtain ⟨top, htop⟩ : ∃ t, t = x.getLsbD 63 := ⟨_, rfl⟩
          rw [← hbit] at c1
          rw [← htop] at c2
          have HB := Lib.hid hbit
          have HT := Lib.hid htop
          clear hbit htop
          cases bit <;> cases top
          all_goals
            go_wp2_with fail
            go_quiet (fail)
            go_wp2_with fail
          · go_roundw
            case rel => exact ⟨k + 1, by omega, by omega, by go_num, Lib.hid (top_step T.out (by rw [← HB.out, ← HT.out])), Lib.hid ⟨below_drewN K.out.1 _, K.out.2⟩⟩
            case measure => simp [intOf]; omega
          · go_ret2
            exact ⟨by rw [HV.out, intV_not hk1 hlt (by rw [← HB.out, ← HT.out]; decide)]; rfl, below_drewN K.out.1 _⟩
          · go_ret2
            exact ⟨by rw [HV.out, intV_not hk1 hlt (by rw [← HB.out, ← HT.out]; decide)]; rfl, below_drewN K.out.1 _⟩
          · go_roundw
            case rel => exact ⟨k + 1, by omega, by omega, by go_num, Lib.hid (top_step T.out (by rw [← HB.out, ← HT.out])), Lib.hid ⟨below_drewN K.out.1 _, K.out.2⟩⟩
            case measure => simp [intOf]; omega
        · obtain rfl : k = 128 := by omega
          go_wp2_with fail
          go_ret2
          exact ⟨by rw [HV.out, intV_fit T.out (m := (a : Int)) (by rw [Ha.out])]; rfl, K.out.1⟩
end Go.Proofs.YtiahfdlmjfpglaaDoor
