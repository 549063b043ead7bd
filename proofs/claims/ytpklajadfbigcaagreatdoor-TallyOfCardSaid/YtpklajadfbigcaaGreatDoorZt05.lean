import Derived.Test.YtpklajadfbigcaaGreatDoorZt04
import Derived.Test.YtpklajadfbigcaaGreatDoorZt02
import Derived.Laws.Externs
set_option linter.unusedSimpArgs false
set_option linter.unusedVariables false
namespace Go.Proofs.YtpklajadfbigcaaGreatDoor
open Go.RowKit

end Go.Proofs.YtpklajadfbigcaaGreatDoor
namespace Go.Proofs.YtpklajadfbigcaaGreatDoor
namespace Wd
open Go.RowKit

theorem add64_0 (x y : Nat) (w : World) : (callFunc 67 #[.int .u64 x, .int .u64 y, .int .u64 0]).run Tryz.prog w =
    .ok (.value (.tuple #[.int .u64 (((x + y) % 18446744073709551616 : Nat) : Int), .int .u64 (((x + y) / 18446744073709551616 : Nat) : Int)])) w := by
  rw [run_callFunc_extern Tryz.func67 (by kernel_rfl) (by kernel_rfl) (by kernel_rfl) (e := add64Entry) (by kernel_rfl), run_add64 x y 0 (by omega) (by omega) (by omega) (by omega)]
  simp only [Result.andThen]
  congr 5 <;> omega
def sub64E : Array Value → Sem Value := fun args => do
  let (x, y, b) ← Extern.MathBitsCarry.three "Sub64" args
  pure (Extern.MathBitsCarry.pair ((x + Extern.MathBitsCarry.m64 - y - b) % Extern.MathBitsCarry.m64) (if x < y + b then 1 else 0))
theorem run_sub64E (x y : Nat) (w : World) :
    (sub64E #[.int .u64 x, .int .u64 y, .int .u64 0]).run Tryz.prog w =
      .ok (.tuple #[.int .u64 (((x + 18446744073709551616 - y) % 18446744073709551616 : Nat) : Int), .int .u64 ((if x < y then 1 else 0 : Nat) : Int)]) w := rfl
theorem sub64_0 (x y : Nat) (w : World) : (callFunc 89 #[.int .u64 x, .int .u64 y, .int .u64 0]).run Tryz.prog w =
    .ok (.value (.tuple #[.int .u64 (((x + 18446744073709551616 - y) % 18446744073709551616 : Nat) : Int), .int .u64 ((if x < y then 1 else 0 : Nat) : Int)])) w := by
  rw [run_callFunc_extern Tryz.func89 (by kernel_rfl) (by kernel_rfl) (by kernel_rfl) (e := sub64E) (by kernel_rfl), run_sub64E]
  rfl
end Wd
end Go.Proofs.YtpklajadfbigcaaGreatDoor
namespace Go.Proofs.YtpklajadfbigcaaGreatDoor
namespace Wd

theorem fit_iff (x : BitVec 128) : fitB x = true ↔ (-9223372036854775808 ≤ x.toInt ∧ x.toInt ≤ 9223372036854775807) := by
  unfold fitB; simp
theorem fit_not (x : BitVec 128) (h : fitB x = false) : ¬ (-9223372036854775808 ≤ x.toInt ∧ x.toInt ≤ 9223372036854775807) := by
  intro h'
  rw [(fit_iff x).2 h'] at h
  cases h
theorem fit_low (x : BitVec 128) (h : fitB x = true) : w64 (loB x) = x.toInt := by
  rw [fit_iff] at h
  have hx := toInt_case x
  unfold w64 loB
  omega
theorem low_range (x : BitVec 128) : -9223372036854775808 ≤ w64 (loB x) ∧ w64 (loB x) ≤ 9223372036854775807 := by
  unfold w64; omega
theorem low_lo (x : BitVec 128) : loB (BitVec.ofInt 128 (w64 (loB x))) = loB x := by
  rw [of_lo]
  have := lo_lt x
  unfold hN w64
  omega
theorem low_hi_fit (x : BitVec 128) (h : fitB x = true) : hiB (BitVec.ofInt 128 (w64 (loB x))) = hiB x := by
  rw [fit_low x h, BitVec.ofInt_toInt]
theorem low_hi_not (x : BitVec 128) (h : fitB x = false) : (hiB (BitVec.ofInt 128 (w64 (loB x))) == hiB x) = false := by
  have h' := fit_not x h
  have h1 := low_range x
  have h2 := of_hi (w64 (loB x)) h1.1 h1.2
  have h3 := hi_eq x
  have h4 := lo_lt x
  have : hiB (BitVec.ofInt 128 (w64 (loB x))) ≠ hiB x := by
    rw [h2]
    intro e
    apply h'
    revert e
    unfold w64
    omega
  simpa using this

def allTop (x : BitVec 128) (k : Nat) : Prop := ∀ j, 64 ≤ j → j < k → x.getLsbD j = x.getLsbD 63
theorem top_start (x : BitVec 128) : allTop x 64 := fun j h1 h2 => by omega
theorem top_step {x : BitVec 128} {k : Nat} (h : allTop x k) (e : x.getLsbD k = x.getLsbD 63) : allTop x (k + 1) := fun j h1 h2 => by
  by_cases e' : j = k
  · subst e'; exact e
  · exact h j h1 (by omega)
theorem ext_toInt (y : BitVec 64) : (y.signExtend 128).toInt = y.toInt := BitVec.toInt_signExtend_of_le (by decide)
theorem ext_bit (y : BitVec 64) {j : Nat} (h : j < 128) : (y.signExtend 128).getLsbD j = if j < 64 then y.getLsbD j else y.getLsbD 63 := by
  rw [BitVec.getLsbD_signExtend]
  simp [h, BitVec.msb_eq_getLsbD_last]
theorem fit_ext (x : BitVec 128) : fitB x = true ↔ x = (x.setWidth 64).signExtend 128 := by
  rw [fit_iff]
  constructor
  · intro h
    apply BitVec.eq_of_toInt_eq
    rw [ext_toInt]
    have hx := toInt_case x
    have e : (x.setWidth 64).toNat = x.toNat % 18446744073709551616 := BitVec.toNat_setWidth ..
    have h2 := BitVec.toInt_eq_toNat_cond (x.setWidth 64)
    rw [e] at h2
    split at h2 <;> omega
  · intro h
    have h1 := ext_toInt (x.setWidth 64)
    rw [← h] at h1
    have h2 := BitVec.toInt_eq_toNat_cond (x.setWidth 64)
    have h3 := (x.setWidth 64).isLt
    split at h2 <;> omega
theorem top_fit {x : BitVec 128} (h : allTop x 128) : fitB x = true := by
  rw [fit_ext]
  apply BitVec.eq_of_getLsbD_eq
  intro j hj
  rw [ext_bit _ hj]
  split
  · next h1 => simp [h1]
  · next h1 =>
    rw [h j (by omega) hj]
    simp
theorem not_fit {x : BitVec 128} {k : Nat} (h1 : 64 ≤ k) (h2 : k < 128) (e : x.getLsbD k ≠ x.getLsbD 63) : fitB x = false := by
  cases h : fitB x
  · rfl
  · rw [fit_ext] at h
    exfalso
    apply e
    rw [h, ext_bit _ h2, ext_bit _ (by decide), if_neg (by omega), if_pos (by decide)]
theorem low_step (x : BitVec 128) (k : Nat) : x.toNat % 2 ^ (k + 1) = x.toNat % 2 ^ k + 2 ^ k * (x.getLsbD k).toNat := by
  rw [bit_nat, Nat.mod_pow_succ]
  by_cases h : x.toNat / 2 ^ k % 2 = 1
  · simp [h]
  · simp [show x.toNat / 2 ^ k % 2 = 0 by omega]
end Wd
end Go.Proofs.YtpklajadfbigcaaGreatDoor
namespace Go.Proofs.YtpklajadfbigcaaGreatDoor
namespace Wd
open Go.RowKit

set_option maxHeartbeats 800000 in
theorem refOf_any (n : Int) (w : World) (h0 : -9223372036854775808 ≤ n) (h1 : n ≤ 9223372036854775807) :
    Calls Tryz.prog 54 #[.int .i64 n] w fun e w' => e = .returned (.agg (wArr (BitVec.ofInt 128 n))) ∧ Below w.heap.size w w' := by
  have hw : IntKind.u64.wrap n = ((hN n : Nat) : Int) := by unfold hN; simp [IntKind.wrap, IntKind.signed, IntKind.bits]; omega
  have HR := BArr.zero w
  by_cases hn : n < 0
  · have HB := Lib.hid (fun w => refBits_any (-1) (hN n) w (hN_lt n))
    rw [ofInt_neg n h0 hn] at HB
    generalize hN n = hu at *
    generalize BitVec.ofInt 128 n = x at *
    go_enter Tryz.func54, Tryz.ntmps54
    go_wp2_with fail
    refine (HB.out _).mono ?_
    rintro e w1 ⟨rfl, hb⟩
    have HR1 := HR.keep hb
    go_wp2_with (refine wpList_store_row rfl 103 _ _ rfl w.heap.size (wArr x) rfl rfl 103 (fArr fun _ => false) HR1 (by rw [wArr, fArr_size]; kernel_rfl) (by rw [wArr, fArr_size, fArr_size]) (fArr_one _) ?_)
    have HR2 := setRow_heap w1 w.heap.size (fArr fun _ => false) (wArr x) _ (0, 0) HR1
    exact bodyPost_ret (v := .agg (wArr x)) (results_cell_row rfl _ _ w.heap.size _ _ (0, 0) _ rfl HR2 Tryz.underlying103 rfl (by rw [wArr, fArr_size]; kernel_rfl)) rfl ⟨rfl, below_setRow (((Below.refl _ _).alloc (Nat.le_refl _) _).trans (hb.mono (by simp))) (Nat.le_refl _)⟩
  · have HB := Lib.hid (fun w => refBits_any 0 (hN n) w (hN_lt n))
    rw [ofInt_pos n (by omega) h1] at HB
    have hn' : 0 ≤ n := by omega
    generalize hN n = hu at *
    generalize BitVec.ofInt 128 n = x at *
    go_enter Tryz.func54, Tryz.ntmps54
    go_wp2_with fail
    refine (HB.out _).mono ?_
    rintro e w1 ⟨rfl, hb⟩
    have HR1 := HR.keep hb
    go_wp2_with (refine wpList_store_row rfl 103 _ _ rfl w.heap.size (wArr x) rfl rfl 103 (fArr fun _ => false) HR1 (by rw [wArr, fArr_size]; kernel_rfl) (by rw [wArr, fArr_size, fArr_size]) (fArr_one _) ?_)
    have HR2 := setRow_heap w1 w.heap.size (fArr fun _ => false) (wArr x) _ (0, 0) HR1
    exact bodyPost_ret (v := .agg (wArr x)) (results_cell_row rfl _ _ w.heap.size _ _ (0, 0) _ rfl HR2 Tryz.underlying103 rfl (by rw [wArr, fArr_size]; kernel_rfl)) rfl ⟨rfl, below_setRow (((Below.refl _ _).alloc (Nat.le_refl _) _).trans (hb.mono (by simp))) (Nat.le_refl _)⟩
end Wd
end Go.Proofs.YtpklajadfbigcaaGreatDoor
namespace Go.Proofs.YtpklajadfbigcaaGreatDoor
open Go.RowKit

theorem cmpC_any (ak an : Int) (sa : ByteArray) (bk bn : Int) (sb : ByteArray) (w : World) :
    Calls Tryz.prog 26 #[.agg #[.int .i64 ak, .int .i64 an, .string sa], .agg #[.int .i64 bk, .int .i64 bn, .string sb]] w fun e w' => e = .returned (.int .i64 (ordC ak an sa bk bn sb)) ∧ Below w.heap.size w w' := compare_any ak an sa bk bn sb w

end Go.Proofs.YtpklajadfbigcaaGreatDoor
