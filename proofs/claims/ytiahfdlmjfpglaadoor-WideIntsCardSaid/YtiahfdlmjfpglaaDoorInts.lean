/- The law WideInts walked. -/
import Derived.Test.YtiahfdlmjfpglaaDoorAwake3
import Derived.Test.YtiahfdlmjfpglaaDoorRefInt
import Derived.Test.YtiahfdlmjfpglaaDoorRefOf
import Derived.Test.YtiahfdlmjfpglaaDoorWEq
namespace Go.Proofs.YtiahfdlmjfpglaaDoor
open Go.RowKit

set_option maxRecDepth 100000 in
set_option maxHeartbeats 3200000 in
/-- The law, whatever its callees answer: the last test by a letter. -/
theorem ints_gen (n : Int) (xh : Int) (xl : Nat) (oh : Int) (ol : Nat) (p q wn : Int) (ok : Bool) (bo bx : Array Value) (w : World)
    (HW : Hid (∀ w, TabW w → Calls Tryd.prog 9 #[] w fun e w' => e = .returned (.bool true) ∧ Below w.heap.size w w')) (htab : TabW w)
    (HO : Hid (∀ w, Calls Tryd.prog 18 #[.int .i64 n] w fun e w' => e = .returned (.agg #[.int .i64 oh, .int .u64 ol]) ∧ Below w.heap.size w w'))
    (HI : Hid (∀ w, Calls Tryd.prog 17 #[.agg #[.int .i64 oh, .int .u64 ol]] w fun e w' => e = .returned (.tuple #[.int .i64 n, .int .i64 0]) ∧ Below w.heap.size w w'))
    (HX : Hid (∀ w, Calls Tryd.prog 17 #[.agg #[.int .i64 xh, .int .u64 xl]] w fun e w' => e = .returned (.tuple #[.int .i64 p, .int .i64 q]) ∧ Below w.heap.size w w'))
    (HB : Hid (∀ w, Calls Tryd.prog 10 #[.agg #[.int .i64 xh, .int .u64 xl]] w fun e w' => e = .returned (.agg bx) ∧ Below w.heap.size w w'))
    (HBo : Hid (∀ w, Calls Tryd.prog 10 #[.agg #[.int .i64 oh, .int .u64 ol]] w fun e w' => e = .returned (.agg bo) ∧ Below w.heap.size w w'))
    (HRI : Hid (∀ w, Calls Tryd.prog 19 #[.agg bx] w fun e w' => e = .returned (.tuple #[.int .i64 wn, .bool ok]) ∧ Below w.heap.size w w'))
    (HRO : Hid (∀ w, Calls Tryd.prog 20 #[.int .i64 n] w fun e w' => e = .returned (.agg bo) ∧ Below w.heap.size w w'))
    (HE : ∀ w, (Op.equalIn 10000 27 (.agg bo) (.agg bo)).run Tryd.prog w = .ok true w)
    (hend : (p = wn ∧ q = 0 ∧ ok = true) ∨ (p = wn ∧ q = 24 ∧ ok = false)) :
    Calls Tryd.prog 4 #[.int .i64 n, .agg #[.int .i64 xh, .int .u64 xl]] w fun e w' => e = .returned (.bool true) ∧ Below w.heap.size w w' := by
  have HT := Lib.hid htab
  clear htab
  have K0 := box2_new w (.int .i64 xh) (.int .u64 xl) 24
  have B0 : Hid (Below w.heap.size w (w.alloc (.cells #[.int .i64 xh, .int .u64 xl] 24))) := Lib.hid ((Below.refl _ _).alloc (Nat.le_refl _) _)
  have S0 : w.heap.size + 1 ≤ (w.alloc (.cells #[.int .i64 xh, .int .u64 xl] 24)).heap.size := by simp
  have K0' := Lib.hid K0
  have S0' := Lib.hid S0
  clear K0 S0
  rcases hend with ⟨rfl, rfl, rfl⟩ | ⟨rfl, rfl, rfl⟩
  all_goals
    go_enter Tryd.func4, Tryd.ntmps4
    go_wp2_with fail
    refine (HW.out _ (HT.out.keep B0.out)).mono ?_
    rintro e w1 ⟨rfl, hb⟩
    have B1 := Lib.hid (B0.out.trans (hb.mono (by have := S0'.out; omega)))
    have S1 := Lib.hid (Nat.le_trans S0'.out hb.size)
    have c1 := box2_keep K0'.out hb
    obtain ⟨c10, c11⟩ := c1
    clear hb
    go_wp2_with fail
    refine (HO.out _).mono ?_
    rintro e w2 ⟨rfl, hb⟩
    have B2 := Lib.hid (B1.out.trans (hb.mono (by have := S1.out; omega)))
    have S2 := Lib.hid (Nat.le_trans S1.out hb.size)
    obtain ⟨c20, c21⟩ := box2_keep ⟨c10, c11⟩ hb
    clear hb c10 c11
    go_wp2_with fail
    refine (HI.out _).mono ?_
    rintro e w3 ⟨rfl, hb⟩
    have B3 := Lib.hid (B2.out.trans (hb.mono (by have := S2.out; omega)))
    have S3 := Lib.hid (Nat.le_trans S2.out hb.size)
    obtain ⟨c30, c31⟩ := box2_keep ⟨c20, c21⟩ hb
    clear hb c20 c21
    go_wp2_with fail
    refine (HX.out _).mono ?_
    rintro e w4 ⟨rfl, hb⟩
    have B4 := Lib.hid (B3.out.trans (hb.mono (by have := S3.out; omega)))
    have S4 := Lib.hid (Nat.le_trans S3.out hb.size)
    obtain ⟨c40, c41⟩ := box2_keep ⟨c30, c31⟩ hb
    clear hb c30 c31
    go_wp2_with fail
    refine (HB.out _).mono ?_
    rintro e w5 ⟨rfl, hb⟩
    have B5 := Lib.hid (B4.out.trans (hb.mono (by have := S4.out; omega)))
    have S5 := Lib.hid (Nat.le_trans S4.out hb.size)
    clear hb c40 c41
    go_wp2_with fail
    refine (HRI.out _).mono ?_
    rintro e w6 ⟨rfl, hb⟩
    have B6 := Lib.hid (B5.out.trans (hb.mono (by have := S5.out; omega)))
    have S6 := Lib.hid (Nat.le_trans S5.out hb.size)
    clear hb
    go_wp2_with fail
    refine (HO.out _).mono ?_
    rintro e w7 ⟨rfl, hb⟩
    have B7 := Lib.hid (B6.out.trans (hb.mono (by have := S6.out; omega)))
    have S7 := Lib.hid (Nat.le_trans S6.out hb.size)
    clear hb
    go_wp2_with fail
    refine (HBo.out _).mono ?_
    rintro e w8 ⟨rfl, hb⟩
    have B8 := Lib.hid (B7.out.trans (hb.mono (by have := S7.out; omega)))
    have S8 := Lib.hid (Nat.le_trans S7.out hb.size)
    clear hb
    go_wp2_with fail
    refine (HRO.out _).mono ?_
    rintro e w9 ⟨rfl, hb⟩
    have B9 := Lib.hid (B8.out.trans (hb.mono (by have := S8.out; omega)))
    clear hb
    go_wp2_with fail
    go_ret
    exact ⟨rfl, B9.out⟩

theorem WideInts_any (n : Int) (x : BitVec 128) (w : World) (hn : -9223372036854775808 ≤ n ∧ n ≤ 9223372036854775807) (htab : TabW w) :
    Calls Tryd.prog 4 #[.int .i64 n, .agg #[.int .i64 (hiB x), .int .u64 (loB x)]] w fun e w' => e = .returned (.bool true) ∧ Below w.heap.size w w' := by
  have HI := int_any (BitVec.ofInt 128 n)
  rw [of_toInt n hn.1 hn.2] at HI
  cases hf : fitB x
  · have e : intV x = .tuple #[.int .i64 0, .bool false] := by unfold intV; rw [hf]; rfl
    exact ints_gen n (hiB x) (loB x) _ _ 0 24 0 false (wArr (BitVec.ofInt 128 n)) (wArr x) w (Lib.hid awake_any) htab (Lib.hid fun w => of_any n w hn.1 hn.2) (Lib.hid fun w => HI w (fit_of n hn.1 hn.2)) (Lib.hid fun w => int_none x w hf) (Lib.hid fun w => bits_any x w) (Lib.hid fun w => bits_any _ w) (Lib.hid fun w => e ▸ refInt_any x w) (Lib.hid fun w => refOf_any n w hn.1 hn.2) (fun w => by rw [wide_equal]; simp) (.inr ⟨rfl, rfl, rfl⟩)
  · have e : intV x = .tuple #[.int .i64 x.toInt, .bool true] := by unfold intV; rw [hf]; rfl
    exact ints_gen n (hiB x) (loB x) _ _ x.toInt 0 x.toInt true (wArr (BitVec.ofInt 128 n)) (wArr x) w (Lib.hid awake_any) htab (Lib.hid fun w => of_any n w hn.1 hn.2) (Lib.hid fun w => HI w (fit_of n hn.1 hn.2)) (Lib.hid fun w => int_any x w hf) (Lib.hid fun w => bits_any x w) (Lib.hid fun w => bits_any _ w) (Lib.hid fun w => e ▸ refInt_any x w) (Lib.hid fun w => refOf_any n w hn.1 hn.2) (fun w => by rw [wide_equal]; simp) (.inl ⟨rfl, rfl, rfl⟩)
end Go.Proofs.YtiahfdlmjfpglaaDoor
