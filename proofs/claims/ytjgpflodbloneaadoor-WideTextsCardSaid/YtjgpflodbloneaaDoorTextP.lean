/- The contract of the program's Text. -/
import Derived.Test.YtjgpflodbloneaaDoorDigAll
namespace Go.Proofs.YtjgpflodbloneaaDoor
open Go.RowKit

theorem nat_halves (x : BitVec 128) : x.toNat = hN (hiB x) * 18446744073709551616 + loB x := by
  have h := mkB_nat (hiB x) (loB x) (lo_lt x)
  rw [mk_hi_lo] at h
  have e := congrArg BitVec.toNat h
  rw [BitVec.toNat_ofNat] at e
  have h1 := hN_lt (hiB x)
  have h2 := lo_lt x
  omega
theorem wrap_hN (h : Int) : IntKind.u64.wrap h = (hN h : Int) := by
  rw [IntKind.wrap_u64]
  unfold hN
  omega
/-- A sum's text. -/
def textB (x : BitVec 128) : List UInt8 := if x.toInt < 0 then 45 :: Lib.decDigits (-x).toNat else Lib.decDigits x.toNat
theorem hi_sign (x : BitVec 128) : hiB x < 0 ↔ x.toInt < 0 := by
  have := hi_eq x
  have := lo_lt x
  omega
theorem small_half (x : BitVec 128) (h : x.toNat ≤ 170141183460469231731687303715884105728) : hN (hiB x) < 10000000000000000000 := by
  have := nat_halves x
  omega
theorem neg_small (x : BitVec 128) (h : x.toInt < 0) : (-x).toNat ≤ 170141183460469231731687303715884105728 := by
  have h1 := x.isLt
  rw [BitVec.toInt_eq_toNat_cond] at h
  rw [BitVec.toNat_neg]
  split at h <;> omega
theorem pos_small (x : BitVec 128) (h : ¬ x.toInt < 0) : x.toNat ≤ 170141183460469231731687303715884105728 := by
  have h1 := x.isLt
  rw [BitVec.toInt_eq_toNat_cond] at h
  split at h <;> omega

set_option maxHeartbeats 1600000 in
theorem text_gen (h k : Int) (l m : Nat) (t : ByteArray) (w : World) (hneg : h < 0)
    (HS : Hid (∀ w, Calls Tryd.prog 19 #[.agg #[.int .i64 0, .int .u64 0], .agg #[.int .i64 h, .int .u64 l]] w fun e w' => e = .returned (.agg #[.int .i64 k, .int .u64 m]) ∧ Below w.heap.size w w'))
    (HD : Hid (∀ w, TabW w → Calls Tryd.prog 18 #[.agg #[.int .i64 k, .int .u64 m]] w fun e w' => e = .returned (.string t) ∧ Below w.heap.size w w')) (ht : t.size ≤ 1000) (htab : TabW w) :
    Calls Tryd.prog 6 #[.agg #[.int .i64 h, .int .u64 l]] w fun e w' => e = .returned (.string ⟨(45 :: t.data.toList).toArray⟩) ∧ Below w.heap.size w w' := by
  have HT := Lib.hid htab
  clear htab
  have c0 : (w.alloc (.cells #[.int .i64 h, .int .u64 l] 24)).cell? ⟨w.heap.size, 0, none⟩ = some (.int .i64 h) := (box2_new w _ _ _).1
  have K0 := Lib.hid ((Below.refl w.heap.size w).alloc (Nat.le_refl _) (.cells #[.int .i64 h, .int .u64 l] 24))
  go_enter Tryd.func6, Tryd.ntmps6
  go_wp2_with fail
  refine (HS.out _).mono ?_
  rintro e w1 ⟨rfl, hb⟩
  have K1 := Lib.hid (K0.out.trans (hb.mono (by simp)))
  clear hb
  go_wp2_with fail
  refine (HD.out _ (HT.out.keep K1.out)).mono ?_
  rintro e w2 ⟨rfl, hb⟩
  have K2 := Lib.hid (K1.out.trans (hb.mono K1.out.size))
  clear hb
  go_wp2_with fail
  go_ret
  exact ⟨ret_bytes (by simp), K2.out⟩
set_option maxHeartbeats 1600000 in
theorem text_pos (h : Int) (l : Nat) (t : ByteArray) (w : World) (hpos : 0 ≤ h)
    (HD : Hid (∀ w, TabW w → Calls Tryd.prog 18 #[.agg #[.int .i64 h, .int .u64 l]] w fun e w' => e = .returned (.string t) ∧ Below w.heap.size w w')) (htab : TabW w) :
    Calls Tryd.prog 6 #[.agg #[.int .i64 h, .int .u64 l]] w fun e w' => e = .returned (.string t) ∧ Below w.heap.size w w' := by
  have HT := Lib.hid htab
  clear htab
  have K0 := Lib.hid ((Below.refl w.heap.size w).alloc (Nat.le_refl _) (.cells #[.int .i64 h, .int .u64 l] 24))
  go_enter Tryd.func6, Tryd.ntmps6
  go_wp2_with fail
  refine (HD.out _ (HT.out.keep K0.out)).mono ?_
  rintro e w2 ⟨rfl, hb⟩
  have K2 := Lib.hid (K0.out.trans (hb.mono (by simp)))
  clear hb
  go_wp2_with fail
  go_ret
  exact ⟨rfl, K2.out⟩
theorem text_any (x : BitVec 128) (w : World) (htab : TabW w) :
    Calls Tryd.prog 6 #[.agg #[.int .i64 (hiB x), .int .u64 (loB x)]] w fun e w' => e = .returned (.string ⟨(textB x).toArray⟩) ∧ Below w.heap.size w w' := by
  unfold textB
  by_cases hx : x.toInt < 0
  · rw [if_pos hx]
    have hs := neg_small x hx
    have e : hN (hiB (-x)) * 18446744073709551616 + loB (-x) = (-x).toNat := (nat_halves (-x)).symm
    have hl := dig_len 127 (-x).toNat (by omega)
    have := text_gen (hiB x) (hiB (-x)) (loB x) (loB (-x)) ⟨(Lib.decDigits (-x).toNat).toArray⟩ w ((hi_sign x).2 hx)
      (Lib.hid fun w => by have := sub_any 0#128 x w; rw [BitVec.zero_sub] at this; exact this)
      (Lib.hid fun w ht => by have := prog_digits (hiB (-x)) (hN (hiB (-x))) (loB (-x)) w (wrap_hN _) (small_half _ hs) (lo_lt _) ht; rw [e] at this; exact this)
      (by show (Lib.decDigits (-x).toNat).toArray.size ≤ 1000; rw [List.size_toArray]; omega) htab
    exact this
  · rw [if_neg hx]
    have e : hN (hiB x) * 18446744073709551616 + loB x = x.toNat := (nat_halves x).symm
    exact text_pos (hiB x) (loB x) _ w (by have := mt (hi_sign x).1 hx; omega)
      (Lib.hid fun w ht => by have := prog_digits (hiB x) (hN (hiB x)) (loB x) w (wrap_hN _) (small_half _ (pos_small x hx)) (lo_lt _) ht; rw [e] at this; exact this) htab
end Go.Proofs.YtjgpflodbloneaaDoor
