/- The law CodecSizes walked: true at any number. -/
import Derived.Test.YtolcfgeodjmckaaAwake4
namespace Go.Proofs.Ytolcfgeodjmckaa
open Go.RowKit

/-- How often a number can be parted by 128 till nothing is left. -/
def cnt (n : Nat) : Nat := if n = 0 then 0 else 1 + cnt (n / 128)
termination_by n
decreasing_by omega
theorem cnt_zero : cnt 0 = 0 := by rw [cnt, if_pos rfl]
theorem cnt_more {n : Nat} (h : 0 < n) : cnt n = 1 + cnt (n / 128) := by rw [cnt, if_neg (by omega)]
theorem numB_cnt (n : Nat) : (numB n).length = 1 + cnt (n / 128) := by
  induction n using Nat.strongRecOn with
  | ind n ih =>
    by_cases h : n < 128
    · rw [numB_small h, show n / 128 = 0 by omega, cnt_zero]; rfl
    · rw [numB_great h, List.length_cons, ih (n / 128) (by omega), cnt_more (n := n / 128) (by omega)]; omega
theorem or_one_len (n : Nat) : (numB (n ||| 1)).length = (numB n).length := by
  have h : (n ||| 1) / 2 = n / 2 := by rw [Nat.or_div_two]; simp
  rw [numB_cnt, numB_cnt, show (n ||| 1) / 128 = n / 128 by omega]
theorem bits_or_one (n : Nat) (h : n < 18446744073709551616) : bits .or .u64 (n : Int) 1 = ((n ||| 1 : Nat) : Int) ∧ n ||| 1 < 18446744073709551616 := by
  have hx : n ||| 1 < 2 ^ 64 := Nat.or_lt_two_pow (by omega) (by omega)
  refine ⟨?_, by omega⟩
  have h1 : (BitVec.ofInt 64 (n : Int)).toNat = n := by
    rw [BitVec.ofInt_natCast, BitVec.toNat_ofNat]; exact Nat.mod_eq_of_lt (by omega)
  show IntKind.u64.wrap ((BitVec.ofInt 64 (n : Int) ||| BitVec.ofInt 64 1).toNat : Int) = _
  rw [BitVec.toNat_or, h1, show (BitVec.ofInt 64 1).toNat = 1 from rfl, IntKind.wrap_u64]
  omega
theorem OwnB.len {B : Nat} {w : World} {v : Value} {l : List UInt8} (h : OwnB B w v l) : ∃ ao cap, v = .slice ao l.length cap := by
  rcases h.2 with ⟨hv, h0⟩ | ⟨g, cap, cur, hv, _⟩
  · exact ⟨none, 0, by rw [hv, h0]⟩
  · exact ⟨_, _, hv⟩

set_option maxRecDepth 100000 in
set_option maxHeartbeats 3200000 in
theorem sizes_gen (n m len : Nat) (l1 l2 : List UInt8) (w : World) (M : Hid (n < 18446744073709551616)) (hor : bits .or .u64 (n : Int) 1 = (m : Int)) (h1 : Hid (l1.length = len)) (h2 : Hid (l2.length = len)) (hl : Hid (len = 1 + cnt (n / 128))) (hle : len ≤ 10)
    (HW : Hid (∀ w, Calls Try.prog 6 #[] w fun e w' => e = .returned (.bool true) ∧ Below w.heap.size w w'))
    (HM : Hid (∀ w, Calls Try.prog 12 #[.int .u64 m] w (Adds w.heap.size w l1))) (HN : Hid (∀ w, Calls Try.prog 12 #[.int .u64 n] w (Adds w.heap.size w l2))) :
    Calls Try.prog 5 #[.int .u64 n] w fun e w' => e = .returned (.bool true) ∧ Below w.heap.size w w' := by
  have hw0 := (wrap_div M.out).1
  have M0 := Lib.hid (wrap_div M.out).2
  go_enter Try.func5, Try.ntmps5
  go_wp2_with fail
  refine (HW.out _).mono ?_
  rintro e w1 ⟨rfl, hb⟩
  have K1 := Lib.hid hb
  clear hb
  go_wp2_with fail
  go_loop [3, 4] (fun t x => ∃ (k p : Nat), t = .int .i64 p ∧ x = .int .u64 k ∧ p ≤ 10 ∧ Hid (k < 18446744073709551616) ∧ Hid (p + cnt k = len)) (fun _ x => (intOf x).toNat)
  case atStart => exact ⟨n / 128, 1, rfl, rfl, by omega, M0, Lib.hid hl.out.symm⟩
  case round =>
    obtain ⟨k, p, rfl, rfl, hp, M1, E⟩ := hrel
    by_cases hk : 0 < k
    · have hw := (wrap_div M1.out).1
      have M2 := Lib.hid (wrap_div M1.out).2
      have E2 : Hid (p + 1 + cnt (k / 128) = len) := Lib.hid (by have := E.out; rw [cnt_more hk] at this; omega)
      have hp2 : p + 1 ≤ 10 := by have := E2.out; omega
      go_wp2_with fail
      go_round
      case rel => exact ⟨k / 128, p + 1, by go_num, rfl, hp2, M2, E2⟩
      case measure => simp [intOf]; omega
    · obtain rfl : k = 0 := by omega
      have EP : Hid (p = len) := Lib.hid (by have := E.out; rw [cnt_zero] at this; omega)
      go_wp2_with fail
      refine (HM.out _).mono ?_
      rintro e w2 ⟨v2, rfl, ho2, hb2⟩
      obtain ⟨a2, c2, rfl⟩ := ho2.len
      rw [h1.out] at ho2 ⊢
      have K2 := Lib.hid (K1.out.trans (hb2.mono K1.out.size))
      clear ho2 hb2
      go_wp2_with fail
      refine (HN.out _).mono ?_
      rintro e w3 ⟨v3, rfl, ho3, hb3⟩
      obtain ⟨a3, c3, rfl⟩ := ho3.len
      rw [h2.out] at ho3 ⊢
      have K3 := Lib.hid (K2.out.trans (hb3.mono K2.out.size))
      clear ho3 hb3
      obtain rfl := EP.out
      go_wp2_with fail
      go_ret
      exact ⟨ret_bool (by simp), K3.out⟩

theorem CodecSizes_any (n : Nat) (w : World) (h : n < 18446744073709551616) :
    Calls Try.prog 5 #[.int .u64 n] w fun e w' => e = .returned (.bool true) ∧ Below w.heap.size w w' :=
  sizes_gen n (n ||| 1) (numB n).length (numB (n ||| 1)) (numB n) w (Lib.hid h) (bits_or_one n h).1 (Lib.hid (or_one_len n)) (Lib.hid rfl) (Lib.hid (numB_cnt n)) (numB_10 h).2
    (Lib.hid awake_any) (Lib.hid fun w => number_any _ w (bits_or_one n h).2) (Lib.hid fun w => number_any n w h)
end Go.Proofs.Ytolcfgeodjmckaa
