/- Contracts of the document's turned, Sum and four. -/
import Derived.Test.YthdaibmminibhaaDoorSum5
namespace Go.Proofs.YthdaibmminibhaaDoor
open Go.RowKit

theorem bit_step {x y z k : Nat} (hz : z = x ^^^ y) : z / 2 ^ k % 2 = if x / 2 ^ k % 2 = y / 2 ^ k % 2 then 0 else 1 := by
  have h : z.testBit k = (x.testBit k ^^ y.testBit k) := by rw [hz, Nat.testBit_xor]
  rw [Nat.testBit_eq_decide_div_mod_eq, Nat.testBit_eq_decide_div_mod_eq, Nat.testBit_eq_decide_div_mod_eq] at h
  clear hz
  have a := Nat.mod_lt (x / 2 ^ k) (show 0 < 2 by omega)
  have b := Nat.mod_lt (y / 2 ^ k) (show 0 < 2 by omega)
  have c := Nat.mod_lt (z / 2 ^ k) (show 0 < 2 by omega)
  generalize x / 2 ^ k % 2 = p at *
  generalize y / 2 ^ k % 2 = q at *
  generalize z / 2 ^ k % 2 = r at *
  obtain rfl | rfl : p = 0 ∨ p = 1 := by omega
  all_goals obtain rfl | rfl : q = 0 ∨ q = 1 := by omega
  all_goals obtain rfl | rfl : r = 0 ∨ r = 1 := by omega
  all_goals simp at h ⊢
/-- What a round of turned knows. -/
def Tn (x y k A B O P : Nat) : Prop := A = x / 2 ^ k ∧ B = y / 2 ^ k ∧ O = (x ^^^ y) % 2 ^ k ∧ P = 2 ^ k
theorem Tn.step {x y k A B O P : Nat} (h : Tn x y k A B O P) : Tn x y (k + 1) (A / 2) (B / 2) (if A % 2 = B % 2 then O else O + P) (P * 2) := by
  obtain ⟨rfl, rfl, rfl, rfl⟩ := h
  refine ⟨by rw [Nat.pow_succ, Nat.div_div_eq_div_mul], by rw [Nat.pow_succ, Nat.div_div_eq_div_mul], ?_, by rw [Nat.pow_succ]⟩
  rw [Nat.mod_pow_succ, bit_step (x := x) (y := y) rfl]
  split <;> simp
theorem Tn.bounds {x y k A B O P : Nat} (h : Tn x y k A B O P) (hx : x < 4294967296) (hy : y < 4294967296) (hk : k ≤ 32) : A < 4294967296 ∧ B < 4294967296 ∧ O < P ∧ P ≤ 4294967296 := by
  obtain ⟨rfl, rfl, rfl, rfl⟩ := h
  have : 2 ^ k ≤ 2 ^ 32 := Nat.pow_le_pow_right (by omega) hk
  exact ⟨Nat.lt_of_le_of_lt (Nat.div_le_self _ _) hx, Nat.lt_of_le_of_lt (Nat.div_le_self _ _) hy, Nat.mod_lt _ (Nat.pow_pos (by omega)), this⟩
set_option maxRecDepth 100000 in
set_option maxHeartbeats 1600000 in
theorem turned_any (x y : Nat) (w : World) (hx : x < 4294967296) (hy : y < 4294967296) :
    Calls Tryd.prog 90 #[.int .u64 x, .int .u64 y] w fun e w' => e = .returned (.int .u64 ((x ^^^ y : Nat) : Int)) ∧ w = w' := by
  have h0 : Hid (Tn x y 0 x y 0 1) := Lib.hid ⟨by simp, by simp, by simp [Nat.mod_one], rfl⟩
  have Hx := Lib.hid hx
  have Hy := Lib.hid hy
  have hz : x ^^^ y < 4294967296 := Nat.xor_lt_two_pow (n := 32) hx hy
  have HZ := Lib.hid hz
  clear hz
  go_enter Tryd.func90, Tryd.ntmps90
  go_wp2_with fail
  go_loop [0, 1, 5, 6, 7] (fun a b o p i => ∃ (k A B O P : Nat), i = .int .i64 k ∧ k ≤ 32 ∧ a = .int .u64 A ∧ b = .int .u64 B ∧ o = .int .u64 O ∧ p = .int .u64 P ∧ Hid (Tn x y k A B O P)) (fun _ _ _ _ i => 32 - (intOf i).toNat)
  case atStart => exact ⟨0, x, y, 0, 1, rfl, by omega, rfl, rfl, rfl, rfl, h0⟩
  case round =>
    obtain ⟨k, A, B, O, P, rfl, hk, rfl, rfl, rfl, rfl, T⟩ := hrel
    obtain ⟨b1, b2, b3, b4⟩ := T.out.bounds Hx.out Hy.out hk
    by_cases hlt : k < 32
    · have T2 := T.out.step
      by_cases hAB : A % 2 = B % 2
      · rw [if_pos hAB] at T2
        have HT2 := Lib.hid T2
        have ht : ((A : Int) % 2 != (B : Int) % 2) = false := by rw [bne_eq_false_iff_eq]; omega
        clear T2 hAB
        go_wp2_with fail
        go_round
        case rel => exact ⟨k + 1, A / 2, B / 2, O, P * 2, by go_num, by omega, by go_num, by go_num, rfl, by go_num, HT2⟩
        case measure => simp [intOf]; omega
      · rw [if_neg hAB] at T2
        have HT2 := Lib.hid T2
        have ht : ((A : Int) % 2 != (B : Int) % 2) = true := by rw [bne_iff_ne]; omega
        clear T2 hAB
        go_wp2_with fail
        go_round
        case rel => exact ⟨k + 1, A / 2, B / 2, O + P, P * 2, by go_num, by omega, by go_num, by go_num, by go_num, by go_num, HT2⟩
        case measure => simp [intOf]; omega
    · obtain rfl : k = 32 := by omega
      go_wp2_with fail
      go_ret
      refine ⟨ret_int ?_, rfl⟩
      have := T.out.2.2.1
      have hz := HZ.out
      rw [this, Nat.mod_eq_of_lt hz]
theorem turnedB_any (x y : BitVec 32) (w : World) :
    Calls Tryd.prog 90 #[.int .u64 (x.toNat : Int), .int .u64 (y.toNat : Int)] w fun e w' => e = .returned (.int .u64 ((x ^^^ y).toNat : Int)) ∧ w = w' := by
  rw [BitVec.toNat_xor]
  exact turned_any _ _ w x.isLt y.isLt
theorem stp_odd {c : BitVec 32} (h : c.toNat % 2 = 1) : (Crc.stp c) = (c >>> 1) ^^^ 3988292384#32 := by
  unfold Crc.stp
  have : c.getLsbD 0 = true := by simp [BitVec.getLsbD, Nat.testBit_eq_decide_div_mod_eq, h]
  rw [this]; rfl
theorem stp_even {c : BitVec 32} (h : ¬ c.toNat % 2 = 1) : (Crc.stp c) = (c >>> 1) := by
  unfold Crc.stp
  have : c.getLsbD 0 = false := by simp [BitVec.getLsbD, Nat.testBit_eq_decide_div_mod_eq, h]
  rw [this]; simp
theorem half (c : BitVec 32) : (c >>> 1).toNat = c.toNat / 2 := by rw [BitVec.toNat_ushiftRight, Nat.shiftRight_eq_div_pow]
theorem stpN_snoc (k : Nat) (c : BitVec 32) : Crc.stpN (k + 1) c = Crc.stp (Crc.stpN k c) := by rw [Crc.stpN_add k 1]; rfl
set_option maxRecDepth 100000 in
set_option maxHeartbeats 3200000 in
theorem refSum_any (a : Option Addr) (cap : Nat) (l : List UInt8) (w : World) (hb : BAt w.heap.size w a l) :
    Calls Tryd.prog 70 #[.slice a l.length cap] w fun e w' => e = .returned (.int .u32 ((Crc.crc l).toNat : Int)) ∧ w = w' := by
  have hm := hb.1
  have HB := Lib.hid hb
  have HT := Lib.hid (fun x y w => turnedB_any x y w)
  clear hb
  generalize hlen : l.length = len at *
  have Hlen := Lib.hid hlen
  clear hlen
  go_enter Tryd.func70, Tryd.ntmps70
  go_wp2_with fail
  go_loop [3, 9] (fun c i => ∃ (k : Nat) (x : BitVec 32), k ≤ len ∧ i = .int .i64 k ∧ c = .int .u64 (x.toNat : Int) ∧ Hid (x = Crc.run (BitVec.allOnes 32) (l.take k))) (fun _ i => len - (intOf i).toNat)
  case atStart => exact ⟨0, BitVec.allOnes 32, Nat.zero_le _, rfl, by rw [BitVec.toNat_allOnes]; rfl, Lib.hid rfl⟩
  case round =>
    obtain ⟨k, x, hk, rfl, rfl, E⟩ := hrel
    by_cases hlt : k < len
    · obtain ⟨b, off, rfl, hbs, c0⟩ := HB.out.at (i := k) (by rw [Hlen.out]; exact hlt)
      have E2 := run_take (l := l) (k := k) (by rw [Hlen.out]; exact hlt) (BitVec.allOnes 32)
      rw [← E.out] at E2
      generalize l.getD k 0 = y at *
      have E3 := Lib.hid E2
      clear E2
      have hy := y.toNat_lt
      have hyy : ((BitVec.ofNat 32 y.toNat).toNat : Int) = (y.toNat : Int) := by rw [BitVec.toNat_ofNat, Nat.mod_eq_of_lt (by omega)]
      have HT1 := Lib.hid (HT.out x (BitVec.ofNat 32 y.toNat))
      rw [hyy] at HT1
      unfold bV at c0
      have hx := x.isLt
      obtain ⟨c1, hc1⟩ : ∃ c1, c1 = x ^^^ BitVec.ofNat 32 y.toNat := ⟨_, rfl⟩
      rw [← hc1] at HT1
      have Hc1 := Lib.hid hc1
      clear hyy hc1
      go_wp2_with fail
      refine (HT1.out _).mono ?_
      rintro e w1 ⟨rfl, rfl⟩
      go_wp2_with fail
      go_loop [3, 5] (fun c i => ∃ (j : Nat) (z : BitVec 32), j ≤ 8 ∧ i = .int .i64 j ∧ c = .int .u64 (z.toNat : Int) ∧ Hid (z = Crc.stpN j c1)) (fun _ i => 8 - (intOf i).toNat)
      case atStart => exact ⟨0, c1, by omega, rfl, rfl, Lib.hid rfl⟩
      case round =>
        obtain ⟨j, z, hj, rfl, rfl, EZ⟩ := hrel
        have hz := z.isLt
        by_cases hj8 : j < 8
        · by_cases ho : z.toNat % 2 = 1
          · have HE : Hid ((z >>> 1) ^^^ 3988292384#32 = Crc.stpN (j + 1) c1) := Lib.hid (by rw [stpN_snoc, ← EZ.out, stp_odd ho])
            have HT2 := Lib.hid (HT.out (z >>> 1) 3988292384#32)
            have hh : ((z >>> 1).toNat : Int) = (z.toNat : Int) / 2 := by rw [half]; rfl
            have hp : ((3988292384#32).toNat : Int) = 3988292384 := rfl
            rw [hh, hp] at HT2
            have ht : ((z.toNat : Int) % 2 == 1) = true := beq_iff_eq.2 (by omega)
            clear hh hp ho
            go_wp2_with fail
            refine (HT2.out _).mono ?_
            rintro e w2 ⟨rfl, rfl⟩
            go_wp2_with fail
            go_round
            case rel => exact ⟨j + 1, _, by omega, by go_num, rfl, HE⟩
            case measure => simp [intOf]; omega
          · have HE : Hid ((z >>> 1) = Crc.stpN (j + 1) c1) := Lib.hid (by rw [stpN_snoc, ← EZ.out, stp_even ho])
            have hh : Hid (((z >>> 1).toNat : Int) = (z.toNat : Int) / 2) := Lib.hid (by rw [half]; rfl)
            have ht : ((z.toNat : Int) % 2 == 1) = false := beq_eq_false_iff_ne.2 (by omega)
            clear ho
            go_wp2_with fail
            go_round
            case rel => exact ⟨j + 1, z >>> 1, by omega, by go_num, by rw [hh.out], HE⟩
            case measure => simp [intOf]; omega
        · obtain rfl : j = 8 := by omega
          go_wp2_with fail
          go_round
          case rel => exact ⟨k + 1, z, by omega, by go_num, rfl, Lib.hid (by rw [E3.out, EZ.out, Hc1.out]; rfl)⟩
          case measure => simp [intOf]; omega
    · obtain rfl : k = len := by omega
      have EX : Hid (x = Crc.run (BitVec.allOnes 32) l) := Lib.hid (by rw [E.out, List.take_of_length_le (by rw [Hlen.out]; exact Nat.le_refl _)])
      have hx := x.isLt
      have hn : Hid (((~~~ x).toNat : Int) = 4294967295 - (x.toNat : Int)) := Lib.hid (by rw [BitVec.toNat_not]; omega)
      go_wp2_with fail
      go_ret
      exact ⟨ret_int (by unfold Crc.crc; rw [← EX.out, hn.out]), rfl⟩
set_option maxHeartbeats 1600000 in
theorem four_any (c : BitVec 32) (w : World) :
    Calls Tryd.prog 69 #[.int .u32 (c.toNat : Int)] w (Adds w.heap.size w (Crc.le4 c)) := by
  have hlt := c.isLt
  go_enter Tryd.func69, Tryd.ntmps69
  go_wp2_with fail
  go_ret
  refine ⟨_, rfl, ⟨by rw [le4_cells]; rfl, .inr ⟨w.heap.size, 4, _, rfl, Nat.le_refl _, heap_alloc_new _ _, Nat.le_refl _, by unfold maxLen; omega, rfl, ?_⟩⟩, (Below.refl _ _).alloc (Nat.le_refl _) _⟩
  rw [le4_cells]
  rfl
end Go.Proofs.YthdaibmminibhaaDoor
