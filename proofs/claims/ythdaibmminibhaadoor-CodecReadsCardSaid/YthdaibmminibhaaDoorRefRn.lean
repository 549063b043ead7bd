/- Contract of the document's ReadNumber. -/
import Derived.Test.YthdaibmminibhaaDoorNumR
namespace Go.Proofs.YthdaibmminibhaaDoor
open Go.RowKit

def rnV : Option (Nat × Nat) → Value
  | some (n, k) => .tuple #[.int .u64 n, .int .i64 k]
  | none => .tuple #[.int .u64 0, .int .i64 0]
theorem wrap_u64_lt {x : Int} (h0 : 0 ≤ x) (h1 : x < 18446744073709551616) : IntKind.u64.wrap x = x := by
  rw [IntKind.wrap_u64]; omega
theorem p10 (k : Nat) (h : k ≤ 9) : 128 ^ k ≤ 9223372036854775808 := by
  have : (128 : Nat) ^ k ≤ 128 ^ 9 := Nat.pow_le_pow_right (by omega) h
  rw [p9] at this
  exact this
theorem dig_fits {k m d : Nat} (hk : k ≤ 9) (hm : m < 128 ^ k) (hd : d < 128) (h : ¬ (k = 9 ∧ 1 < d)) : m + 128 ^ k * d < 18446744073709551616 := by
  by_cases h9 : k = 9
  · subst h9
    have : 128 ^ 9 * d ≤ 128 ^ 9 * 1 := Nat.mul_le_mul_left _ (by omega)
    rw [p9] at this hm
    rw [p9]
    omega
  · have h8 : 128 ^ k * 128 ≤ 9223372036854775808 := by
      have := p10 (k + 1) (by omega)
      rwa [pow_step] at this
    have : 128 ^ k * d ≤ 128 ^ k * 127 := Nat.mul_le_mul_left _ (by omega)
    omega
/-- One round's letters. -/
theorem rn_letters {y k m P : Nat} (hk : k ≤ 9) (hP : P = 128 ^ k) (hm : m < 128 ^ k) (h : ¬ (k = 9 ∧ 1 < y % 128)) :
    ∃ Q M P2 : Nat, IntKind.u64.wrap ((y : Int) % 128 * (P : Int)) = (Q : Int) ∧ IntKind.u64.wrap ((m : Int) + (Q : Int)) = (M : Int) ∧ IntKind.u64.wrap ((P : Int) * 128) = (P2 : Int) ∧ Hid (M = m + 128 ^ k * (y % 128)) ∧ Hid (k + 1 ≤ 9 → P2 = 128 ^ (k + 1)) := by
  have hf := dig_fits hk hm (Nat.mod_lt y (by omega : 0 < 128)) h
  refine ⟨128 ^ k * (y % 128), m + 128 ^ k * (y % 128), (IntKind.u64.wrap ((P : Int) * 128)).toNat, ?_, ?_, ?_, Lib.hid rfl, Lib.hid fun h9 => ?_⟩
  · have e : (y : Int) % 128 * (P : Int) = ((128 ^ k * (y % 128) : Nat) : Int) := by subst hP; push_cast; rw [Int.mul_comm]
    rw [e, wrap_u64_lt (by omega) (by omega)]
  · rw [wrap_u64_lt (by omega) (by omega)]; omega
  · rw [IntKind.wrap_u64]; omega
  · have h2 := p10 (k + 1) h9
    rw [pow_step] at h2 ⊢
    rw [← hP] at h2 ⊢
    rw [wrap_u64_lt (by omega) (by omega)]
    omega
set_option maxRecDepth 100000 in
set_option maxHeartbeats 6400000 in
theorem refReadNumber_any (a : Option Addr) (cap : Nat) (l : List UInt8) (w : World) (hb : BAt w.heap.size w a l) :
    Calls Tryd.prog 23 #[.slice a l.length cap] w fun e w' => e = .returned (rnV (readN l)) ∧ w = w' := by
  have HU : Hid (Upto l 0 0) := Lib.hid ⟨by simp [readN], by simp⟩
  have hm9 := hb.1
  have HB := Lib.hid hb
  obtain ⟨r, hr⟩ : ∃ r, r = readN l := ⟨_, rfl⟩
  rw [← hr]
  have Hr := Lib.hid hr
  clear hb hr
  obtain ⟨len, hlen⟩ : ∃ len, len = l.length := ⟨_, rfl⟩
  have HL := Lib.hid hlen
  rw [← hlen] at hm9 ⊢
  clear hlen
  go_enter Tryd.func23, Tryd.ntmps23
  go_wp2_with fail
  go_loop [4, 5, 10] (fun n p i => ∃ (k m P : Nat), n = .int .u64 m ∧ p = .int .u64 P ∧ i = .int .i64 k ∧ k ≤ 10 ∧ k ≤ len ∧ Hid (Upto l k m) ∧ Hid (k ≤ 9 → P = 128 ^ k)) (fun _ _ i => len - (intOf i).toNat)
  case atStart => exact ⟨0, 0, 1, rfl, rfl, rfl, by omega, by omega, HU, Lib.hid (fun _ => by simp)⟩
  case round =>
    obtain ⟨k, m, P, rfl, rfl, rfl, hk10, hkl, U, HP⟩ := hrel
    by_cases hlt : k < len
    · have hkL : Hid (k < l.length) := Lib.hid (by rw [← HL.out]; exact hlt)
      obtain ⟨b, off, rfl, hbs, c0⟩ := HB.out.at (i := k) hkL.out
      obtain ⟨y, hy⟩ : ∃ y, y = (l.getD k 0) := ⟨_, rfl⟩
      rw [← hy] at c0
      have Hy := Lib.hid hy.symm
      unfold bV at c0
      have hy256 := y.toNat_lt
      clear hy
      by_cases h10 : 10 ≤ k
      · have HRn : Hid (r = none) := Lib.hid (by obtain rfl : k = 10 := by omega
                                                 rw [Hr.out]; exact upto_ten U.out)
        have t1 : (9 : Int) < k := by omega
        go_wp2_with fail
        go_ret2
        exact ⟨by rw [HRn.out]; rfl, rfl⟩
      · have t1 : (k : Int) ≤ 9 := by omega
        by_cases h9 : k = 9 ∧ 1 < y.toNat % 128
        · have HRn : Hid (r = none) := Lib.hid (by obtain ⟨rfl, h9⟩ := h9
                                                   rw [Hr.out]; exact upto_off U.out hkL.out (by rw [Hy.out]; exact h9))
          have t2 : ((k : Int) == 9) = true := beq_iff_eq.2 (by omega)
          have t3 : (1 : Int) < (y.toNat : Int) % 128 := by omega
          clear h9
          go_wp2_with fail
          go_ret2
          exact ⟨by rw [HRn.out]; rfl, rfl⟩
        · have hP := HP.out (by omega)
          obtain ⟨Q, M, P2, e1, e2, e3, HM, HP2⟩ := rn_letters (y := y.toNat) (by omega) hP U.out.2 h9
          clear hP
          have key : (((k : Int) == 9) = true ∧ (y.toNat : Int) % 128 ≤ 1) ∨ ((k : Int) == 9) = false := by
            by_cases e : k = 9
            · exact .inl ⟨beq_iff_eq.2 (by omega), by omega⟩
            · exact .inr (beq_eq_false_iff_ne.2 (by omega))
          by_cases hc8 : y.toNat < 128
          · have hc8' : (y.toNat : Int) < 128 := by omega
            by_cases hz : 0 < k ∧ y.toNat = 0
            · have HRn : Hid (r = none) := Lib.hid (by rw [Hr.out]; exact upto_loose U.out hkL.out (by rw [Hy.out]; exact hz.2) hz.1)
              have hk0 : (0 : Int) < k := by omega
              have hc1 : ((y.toNat : Int) == 0) = true := beq_iff_eq.2 (by omega)
              clear hz h9 hc8
              rcases key with ⟨t2, t3⟩ | t2
              all_goals
                go_wp2_with fail
                go_ret2
                exact ⟨by rw [HRn.out]; rfl, rfl⟩
            · have HRs : Hid (r = some (M, k + 1)) := Lib.hid (by rw [Hr.out, HM.out, ← Hy.out]; exact upto_ret U.out hkL.out (by omega) (by rw [Hy.out]; exact h9) (by rw [Hy.out]; exact hc8) (by rw [Hy.out]; exact hz))
              have key2 : ((k : Int) ≤ 0) ∨ ((0 : Int) < k ∧ ((y.toNat : Int) == 0) = false) := by
                by_cases e : k = 0
                · exact .inl (by omega)
                · exact .inr ⟨by omega, beq_eq_false_iff_ne.2 (by omega)⟩
              clear hz h9 hc8
              rcases key with ⟨t2, t3⟩ | t2
              all_goals
                rcases key2 with t4 | ⟨t4, t5⟩
                all_goals
                  go_wp2_with fail
                  go_ret2
                  exact ⟨by rw [HRs.out]; rfl, rfl⟩
          · have U2 : Hid (Upto l (k + 1) M) := Lib.hid (by rw [HM.out, ← Hy.out]; exact upto_step U.out hkL.out (by omega) (by rw [Hy.out]; exact h9) (by rw [Hy.out]; exact hc8))
            have hc8' : (128 : Int) ≤ (y.toNat : Int) := by omega
            clear h9 hc8
            rcases key with ⟨t2, t3⟩ | t2
            all_goals
              go_wp2_with fail
              go_round
              case rel => exact ⟨k + 1, M, P2, rfl, rfl, by go_num, by omega, by omega, U2, HP2⟩
              case measure => simp [intOf]; omega
    · obtain rfl : k = len := by omega
      have HRn : Hid (r = none) := Lib.hid (by rw [Hr.out]; exact upto_end U.out (by rw [← HL.out]; exact Nat.le_refl _))
      go_wp2_with fail
      go_ret2
      exact ⟨by rw [HRn.out]; rfl, rfl⟩
end Go.Proofs.YthdaibmminibhaaDoor
