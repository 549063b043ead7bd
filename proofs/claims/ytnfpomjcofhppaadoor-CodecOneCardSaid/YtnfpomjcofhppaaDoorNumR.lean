/- The contract of the reader's number. -/
import Derived.Test.YtnfpomjcofhppaaDoorRdr
namespace Go.Proofs.YtnfpomjcofhppaaDoor
open Go.RowKit

/-- What number answers. -/
def NumPost (g : Nat) (a : Option Addr) (len cap p : Nat) (w : World) (r : Option (Nat × Nat)) (e : Ending) (w' : World) : Prop :=
  (∀ n k, r = some (n, k) → e = .returned (.tuple #[.int .u64 n, .nilIface]) ∧ Goes g a len cap w (p + k) w') ∧ (r = none → ∃ x q, e = .returned (.tuple #[.int .u64 0, x]) ∧ Flaw x ∧ Goes g a len cap w q w')
/-- How far a number is read. -/
def Upto (l : List UInt8) (k m : Nat) : Prop := readN l = (rdN k (l.drop k)).map (fun x => (m + 128 ^ k * x.1, k + x.2)) ∧ m < 128 ^ k

theorem pow7 (k : Nat) : (2 : Nat) ^ (7 * k) = 128 ^ k := by rw [Nat.pow_mul]
theorem pow7i (k : Nat) : (2 : Int) ^ (7 * k) = ((128 ^ k : Nat) : Int) := by rw [← pow7]; simp
/-- The digit at its place, in 64 bits. -/
def shlN (d k : Nat) : Nat := d * 128 ^ k % 18446744073709551616
theorem shl_eq (c k : Nat) : IntKind.u64.wrap ((c : Int) % 128 * 2 ^ (7 * k)) = (shlN (c % 128) k : Int) := by
  rw [IntKind.wrap_u64, pow7i]
  unfold shlN
  have : ((c : Int) % 128 * ((128 ^ k : Nat) : Int)) = ((c % 128 * 128 ^ k : Nat) : Int) := by rw [Int.natCast_mul]; rfl
  rw [this]
  omega
theorem shl_fits {d k : Nat} (hd : d < 128) (hk : k ≤ 9) (h : ¬ (k = 9 ∧ 1 < d)) : d * 128 ^ k < 18446744073709551616 := by
  by_cases h9 : k = 9
  · subst h9; rw [p9]; omega
  · have : 128 ^ k ≤ 128 ^ 8 := Nat.pow_le_pow_right (by omega) (by omega)
    have h4 : d * 128 ^ k ≤ 127 * 128 ^ 8 := Nat.mul_le_mul (by omega) this
    have e8 : (128 : Nat) ^ 8 = 72057594037927936 := rfl
    rw [e8] at h4
    omega
theorem shl_back {c k : Nat} (hk : k ≤ 9) (h : ¬ (k = 9 ∧ 1 < c % 128)) : ((shlN (c % 128) k : Int) / 2 ^ (7 * k) != (c : Int) % 128) = false := by
  have hf := shl_fits (Nat.mod_lt c (by omega)) hk h
  have e : (shlN (c % 128) k : Int) / 2 ^ (7 * k) = (c : Int) % 128 := by
    unfold shlN
    rw [Nat.mod_eq_of_lt hf, pow7i]
    have hp : 0 < 128 ^ k := Nat.pow_pos (by omega)
    have : c % 128 * 128 ^ k / 128 ^ k = c % 128 := Nat.mul_div_cancel _ hp
    have h2 : ((c % 128 * 128 ^ k : Nat) : Int) / ((128 ^ k : Nat) : Int) = ((c % 128 * 128 ^ k / 128 ^ k : Nat) : Int) := rfl
    rw [h2, this]
    rfl
  rw [e]
  simp
theorem shl_off {c : Nat} (h : 1 < c % 128) : ((shlN (c % 128) 9 : Int) / 2 ^ (7 * 9) != (c : Int) % 128) = true := by
  unfold shlN
  rw [pow7i, p9, bne_iff_ne]
  omega
theorem num_or {m d k : Nat} (hk : k ≤ 9) (hm : m < 128 ^ k) (hd : d * 128 ^ k < 18446744073709551616) : bits .or .u64 (m : Int) (shlN d k : Int) = ((m + 128 ^ k * d : Nat) : Int) := by
  have hs : shlN d k = d * 128 ^ k := Nat.mod_eq_of_lt hd
  rw [hs]
  show IntKind.u64.wrap ((BitVec.ofInt 64 (m : Int) ||| BitVec.ofInt 64 ((d * 128 ^ k : Nat) : Int)).toNat : Int) = _
  have hm2 : m < 18446744073709551616 := by
    have : 128 ^ k ≤ 128 ^ 9 := Nat.pow_le_pow_right (by omega) hk
    rw [p9] at this
    omega
  have h1 : BitVec.ofInt 64 (m : Int) = BitVec.ofNat 64 m := by simp
  have h2 : BitVec.ofInt 64 ((d * 128 ^ k : Nat) : Int) = BitVec.ofNat 64 (d * 128 ^ k) := by rw [BitVec.ofInt_natCast]
  rw [h1, h2, BitVec.toNat_or, BitVec.toNat_ofNat, BitVec.toNat_ofNat, Nat.mod_eq_of_lt hm2, Nat.mod_eq_of_lt hd]
  have h3 : m ||| d * 128 ^ k = m + 128 ^ k * d := by
    rw [Nat.or_comm, ← pow7, ← Nat.shiftLeft_eq, ← Nat.shiftLeft_add_eq_or_of_lt (by rw [pow7]; exact hm), Nat.shiftLeft_eq, Nat.add_comm, Nat.mul_comm d]
  rw [h3, IntKind.wrap_u64]
  have : m + 128 ^ k * d < 18446744073709551616 := by
    rw [← h3]
    exact Nat.or_lt_two_pow (n := 64) hm2 hd
  omega
/-- One round's letters. -/
theorem num_letters {c k m : Nat} (hk : k ≤ 9) (hm : m < 128 ^ k) (h : ¬ (k = 9 ∧ 1 < c % 128)) : ∃ (S M : Nat), Hid (M = m + 128 ^ k * (c % 128)) ∧ IntKind.u64.wrap ((c : Int) % 128 * 2 ^ (7 * k)) = (S : Int) ∧ ((S : Int) / 2 ^ (7 * k) != (c : Int) % 128) = false ∧ bits .or .u64 (m : Int) (S : Int) = (M : Int) :=
  ⟨shlN (c % 128) k, _, Lib.hid rfl, shl_eq c k, shl_back hk h, num_or hk hm (shl_fits (Nat.mod_lt c (by omega)) hk h)⟩
theorem drop_cons {L : List UInt8} {k : Nat} (h : k < L.length) : L.drop k = L.getD k 0 :: L.drop (k + 1) := by
  rw [List.drop_eq_getElem_cons h]; simp [List.getD, h]
theorem rdN_ten (l : List UInt8) : rdN 10 l = none := by
  cases l with
  | nil => rfl
  | cons c l => rw [rdN, if_pos (by omega)]
theorem upto_ten {L : List UInt8} {m : Nat} (h : Upto L 10 m) : readN L = none := by rw [h.1, rdN_ten]; rfl
theorem upto_end {L : List UInt8} {k m : Nat} (h : Upto L k m) (hk : L.length ≤ k) : readN L = none := by
  rw [h.1, List.drop_eq_nil_of_le hk]; rfl
theorem upto_off {L : List UInt8} {m : Nat} (h : Upto L 9 m) (hl : 9 < L.length) (hc : 1 < (L.getD 9 0).toNat % 128) : readN L = none := by
  rw [h.1, drop_cons hl, rdN, if_pos (.inr ⟨rfl, hc⟩)]; rfl
theorem upto_loose {L : List UInt8} {k m : Nat} (h : Upto L k m) (hl : k < L.length) (hc : (L.getD k 0).toNat = 0) (hk : 0 < k) : readN L = none := by
  rw [h.1, drop_cons hl, rdN]
  split
  · rfl
  · rw [if_pos (by omega), if_pos ⟨hk, hc⟩]; rfl
theorem upto_ret {L : List UInt8} {k m : Nat} (h : Upto L k m) (hl : k < L.length) (hk : k ≤ 9) (h9 : ¬ (k = 9 ∧ 1 < (L.getD k 0).toNat % 128)) (hc : (L.getD k 0).toNat < 128) (hn : ¬ (0 < k ∧ (L.getD k 0).toNat = 0)) : readN L = some (m + 128 ^ k * ((L.getD k 0).toNat % 128), k + 1) := by
  rw [h.1, drop_cons hl, rdN, if_neg (by omega), if_pos hc, if_neg hn, Nat.mod_eq_of_lt hc]; rfl
theorem upto_step {L : List UInt8} {k m : Nat} (h : Upto L k m) (hl : k < L.length) (hk : k ≤ 9) (h9 : ¬ (k = 9 ∧ 1 < (L.getD k 0).toNat % 128)) (hc : ¬ (L.getD k 0).toNat < 128) : Upto L (k + 1) (m + 128 ^ k * ((L.getD k 0).toNat % 128)) := by
  refine ⟨?_, ?_⟩
  · rw [h.1, drop_cons hl, rdN, if_neg (by omega), if_neg hc, Option.map_map]
    congr 1
    funext x
    simp only [Function.comp]
    rw [Nat.mul_add, ← Nat.mul_assoc, ← pow_step]
    congr 1 <;> omega
  · have h1 := h.2
    have : 128 ^ k * ((L.getD k 0).toNat % 128 + 1) ≤ 128 ^ k * 128 := Nat.mul_le_mul_left _ (by omega)
    rw [Nat.mul_add, Nat.mul_one] at this
    rw [pow_step]
    omega
theorem getD_drop (l : List UInt8) (p k : Nat) : (l.drop p).getD k 0 = l.getD (p + k) 0 := by simp [List.getD, List.getElem?_drop]

set_option maxRecDepth 100000 in
set_option maxHeartbeats 3200000 in
theorem rnumber_any (G g : Nat) (a : Option Addr) (l : List UInt8) (cap p : Nat) (w : World) (hR : Rd g a l.length cap p w) (hb : BAt g w a l) (hp : p ≤ l.length) (hS : Sent G w) (hG : G ≤ g) :
    Calls Tryd.prog 18 #[.pointer (some ⟨g, 0, none⟩)] w (NumPost g a l.length cap p w (readN (l.drop p))) := by
  have HU : Hid (Upto (l.drop p) 0 0) := Lib.hid ⟨by simp [readN], by simp⟩
  have HN := Lib.hid (fun q w' (h : w.grownBy w' (some g)) (hr : Rd g a l.length cap q w') (hq : q < l.length) => next_yes g a l cap q w' hr (hb.keep h (by simp)) hq)
  have HE := Lib.hid (fun q w' (h : w.grownBy w' (some g)) (hr : Rd g a l.length cap q w') (hq : q = l.length) => next_end G g a l.length cap w' (hq ▸ hr) (hS.keep h hG))
  have HW := Lib.hid (fun q t v w' (hr : Rd g a l.length cap q w') => wrong_any g a l.length cap q t v w' hr)
  have HS := Lib.hid hS
  have HG := Lib.hid (show Goes g a l.length cap w p w from ⟨grown_refl _ _, hR⟩)
  have hLl := Lib.hid (List.length_drop (l := l) (i := p))
  have HD := Lib.hid (getD_drop l p)
  obtain ⟨L, hL⟩ : ∃ L, L = l.drop p := ⟨_, rfl⟩
  rw [← hL] at HU hLl HD ⊢
  obtain ⟨r, hr⟩ : ∃ r, r = readN L := ⟨_, rfl⟩
  rw [← hr]
  have Hr := Lib.hid hr
  clear hr hL
  clear hS hR hb
  go_enter Tryd.func18, Tryd.ntmps18
  go_wp2_with fail
  go_loopw [4, 5] (fun n i wr => ∃ (k m : Nat), n = .int .u64 m ∧ i = .int .i64 (7 * (k : Int)) ∧ k ≤ 10 ∧ p + k ≤ l.length ∧ Hid (Upto L k m) ∧ Hid (Goes g a l.length cap w (p + k) wr)) (fun _ i _ => 70 - (intOf i).toNat)
  case atStart => exact ⟨0, 0, rfl, rfl, by omega, by omega, HU, HG⟩
  case round =>
    obtain ⟨k, m, rfl, rfl, hk, hpk, U, K⟩ := hrel
    by_cases h10 : 10 ≤ k
    · have HRn : Hid (r = none) := Lib.hid (by obtain rfl : k = 10 := by omega
                                               rw [Hr.out]; exact upto_ten U.out)
      obtain ⟨_, _, ⟨_, t3, q3, c3⟩, _⟩ := HS.out.keep K.out.1 hG
      go_wp2_with fail
      refine (HW.out _ _ _ _ K.out.2).mono ?_
      rintro e w2 ⟨v, n, rfl, hv, rfl⟩
      go_wp2_with fail
      go_ret2
      exact ⟨fun _ _ h => by (rw [HRn.out] at h; cases h), fun _ => ⟨_, _, rfl, hv, grown_drewN K.out.1 _, K.out.2⟩⟩
    · have hlt : 7 * (k : Int) < 64 := by omega
      by_cases hend : l.length ≤ p + k
      · have HRn : Hid (r = none) := Lib.hid (by rw [Hr.out]; exact upto_end U.out (by rw [hLl.out]; omega))
        go_wp2_with fail
        refine (HE.out _ _ K.out.1 K.out.2 (by omega)).mono ?_
        rintro e w1 ⟨v, rfl, hv, hg1⟩
        obtain ⟨x, t9, q9, rfl⟩ := hv
        go_wp2_with fail
        go_ret2
        exact ⟨fun _ _ h => by (rw [HRn.out] at h; cases h), fun _ => ⟨_, _, rfl, ⟨_, _, _, rfl⟩, K.out.trans hg1⟩⟩
      · have hgo : p + k < l.length := by omega
        have hk9 : k ≤ 9 := by omega
        have hkL : Hid (k < L.length) := Lib.hid (by rw [hLl.out]; omega)
        obtain ⟨c, hc⟩ : ∃ c, c = l.getD (p + k) 0 := ⟨_, rfl⟩
        have Hc : Hid (L.getD k 0 = c) := Lib.hid (by rw [HD.out, hc])
        by_cases h9 : k = 9 ∧ 1 < c.toNat % 128
        · have HRn : Hid (r = none) := Lib.hid (by obtain ⟨rfl, h9⟩ := h9
                                                   rw [Hr.out]; exact upto_off U.out hkL.out (by rw [Hc.out]; exact h9))
          obtain ⟨S, e1, e2⟩ : ∃ S : Nat, IntKind.u64.wrap ((c.toNat : Int) % 128 * 2 ^ (7 * k)) = (S : Int) ∧ ((S : Int) / 2 ^ (7 * k) != (c.toNat : Int) % 128) = true := ⟨_, shl_eq _ _, by obtain ⟨rfl, h9⟩ := h9; exact shl_off h9⟩
          clear h9
          go_wp2_with fail
          refine (HN.out _ _ K.out.1 K.out.2 hgo).mono ?_
          rintro e w1 ⟨rfl, hg1⟩
          rw [← hc]
          unfold bV
          have K1 := Lib.hid (K.out.trans hg1)
          clear hc hg1
          obtain ⟨_, _, ⟨_, t3, q3, c3⟩, _⟩ := HS.out.keep K1.out.1 hG
          go_wp2_with fail
          refine (HW.out _ _ _ _ K1.out.2).mono ?_
          rintro e w2 ⟨v, n, rfl, hv, rfl⟩
          go_wp2_with fail
          go_ret2
          exact ⟨fun _ _ h => by (rw [HRn.out] at h; cases h), fun _ => ⟨_, _, rfl, hv, grown_drewN K1.out.1 _, K1.out.2⟩⟩
        · obtain ⟨S, M, HM, e1, e2, e3⟩ := num_letters (c := c.toNat) hk9 U.out.2 h9
          by_cases hc8 : c.toNat < 128
          · have hc8' : (c.toNat : Int) < 128 := by omega
            by_cases hz : 0 < k ∧ c.toNat = 0
            · have HRn : Hid (r = none) := Lib.hid (by rw [Hr.out]; exact upto_loose U.out hkL.out (by rw [Hc.out]; exact hz.2) hz.1)
              obtain ⟨hk0, hc0⟩ := hz
              have hk0' : 0 < 7 * (k : Int) := by omega
              have hc1 : ((c.toNat : Int) == 0) = true := by rw [hc0]; rfl
              clear hc0
              go_wp2_with fail
              refine (HN.out _ _ K.out.1 K.out.2 hgo).mono ?_
              rintro e w1 ⟨rfl, hg1⟩
              rw [← hc]
              unfold bV
              have K1 := Lib.hid (K.out.trans hg1)
              clear hc hg1
              obtain ⟨_, ⟨_, t2, q2, c2⟩, _⟩ := HS.out.keep K1.out.1 hG
              go_wp2_with fail
              refine (HW.out _ _ _ _ K1.out.2).mono ?_
              rintro e w2 ⟨v, n, rfl, hv, rfl⟩
              go_wp2_with fail
              go_ret2
              exact ⟨fun _ _ h => by (rw [HRn.out] at h; cases h), fun _ => ⟨_, _, rfl, hv, grown_drewN K1.out.1 _, K1.out.2⟩⟩
            · have HRs : Hid (r = some (M, k + 1)) := Lib.hid (by rw [Hr.out, HM.out, ← Hc.out]; exact upto_ret U.out hkL.out hk9 (by rw [Hc.out]; exact h9) (by rw [Hc.out]; exact hc8) (by rw [Hc.out]; exact hz))
              by_cases hc0 : c.toNat = 0
              · have hk0 : 7 * (k : Int) ≤ 0 := by omega
                have hc1 : ((c.toNat : Int) == 0) = true := by rw [hc0]; rfl
                clear hc0
                go_wp2_with fail
                refine (HN.out _ _ K.out.1 K.out.2 hgo).mono ?_
                rintro e w1 ⟨rfl, hg1⟩
                rw [← hc]
                unfold bV
                have K1 := Lib.hid (K.out.trans hg1)
                clear hc hg1
                go_wp2_with fail
                go_ret2
                exact ⟨fun _ _ h => by (rw [HRs.out] at h; cases h; exact ⟨rfl, K1.out⟩), fun h => by (rw [HRs.out] at h; cases h)⟩
              · have hc0' : ¬ (c.toNat : Int) = 0 := by omega
                go_wp2_with fail
                refine (HN.out _ _ K.out.1 K.out.2 hgo).mono ?_
                rintro e w1 ⟨rfl, hg1⟩
                rw [← hc]
                unfold bV
                have K1 := Lib.hid (K.out.trans hg1)
                clear hc hg1
                go_wp2_with fail
                go_ret2
                exact ⟨fun _ _ h => by (rw [HRs.out] at h; cases h; exact ⟨rfl, K1.out⟩), fun h => by (rw [HRs.out] at h; cases h)⟩
          · have U2 : Hid (Upto L (k + 1) M) := Lib.hid (by rw [HM.out, ← Hc.out]; exact upto_step U.out hkL.out hk9 (by rw [Hc.out]; exact h9) (by rw [Hc.out]; exact hc8))
            have hc8' : (128 : Int) ≤ c.toNat := by omega
            go_wp2_with fail
            refine (HN.out _ _ K.out.1 K.out.2 hgo).mono ?_
            rintro e w1 ⟨rfl, hg1⟩
            rw [← hc]
            unfold bV
            have K1 := Lib.hid (K.out.trans hg1)
            clear hc hg1
            go_wp2_with fail
            go_roundw
            case rel => exact ⟨k + 1, M, rfl, by go_num, by omega, by omega, U2, K1⟩
            case measure => simp [intOf]; omega
end Go.Proofs.YtnfpomjcofhppaaDoor
