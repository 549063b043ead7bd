import Derived.Test.YtpklajadfbigcaaGreatDoorZt08
import Derived.Test.YtpklajadfbigcaaGreatDoorZt03
import Derived.Lib.SliceRun
import Derived.Lib.AtoiAll
import Derived.Lib.Strings
import Derived.Lib.Tables
import Derived.Lib.Bytealg
set_option linter.unusedSimpArgs false
set_option linter.unusedVariables false
namespace Go.Proofs.YtpklajadfbigcaaGreatDoor
open Go.RowKit

end Go.Proofs.YtpklajadfbigcaaGreatDoor
namespace Go.Proofs.YtpklajadfbigcaaGreatDoor
namespace Wd
open Go.RowKit

set_option maxRecDepth 100000 in
set_option maxHeartbeats 1600000 in
theorem len64_any (w : World) :
    Calls Tryz.prog 98 #[.int .u64 10000000000000000000] w fun e w' => e = .returned (.int .i64 64) ∧ w = w' := by
  go_enter Tryz.func98, Tryz.ntmps98
  go_wp2_with fail
  go_ret
  exact ⟨ret_int (by first | kernel_rfl | (simp [wrap64, Lib.len8]; done)), rfl⟩
set_option maxRecDepth 100000 in
set_option maxHeartbeats 1600000 in
theorem lead_any (w : World) :
    Calls Tryz.prog 90 #[.int .u64 10000000000000000000] w fun e w' => e = .returned (.int .i64 0) ∧ w = w' := by
  have H := Lib.hid (len64_any w)
  go_enter Tryz.func90, Tryz.ntmps90
  go_wp2_with fail
  refine H.out.mono ?_
  rintro e w' ⟨rfl, rfl⟩
  go_wp2_with fail
  go_ret
  exact ⟨rfl, rfl⟩

theorem and_mask (n : Nat) (h : n < 18446744073709551616) : bits .and .u64 (n : Int) 4294967295 = ((n % 4294967296 : Nat) : Int) := by
  have h1 : (BitVec.ofInt 64 (n : Int)).toNat = n := by
    rw [BitVec.ofInt_natCast, BitVec.toNat_ofNat]; exact Nat.mod_eq_of_lt (by omega)
  show IntKind.u64.wrap ((BitVec.ofInt 64 (n : Int) &&& BitVec.ofInt 64 4294967295).toNat : Int) = _
  rw [BitVec.toNat_and, h1, show (BitVec.ofInt 64 4294967295).toNat = 2 ^ 32 - 1 from rfl, Nat.and_two_pow_sub_one_eq_mod, IntKind.wrap_u64]
  omega
theorem or_none (n : Nat) (h : n < 18446744073709551616) : bits .or .u64 (n : Int) 0 = (n : Int) := by
  have h1 : (BitVec.ofInt 64 (n : Int)).toNat = n := by
    rw [BitVec.ofInt_natCast, BitVec.toNat_ofNat]; exact Nat.mod_eq_of_lt (by omega)
  show IntKind.u64.wrap ((BitVec.ofInt 64 (n : Int) ||| BitVec.ofInt 64 0).toNat : Int) = _
  rw [BitVec.toNat_or, h1, show (BitVec.ofInt 64 0).toNat = 0 from rfl, Nat.or_zero, IntKind.wrap_u64]
  omega
theorem digit_facts (u n : Nat) (hu : u < 10000000000000000000) (hn : n < 4294967296) :
    Hid (((u % 2328306436 : Nat) : Int) < 4294967296 ∧ guess u n (u / 2328306436) (u % 2328306436))
      ∧ Hid (∀ q r : Nat, guess u n q r → r < 4294967296 → ∃ x1 x2 x3 : Nat, IntKind.u64.wrap ((q : Int) * ((2313682944 : Nat) : Int)) = (x1 : Int) ∧ IntKind.u64.wrap (4294967296 * (r : Int)) = (x2 : Int) ∧ IntKind.u64.wrap ((x2 : Int) + (n : Int)) = (x3 : Int) ∧ Hid (True ∧ ((4294967296 ≤ q ∨ x3 < x1) → (4294967296 ≤ q ∨ r * 4294967296 + n < q * 2313682944)) ∧ (¬ (4294967296 ≤ q ∨ x3 < x1) → q = qD u n)))
      ∧ Hid (∀ q r : Nat, guess u n q r → r < 4294967296 → (4294967296 ≤ q ∨ r * 4294967296 + n < q * 2313682944) → ∃ q' r' : Nat, IntKind.u64.wrap ((q : Int) - 1) = (q' : Int) ∧ IntKind.u64.wrap ((r : Int) + ((2328306436 : Nat) : Int)) = (r' : Int) ∧ Hid (guess u n q' r' ∧ q' + 1 = q ∧ q' ≤ 4294967297))
      ∧ Hid (∀ q r : Nat, guess u n q r → 4294967296 ≤ r → q ≤ 4294967297 → q = qD u n) := by
  refine ⟨Lib.hid ⟨by omega, guess_start u n hu hn⟩, Lib.hid fun q r g hr => ?_, Lib.hid fun q r g hr t => ?_, Lib.hid fun q r g hr hq => guess_over hn g hr hq⟩
  · obtain ⟨x1, x2, x3, f1, f2, f3, f4, f5⟩ := div_round u n q r hn hr g
    exact ⟨x1, x2, x3, f1, f2, f3, Lib.hid ⟨trivial, fun t => by omega, fun t => guess_end g (by omega)⟩⟩
  · obtain ⟨g2, g3⟩ := guess_more hu hn g t
    have hq : q ≤ 4294967298 := g.2.2
    refine ⟨q - 1, r + 2328306436, ?_, ?_, Lib.hid ⟨g2, by omega, by omega⟩⟩
    · rw [wrap_u64 (by omega) (by omega)]; omega
    · rw [wrap_u64 (by omega) (by omega)]; omega
theorem digit_off (u n Q u2 : Nat) (eQ : Q = qD u n) (e2 : u2 = (u * 4294967296 + n) % 10000000000000000000) :
    ∃ A1 A2 A3 : Nat, IntKind.u64.wrap ((u : Int) * 4294967296) = (A1 : Int) ∧ IntKind.u64.wrap ((A1 : Int) + (n : Int)) = (A2 : Int) ∧ IntKind.u64.wrap ((Q : Int) * 10000000000000000000) = (A3 : Int) ∧ IntKind.u64.wrap ((A2 : Int) - (A3 : Int)) = (u2 : Int) := by
  unfold qD at eQ
  refine ⟨u * 4294967296 % 18446744073709551616, (u * 4294967296 + n) % 18446744073709551616, Q * 10000000000000000000 % 18446744073709551616, ?_, ?_, ?_, ?_⟩ <;> rw [IntKind.wrap_u64] <;> omega
theorem first_guess (u : Nat) (hu : u < 10000000000000000000) : ∃ q0 r0 : Nat, q0 = u / 2328306436 ∧ r0 = u % 2328306436 ∧ IntKind.u64.wrap ((u : Int) / ((2328306436 : Nat) : Int)) = (q0 : Int)
    ∧ IntKind.u64.wrap ((u : Int) - IntKind.u64.wrap ((q0 : Int) * ((2328306436 : Nat) : Int))) = (r0 : Int) := by
  refine ⟨u / 2328306436, u % 2328306436, rfl, rfl, ?_, ?_⟩
  · rw [IntKind.wrap_u64]; omega
  · rw [IntKind.wrap_u64, IntKind.wrap_u64]; omega
theorem last_sum (Q1 Q0 : Nat) (h1 : Q1 < 4294967296) (h0 : Q0 < 4294967296) : ∃ B1 : Nat, IntKind.u64.wrap ((Q1 : Int) * 4294967296) = (B1 : Int) ∧ IntKind.u64.wrap ((B1 : Int) + (Q0 : Int)) = ((Q1 * 4294967296 + Q0 : Nat) : Int) := by
  refine ⟨Q1 * 4294967296, ?_, ?_⟩ <;> rw [IntKind.wrap_u64] <;> omega
theorem qD_lt (u n : Nat) (hu : u < 10000000000000000000) (hn : n < 4294967296) : qD u n < 4294967296 := by unfold qD; omega
theorem shift_none (lo : Nat) (h : lo < 18446744073709551616) : (lo : Int) / 18446744073709551616 = 0 := by omega
theorem shift_half (lo n1 : Nat) (e : n1 = lo / 4294967296) : (lo : Int) / 4294967296 = (n1 : Int) := by omega
theorem nat_lt (hi : Nat) (h : hi < 10000000000000000000) : (hi : Int) < 10000000000000000000 := by omega
theorem nat_ne (hi : Nat) (h : 0 < hi) : ((hi : Int) == 0) = false := by simp; omega

theorem y_ne : ((10000000000000000000 : Int) == 0) = false := by decide
theorem y_wrap : IntKind.u64.wrap 10000000000000000000 = 10000000000000000000 := wrap_u64 (by omega) (by omega)
theorem y_hi : (10000000000000000000 : Int) / 4294967296 = ((2328306436 : Nat) : Int) := by omega
theorem y_lo : bits .and .u64 10000000000000000000 4294967295 = ((2313682944 : Nat) : Int) := by
  have := and_mask 10000000000000000000 (by omega)
  simpa using this
theorem a_ne : ¬ (2328306436 : Nat) = 0 := by omega
theorem n_wrap (n : Nat) (h : n < 18446744073709551616) : IntKind.u64.wrap (n : Int) = (n : Int) := wrap_u64 (by omega) (by omega)
theorem ten_lt (n : Nat) (h : n < 10000000000000000000) : n < 18446744073709551616 := by omega
set_option maxRecDepth 100000 in
set_option maxHeartbeats 3200000 in
theorem div_letters (hi lo n1 n0 u Q1 Q0 R : Nat) (w : World) (h0 : 0 < hi) (h1 : hi < 10000000000000000000) (h2 : lo < 18446744073709551616) (en1 : n1 = lo / 4294967296) (en0 : n0 = lo % 4294967296) (l1 : n1 < 4294967296) (l0 : n0 < 4294967296)
    (eu : u = (hi * 4294967296 + n1) % 10000000000000000000) (lu : u < 10000000000000000000) (eR : R = (u * 4294967296 + n0) % 10000000000000000000) (eQ1 : Q1 = qD hi n1) (eQ0 : Q0 = qD u n0) :
    Calls Tryz.prog 86 #[.int .u64 hi, .int .u64 lo, .int .u64 10000000000000000000] w fun e w' => e = .returned (.tuple #[.int .u64 ((Q1 * 4294967296 + Q0 : Nat) : Int), .int .u64 (R : Int)]) ∧ w = w' := by
  obtain ⟨s1, r1, d1, o1⟩ := digit_facts hi n1 h1 l1
  obtain ⟨s2, r2, d2, o2⟩ := digit_facts u n0 lu l0
  obtain ⟨A1, A2, A3, a1, a2, a3, a4⟩ := digit_off hi n1 Q1 u eQ1 eu
  obtain ⟨C1, C2, C3, c1, c2, c3, c4⟩ := digit_off u n0 Q0 R eQ0 eR
  obtain ⟨q1, t1, f1, f2, p1, p2⟩ := first_guess hi h1
  obtain ⟨q0, t0, f3, f4, p3, p4⟩ := first_guess u lu
  rw [← f1, ← f2] at s1
  rw [← f3, ← f4] at s2
  rw [← eQ1] at r1 o1
  rw [← eQ0] at r2 o2
  have m := and_mask lo h2
  rw [← en0] at m
  obtain ⟨B1, b1, b2⟩ := last_sum Q1 Q0 (eQ1 ▸ qD_lt hi n1 h1 l1) (eQ0 ▸ qD_lt u n0 lu l0)
  exact div_gen 10000000000000000000 hi lo 2328306436 2313682944 n1 n0 q1 t1 Q1 u q0 t0 Q0 A1 A2 A3 B1 (Q1 * 4294967296 + Q0) C1 C2 C3 R w y_ne (nat_lt hi h1) (nat_ne hi h0) y_wrap y_hi y_lo
    (n_wrap hi (ten_lt hi h1)) (n_wrap lo h2) (shift_none lo h2) (or_none hi (ten_lt hi h1)) (shift_half lo n1 en1) m a_ne p1 p2 s1 r1 d1 o1 s2 r2 d2 o2 a1 a2 a3 a4 p3 p4 b1 b2 c1 c2 c3 c4 (Lib.hid lead_any)
end Wd
end Go.Proofs.YtpklajadfbigcaaGreatDoor
namespace Go.Proofs.YtpklajadfbigcaaGreatDoor
open Go.RowKit

theorem add_atT (g o j : Nat) : (⟨g, o, none⟩ : Addr).add j = ⟨g, o + j, none⟩ := by
  unfold Addr.add
  split
  · subst_vars; rfl
  · rfl
theorem val_infoT : (Tryz.prog.info? 37).map (fun i => (i.zero, i.size, i.bytes)) = some (some (.agg #[.int .i64 0, .int .i64 0, .string ⟨#[]⟩]), 3, 32) := by kernel_rfl
theorem info_partsT {o : Option TypeInfo} {z : Value} {s b : Nat} (h : o.map (fun i => (i.zero, i.size, i.bytes)) = some (some z, s, b)) : ∃ i, o = some i ∧ i.zero = some z ∧ i.size = s ∧ i.bytes = b := by
  cases o with
  | none => cases h
  | some i => simp at h; exact ⟨i, rfl, h.1, h.2.1, h.2.2⟩
end Go.Proofs.YtpklajadfbigcaaGreatDoor
namespace Go.Proofs.YtpklajadfbigcaaGreatDoor
open Go.RowKit

def digB (c : UInt8) : Bool := decide (48 ≤ c.toNat) && decide (c.toNat ≤ 57)
def wrB (l : List UInt8) : Bool := match Lib.trimPrefix l [45] with
  | [] => false
  | c :: r => if c = 48 then l == [48] else (c :: r).all digB

def ival (l : List UInt8) : Int := match l with
  | [] => 0
  | c :: r => if c = 45 then -(dval r : Int) else dval (c :: r)
end Go.Proofs.YtpklajadfbigcaaGreatDoor
namespace Go.Proofs.YtpklajadfbigcaaGreatDoor
namespace Wd
open Go.RowKit

theorem div_sum (hi lo n1 n0 u Q1 Q0 R : Nat) (en1 : n1 = lo / 4294967296) (en0 : n0 = lo % 4294967296) (eu : u = (hi * 4294967296 + n1) % 10000000000000000000) (eR : R = (u * 4294967296 + n0) % 10000000000000000000) (eQ1 : Q1 = qD hi n1) (eQ0 : Q0 = qD u n0) :
    (Q1 * 4294967296 + Q0) * 10000000000000000000 + R = hi * 18446744073709551616 + lo ∧ R < 10000000000000000000 := by
  unfold qD at *
  omega
theorem div_split (hi lo : Nat) (h1 : hi < 10000000000000000000) (h2 : lo < 18446744073709551616) : ∃ f b : Nat, f < 18446744073709551616 ∧ b < 10000000000000000000 ∧ f * 10000000000000000000 + b = hi * 18446744073709551616 + lo
    ∧ Hid (∀ w, Calls Tryz.prog 86 #[.int .u64 hi, .int .u64 lo, .int .u64 10000000000000000000] w fun e w' => e = .returned (.tuple #[.int .u64 f, .int .u64 b]) ∧ Below w.heap.size w w') := by
  by_cases h0 : hi = 0
  · subst h0
    exact ⟨lo / 10000000000000000000, lo % 10000000000000000000, by omega, by omega, by omega, Lib.hid fun w => div_low lo w h2⟩
  · obtain ⟨n1, en1⟩ : ∃ n1, n1 = lo / 4294967296 := ⟨_, rfl⟩
    obtain ⟨n0, en0⟩ : ∃ n0, n0 = lo % 4294967296 := ⟨_, rfl⟩
    obtain ⟨u, eu⟩ : ∃ u, u = (hi * 4294967296 + n1) % 10000000000000000000 := ⟨_, rfl⟩
    obtain ⟨R, eR⟩ : ∃ R, R = (u * 4294967296 + n0) % 10000000000000000000 := ⟨_, rfl⟩
    obtain ⟨Q1, eQ1⟩ : ∃ Q1, Q1 = qD hi n1 := ⟨_, rfl⟩
    obtain ⟨Q0, eQ0⟩ : ∃ Q0, Q0 = qD u n0 := ⟨_, rfl⟩
    have l1 : n1 < 4294967296 := by omega
    have l0 : n0 < 4294967296 := by omega
    have lu : u < 10000000000000000000 := by omega
    obtain ⟨e1, e2⟩ := div_sum hi lo n1 n0 u Q1 Q0 R en1 en0 eu eR eQ1 eQ0
    have q1 : Q1 < 4294967296 := eQ1 ▸ qD_lt hi n1 h1 l1
    have q0 : Q0 < 4294967296 := eQ0 ▸ qD_lt u n0 lu l0
    exact ⟨Q1 * 4294967296 + Q0, R, by omega, e2, e1, Lib.hid fun w => (div_letters hi lo n1 n0 u Q1 Q0 R w (by omega) h1 h2 en1 en0 l1 l0 eu lu eR eQ1 eQ0).mono fun e w' h => ⟨h.1, by rw [← h.2]; exact Below.refl _ _⟩⟩
theorem prog_digits (h : Int) (hu l : Nat) (w : World) (hw : IntKind.u64.wrap h = (hu : Int)) (h1 : hu < 10000000000000000000) (h2 : l < 18446744073709551616) (htab : TabW w) :
    Calls Tryz.prog 83 #[.agg #[.int .i64 h, .int .u64 l]] w fun e w' => e = .returned (.string ⟨(Lib.decDigits (hu * 18446744073709551616 + l)).toArray⟩) ∧ Below w.heap.size w w' := by
  obtain ⟨f, b, hf, hb, e, HD⟩ := div_split hu l h1 h2
  rw [← e]
  exact digits_any h hu l f b w hw hf hb HD htab
end Wd
end Go.Proofs.YtpklajadfbigcaaGreatDoor
