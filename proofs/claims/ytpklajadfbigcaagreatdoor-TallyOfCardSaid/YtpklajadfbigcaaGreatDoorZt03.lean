import Derived.Test.YtpklajadfbigcaaGreatDoorZt01
import Derived.Deep.RegionHeld3
import Derived.Deep.RegionWith
import Derived.Deep.QuietTactic
import Derived.BigQuiet
import Derived.Test.YtpklajadfbigcaaGreatDoorZt02
set_option linter.unusedSimpArgs false
set_option linter.unusedVariables false
namespace Go.Proofs.YtpklajadfbigcaaGreatDoor
open Go.RowKit

theorem heap_new (w : World) (o : Obj) : (w.alloc o).heap[w.heap.size]? = some o := by
  show (w.heap.push o)[w.heap.size]? = _
  simp
end Go.Proofs.YtpklajadfbigcaaGreatDoor
namespace Go.Proofs.YtpklajadfbigcaaGreatDoor
open Go.RowKit

theorem or_here (a b c : Int) (o1 o2 : Obj) (w : World) :
    Calls Tryz.prog 45 #[.slice (some ⟨w.heap.size + 1 + 1, 0, none⟩) 3 3] (((w.alloc o1).alloc o2).alloc (.cells #[.int .i64 a, .int .i64 b, .int .i64 c] 3)).drew fun e w' => e = .returned (.int .i64 (or3 a b c)) ∧ (((w.alloc o1).alloc o2).alloc (.cells #[.int .i64 a, .int .i64 b, .int .i64 c] 3)).drew = w' :=
  or_any a b c _ _ (by go_simp) (by go_simp) (by go_simp)

set_option maxHeartbeats 400000 in
theorem compare_any (ak an : Int) (sa : ByteArray) (bk bn : Int) (sb : ByteArray) (w : World) :
    Calls Tryz.prog 26 #[.agg #[.int .i64 ak, .int .i64 an, .string sa], .agg #[.int .i64 bk, .int .i64 bn, .string sb]] w fun e w' => e = .returned (.int .i64 (or3 (cmp3 ak bk) (cmp3 an bn) (Lib.compareBytes sa.data.toList sb.data.toList))) ∧ Below w.heap.size w w' := by
  go_enter Tryz.func26, Tryz.ntmps26
  go_wp2
  go_region_held3 (fun w' => w'.cell? ⟨w.heap.size, 0, none⟩ = some (.int .i64 ak) ∧ w'.cell? ⟨w.heap.size, 1, none⟩ = some (.int .i64 an) ∧ w'.cell? ⟨w.heap.size, 2, none⟩ = some (.string sa) ∧ w'.cell? ⟨w.heap.size + 1, 0, none⟩ = some (.int .i64 bk) ∧ w'.cell? ⟨w.heap.size + 1, 1, none⟩ = some (.int .i64 bn) ∧ w'.cell? ⟨w.heap.size + 1, 2, none⟩ = some (.string sb)) (go_keep) (first | (go_at_call 46; refine (cmpKind_any _ _ _).mono ?_; rintro e w' ⟨rfl, rfl⟩) | (go_at_call 47; refine (cmpInt_any _ _ _).mono ?_; rintro e w' ⟨rfl, rfl⟩) | (go_at_call 48; refine (strCompare_any _ _ _).mono ?_; rintro e w' ⟨rfl, rfl⟩) | (go_at_call 45; refine (or_here _ _ _ _ _ _).mono ?_; rintro e w' ⟨rfl, rfl⟩))
  go_wp2
  go_ret
  exact ⟨rfl, ((((Below.refl _ _).alloc (Nat.le_refl _) _).alloc (by simp) _).alloc (by simp; omega) _).drew⟩

theorem drop_bytes (a : ByteArray) (k : Nat) (h : k < a.size) : a.data.toList.drop k = a[k] :: a.data.toList.drop (k + 1) := by
  rw [List.drop_eq_getElem_cons (by simpa using h)]; rfl
theorem cb_lt {a b : ByteArray} {k : Nat} (ha : k < a.size) (hb : k < b.size) (h : a[k].toNat < b[k].toNat) : Lib.compareBytes (a.data.toList.drop k) (b.data.toList.drop k) = -1 := by
  rw [drop_bytes a k ha, drop_bytes b k hb]
  simp only [Lib.compareBytes]
  rw [if_pos (UInt8.lt_iff_toNat_lt.2 h)]
theorem cb_gt {a b : ByteArray} {k : Nat} (ha : k < a.size) (hb : k < b.size) (h : b[k].toNat < a[k].toNat) : Lib.compareBytes (a.data.toList.drop k) (b.data.toList.drop k) = 1 := by
  rw [drop_bytes a k ha, drop_bytes b k hb]
  simp only [Lib.compareBytes]
  rw [if_neg (by rw [UInt8.lt_iff_toNat_lt]; omega), if_pos (UInt8.lt_iff_toNat_lt.2 h)]
theorem cb_eq {a b : ByteArray} {k : Nat} (ha : k < a.size) (hb : k < b.size) (h : ¬ a[k].toNat < b[k].toNat) (h' : ¬ b[k].toNat < a[k].toNat) : Lib.compareBytes (a.data.toList.drop k) (b.data.toList.drop k) = Lib.compareBytes (a.data.toList.drop (k + 1)) (b.data.toList.drop (k + 1)) := by
  rw [drop_bytes a k ha, drop_bytes b k hb]
  simp only [Lib.compareBytes]
  rw [if_neg (by rw [UInt8.lt_iff_toNat_lt]; omega), if_neg (by rw [UInt8.lt_iff_toNat_lt]; omega)]
theorem drop_end (a : ByteArray) (k : Nat) (h : a.size ≤ k) : a.data.toList.drop k = [] := List.drop_of_length_le (by simpa using h)
theorem cb_end {a b : ByteArray} {k : Nat} (ha : k ≤ a.size) (hb : k ≤ b.size) (h : ¬ (k < a.size ∧ k < b.size)) : Lib.compareBytes (a.data.toList.drop k) (b.data.toList.drop k) = cmp3 (a.size : Int) (b.size : Int) := by
  unfold cmp3
  by_cases h1 : k < a.size
  · have h2 : ¬ k < b.size := fun h2 => h ⟨h1, h2⟩
    rw [drop_bytes a k h1, drop_end b k (by omega), if_neg (by omega), if_pos (by omega)]; rfl
  · by_cases h2 : k < b.size
    · rw [drop_bytes b k h2, drop_end a k (by omega), if_pos (by omega)]; rfl
    · rw [drop_end a k (by omega), drop_end b k (by omega), if_neg (by omega), if_neg (by omega)]; rfl

set_option maxHeartbeats 400000 in
theorem texts_any (a b : ByteArray) (w : World) (hsa : a.size ≤ maxLen) :
    Calls Tryz.prog 56 #[.string a, .string b] w fun e w' => e = .returned (.int .i64 (Lib.compareBytes a.data.toList b.data.toList)) ∧ Below w.heap.size w w' := by
  unfold maxLen at hsa
  go_enter Tryz.func56, Tryz.ntmps56
  go_wp2
  go_loopw [5] (fun i wr => ∃ k : Nat, k ≤ a.size ∧ k ≤ b.size ∧ i = .int .i64 k ∧ Hid (Lib.compareBytes a.data.toList b.data.toList = Lib.compareBytes (a.data.toList.drop k) (b.data.toList.drop k)) ∧ Below w.heap.size w wr) (fun i _ => a.size - (intOf i).toNat)
  case atStart => exact ⟨0, Nat.zero_le _, Nat.zero_le _, rfl, rfl, Below.refl _ _⟩
  case round =>
    obtain ⟨k, hka, hkb, rfl, hcmp, hbl⟩ := hrel
    by_cases hla : k < a.size
    · by_cases hlb : k < b.size
      · go_wp2
        go_quiet (fail)
        go_wp2
        rotate_left
        · go_quiet (fail)
          go_wp2
          · go_ret
            exact ⟨ret_int (hcmp.out.trans (cb_gt hla hlb ‹_›)).symm, below_drewN (below_drewN hbl _) _⟩
          · go_roundw
            case rel => exact ⟨k + 1, by omega, by omega, by go_num, hcmp.out.trans (cb_eq hla hlb ‹_› ‹_›), below_drewN hbl _⟩
            case measure => simp [intOf]; omega
        · go_ret
          exact ⟨ret_int (hcmp.out.trans (cb_lt hla hlb ‹_›)).symm, below_drewN hbl _⟩
      · go_wp2_with (go_at_call 40; refine (ints_any _ _ _).mono ?_; rintro e w' ⟨rfl, rfl⟩)
        go_ret
        exact ⟨ret_int (hcmp.out.trans (cb_end hka hkb (fun h => hlb h.2))).symm, hbl⟩
    · go_wp2_with (go_at_call 40; refine (ints_any _ _ _).mono ?_; rintro e w' ⟨rfl, rfl⟩)
      go_ret
      exact ⟨ret_int (hcmp.out.trans (cb_end hka hkb (fun h => hla h.1))).symm, hbl⟩

def ordV (ak an : Int) (sa : ByteArray) (bk bn : Int) (sb : ByteArray) : Int :=
  if ak ≠ bk then cmp3 ak bk else if ak = 1 ∨ ak = 2 then cmp3 an bn else if ak = 3 then Lib.compareBytes sa.data.toList sb.data.toList else 0

theorem below2 (w : World) (o1 o2 : Obj) : Below w.heap.size w ((w.alloc o1).alloc o2) := ((Below.refl _ _).alloc (Nat.le_refl _) _).alloc (by simp) _

set_option maxHeartbeats 400000 in
theorem refCompare_any (ak an : Int) (sa : ByteArray) (bk bn : Int) (sb : ByteArray) (w : World) (hsa : sa.size ≤ maxLen) :
    Calls Tryz.prog 32 #[.agg #[.int .i64 ak, .int .i64 an, .string sa], .agg #[.int .i64 bk, .int .i64 bn, .string sb]] w fun e w' => e = .returned (.int .i64 (ordV ak an sa bk bn sb)) ∧ Below w.heap.size w w' := by
  go_enter Tryz.func32, Tryz.ntmps32
  go_wp2_with (first | (go_at_call 40; refine (ints_any _ _ _).mono ?_; rintro e w' ⟨rfl, rfl⟩) | (go_at_call 56; refine (texts_any _ _ _ hsa).mono ?_; rintro e w' ⟨rfl, hb⟩))
  · go_ret
    exact ⟨ret_int (by simp_all [ordV]), below2 _ _ _⟩
  · go_ret
    exact ⟨ret_int (by simp_all [ordV]), below2 _ _ _⟩
  · go_ret
    exact ⟨ret_int (by simp_all [ordV]), below2 _ _ _⟩
  · go_ret
    exact ⟨ret_int (by simp_all [ordV]), (below2 _ _ _).trans (hb.mono (by simp; omega))⟩
  · go_ret
    exact ⟨ret_int (by simp_all [ordV]), below2 _ _ _⟩
end Go.Proofs.YtpklajadfbigcaaGreatDoor
namespace Go.Proofs.YtpklajadfbigcaaGreatDoor
open Go.RowKit

def hexd (n : Nat) : UInt8 := if n < 10 then UInt8.ofNat (48 + n) else UInt8.ofNat (87 + n)
def plainB (c : Nat) : Bool := decide (32 ≤ c) && decide (c ≤ 126) && (c != 92)
def q1 (c : UInt8) : List UInt8 := if c = 39 then [39, 39] else if plainB c.toNat then [c] else [92, hexd (c.toNat / 16), hexd (c.toNat % 16)]
def qs (l : List UInt8) : List UInt8 := l.flatMap q1

end Go.Proofs.YtpklajadfbigcaaGreatDoor
namespace Go.Proofs.YtpklajadfbigcaaGreatDoor
open Go.RowKit

end Go.Proofs.YtpklajadfbigcaaGreatDoor
namespace Go.Proofs.YtpklajadfbigcaaGreatDoor
namespace Wd

theorem ofInt_neg (n : Int) (h0 : -9223372036854775808 ≤ n) (h1 : n < 0) : mkB (-1) (hN n) = BitVec.ofInt 128 n := by
  unfold mkB hN
  congr 1
  omega
theorem ofInt_pos (n : Int) (h0 : 0 ≤ n) (h1 : n ≤ 9223372036854775807) : mkB 0 (hN n) = BitVec.ofInt 128 n := by
  unfold mkB hN
  congr 1
  omega

def aF (x y : BitVec 128) (k j : Nat) : Bool := decide (j < k) && (x + y).getLsbD j
theorem aF_zero (x y : BitVec 128) : fArr (aF x y 0) = fArr fun _ => false := fArr_ext fun j _ => by simp [aF]
theorem aF_end (x y : BitVec 128) : fArr (aF x y 128) = wArr (x + y) := fArr_ext fun j hj => by simp [aF, hj]
def cF (x y : BitVec 128) (k : Nat) : Bool := BitVec.carry k x y false
theorem cF_zero (x y : BitVec 128) : cF x y 0 = false := by unfold cF; exact BitVec.carry_zero
theorem aF_step (x y : BitVec 128) (k : Nat) (hk : k < 128) {b : Bool} (hb : b = (x.getLsbD k ^^ (y.getLsbD k ^^ cF x y k))) :
    fArr (fun j => if j = k then b else aF x y k j) = fArr (aF x y (k + 1)) := fArr_ext fun j hj => by
  unfold aF
  by_cases e : j = k
  · subst e
    rw [if_pos rfl, hb, BitVec.getLsbD_add hk]
    simp [cF]
  · have : (j < k + 1) = (j < k) := by simp; omega
    simp [e, this]
theorem cF_step (x y : BitVec 128) (k : Nat) : cF x y (k + 1) = Bool.atLeastTwo (x.getLsbD k) (y.getLsbD k) (cF x y k) := by
  unfold cF; rw [BitVec.carry_succ]

def cmpI (a b : Int) : Int := if a < b then -1 else if b < a then 1 else 0
theorem bit_nat (x : BitVec 128) (k : Nat) : x.getLsbD k = decide (x.toNat / 2 ^ k % 2 = 1) := by
  rw [← BitVec.testBit_toNat, bit_div]
theorem toInt_case (x : BitVec 128) : (0 ≤ x.toInt ∧ x.toInt = x.toNat ∧ x.toNat < 170141183460469231731687303715884105728) ∨ (x.toInt < 0 ∧ x.toInt = x.toNat - 340282366920938463463374607431768211456 ∧ 170141183460469231731687303715884105728 ≤ x.toNat) := by
  have h := BitVec.toInt_eq_toNat_cond x
  have hl := x.isLt
  split at h <;> omega
end Wd
end Go.Proofs.YtpklajadfbigcaaGreatDoor
