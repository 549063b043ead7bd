import Derived.Test.YtpklajadfbigcaaGreatDoorZt02
import Derived.Test.YtpklajadfbigcaaGreatDoorZt03
set_option linter.unusedSimpArgs false
set_option linter.unusedVariables false
namespace Go.Proofs.YtpklajadfbigcaaGreatDoor
namespace Wd
open Go.RowKit

theorem wZero_one : Tryz.zeroCells103.all (·.oneCell') = true := by kernel_rfl
theorem wZero : Tryz.zeroCells103 = fArr (fun _ => false) := by kernel_rfl
theorem BArr.of {w : World} {g : Nat} {f f' : Nat → Bool} (h : BArr w g f) (e : fArr f = fArr f') : BArr w g f' := by unfold BArr at *; rw [← e]; exact h
def Two (w wr : World) (c : Nat) (r g : Nat) (f : Nat → Bool) : Prop := Below w.heap.size w wr ∧ w.heap.size + c ≤ wr.heap.size ∧ BArr wr r (fun _ => false) ∧ BArr wr g f

theorem below_setRow {w w1 : World} {B g : Nat} {cs : Array Value} (h : Below B w w1) (hg : B ≤ g) : Below B w (w1.setRow g cs) :=
  ⟨h.os, h.tape, h.output, by simp; exact h.size, fun k hk => (setRow_other w1 g k cs (by omega)).trans (h.block k hk)⟩
theorem start2 (w : World) : Two w (((w.alloc (.cells Tryz.zeroCells103 103)).alloc (.cells Tryz.zeroCells103 103)).setRow (w.heap.size + 1) Tryz.zeroCells103) 2 w.heap.size (w.heap.size + 1) (fun _ => false) := by
  have h0 := heap_alloc2_old w (.cells Tryz.zeroCells103 103) (.cells Tryz.zeroCells103 103)
  have h1 := heap_alloc2_new w (.cells Tryz.zeroCells103 103) (.cells Tryz.zeroCells103 103)
  refine ⟨?_, by simp, ?_, ?_⟩
  · exact below_setRow ((((Below.refl _ _).alloc (Nat.le_refl _) _).alloc (by simp) _)) (by simp)
  · unfold BArr
    rw [← wZero, setRow_other _ _ _ _ (by omega)]
    exact h0
  · unfold BArr
    rw [← wZero]
    exact setRow_heap _ _ _ _ _ _ h1
theorem Two.set {w wr : World} {c r g : Nat} {f : Nat → Bool} (h : Two w wr c r g f) (hr : r ≠ g) (hg : w.heap.size ≤ g) {i : Nat} (hi : i < 128) (b : Bool) : Two w (wr.setCell ⟨g, i, none⟩ (.bool b)) c r g (fun j => if j = i then b else f j) :=
  ⟨h.1.setCell hg _, by simpa using h.2.1, h.2.2.1.set_other hr _ _, h.2.2.2.set hi b⟩
theorem Two.of {w wr : World} {c r g : Nat} {f f' : Nat → Bool} (h : Two w wr c r g f) (e : fArr f = fArr f') : Two w wr c r g f' := ⟨h.1, h.2.1, h.2.2.1, h.2.2.2.of e⟩

theorem bit_int {a n k : Nat} (h : a = n / 2 ^ k) : ((a : Int) % 2 == 1) = n.testBit k := by
  rw [bit_div, ← h, Bool.eq_iff_iff]
  simp
  omega
set_option maxHeartbeats 1600000 in
theorem refBits_any (h : Int) (l : Nat) (w : World) (hl : l < 18446744073709551616) :
    Calls Tryz.prog 72 #[.int .i64 h, .int .u64 l] w fun e w' => e = .returned (.agg (wArr (mkB h l))) ∧ Below w.heap.size w w' := by
  have hw : IntKind.u64.wrap h = ((hN h : Nat) : Int) := by unfold hN; simp [IntKind.wrap, IntKind.signed, IntKind.bits]; omega
  have HE := Lib.hid (bF_end h l hl)
  have hu1 := hN_lt h
  generalize hN h = hu at *
  go_enter Tryz.func72, Tryz.ntmps72
  go_wp2_with (refine wpList_store_row rfl 103 _ _ rfl (w.heap.size + 1) Tryz.zeroCells103 rfl rfl 103 Tryz.zeroCells103 (heap_alloc2_new _ _ _) (by kernel_rfl) rfl wZero_one ?_)
  clear hw
  go_loopw [1, 6, 7] (fun l' h' i wr => ∃ k a b : Nat, k ≤ 64 ∧ i = .int .i64 k ∧ l' = .int .u64 a ∧ h' = .int .u64 b ∧ a < 18446744073709551616 ∧ b < 18446744073709551616 ∧ Hid (a = l / 2 ^ k) ∧ Hid (b = hu / 2 ^ k) ∧ Hid (Two w wr 2 w.heap.size (w.heap.size + 1) (bF l hu k))) (fun _ _ i _ => 64 - (intOf i).toNat)
  case atStart => exact ⟨0, l, hu, by omega, rfl, rfl, rfl, hl, hu1, Lib.hid (by simp), Lib.hid (by simp), Lib.hid ((start2 w).of (bF_zero _ _).symm)⟩
  case round =>
    obtain ⟨k, a, b, hk, rfl, rfl, rfl, ha, hb, Ha, Hb, K⟩ := hrel
    by_cases hlt : k < 64
    · have c1 := K.out.2.2.2.cell (i := k) (by omega)
      have c2 := K.out.2.2.2.cell (i := 64 + k) (by omega)
      have f1 := K.out.2.2.2.frozen k
      have f2 := K.out.2.2.2.frozen (64 + k)
      generalize bF l hu k k = o1 at *
      generalize bF l hu k (64 + k) = o2 at *
      go_wp2
      go_roundw
      case rel =>
        refine ⟨k + 1, a / 2, b / 2, by omega, by go_num, by go_num, by go_num, by omega, by omega, Lib.hid (by rw [Ha.out, div_step]), Lib.hid (by rw [Hb.out, div_step]), Lib.hid ?_⟩
        have T := ((K.out.set (by omega) (by omega) (i := k) (by omega) ((a : Int) % 2 == 1)).set (by omega) (by omega) (i := 64 + k) (by omega) ((b : Int) % 2 == 1)).of (bF_step l hu k hlt (bit_int Ha.out) (bit_int Hb.out))
        exact T
      case measure => simp [intOf]; omega
    · obtain rfl : k = 64 := by omega
      have HB := K.out.2.2.2
      have HR := K.out.2.2.1
      go_wp2_with (first | (refine wpList_load_row rfl 103 _ rfl (w.heap.size + 1) rfl 103 (fArr (bF l hu 64)) (0, 0) _ HB Tryz.underlying103 rfl (by rw [fArr_size]; kernel_rfl) ?_) | (refine wpList_store_row rfl 103 _ _ rfl w.heap.size (fArr (bF l hu 64)) rfl rfl 103 (fArr fun _ => false) HR (by rw [fArr_size]; kernel_rfl) (by rw [fArr_size, fArr_size]) (fArr_one _) ?_))
      have HR2 := setRow_heap wr w.heap.size (fArr fun _ => false) (fArr (bF l hu 64)) _ (0, 0) HR
      refine bodyPost_ret (v := .agg (wArr (mkB h l))) (by rw [← HE.out]; exact results_cell_row rfl _ _ w.heap.size _ _ (0, 0) _ rfl HR2 Tryz.underlying103 rfl (by rw [fArr_size]; kernel_rfl)) rfl ⟨rfl, below_setRow K.out.1 (Nat.le_refl _)⟩
end Wd
end Go.Proofs.YtpklajadfbigcaaGreatDoor
namespace Go.Proofs.YtpklajadfbigcaaGreatDoor
open Go.RowKit

end Go.Proofs.YtpklajadfbigcaaGreatDoor
namespace Go.Proofs.YtpklajadfbigcaaGreatDoor
open Go.RowKit

def ordC (ak an : Int) (sa : ByteArray) (bk bn : Int) (sb : ByteArray) : Int := or3 (cmp3 ak bk) (cmp3 an bn) (Lib.compareBytes sa.data.toList sb.data.toList)

theorem cb_turn : ∀ a b : List UInt8, Lib.compareBytes b a = - Lib.compareBytes a b
  | [], [] => by simp [Lib.compareBytes]
  | [], _ :: _ => by simp [Lib.compareBytes]
  | _ :: _, [] => by simp [Lib.compareBytes]
  | x :: a, y :: b => by
    have ih := cb_turn a b
    simp only [Lib.compareBytes, UInt8.lt_iff_toNat_lt]
    by_cases h1 : x.toNat < y.toNat
    · rw [if_neg (by omega), if_pos h1, if_pos h1]; rfl
    · by_cases h2 : y.toNat < x.toNat
      · rw [if_pos h2, if_neg h1, if_pos h2]
      · rw [if_neg h2, if_neg h1, if_neg h1, if_neg h2, ih]
theorem cb_zero : ∀ a b : List UInt8, Lib.compareBytes a b = 0 ↔ a = b
  | [], [] => by simp [Lib.compareBytes]
  | [], _ :: _ => by simp [Lib.compareBytes]
  | _ :: _, [] => by simp [Lib.compareBytes]
  | x :: a, y :: b => by
    have ih := cb_zero a b
    simp only [Lib.compareBytes, UInt8.lt_iff_toNat_lt, List.cons.injEq, ← UInt8.toNat_inj]
    by_cases h1 : x.toNat < y.toNat
    · rw [if_pos h1]; constructor
      · intro h; omega
      · intro h; omega
    · by_cases h2 : y.toNat < x.toNat
      · rw [if_neg h1, if_pos h2]; constructor
        · intro h; omega
        · intro h; omega
      · rw [if_neg h1, if_neg h2, ih]; constructor
        · intro h; exact ⟨by omega, h⟩
        · intro h; exact h.2
theorem cmp3_turn (a b : Int) : cmp3 b a = - cmp3 a b := by
  unfold cmp3; (repeat' split) <;> omega
theorem cmp3_zero (a b : Int) : cmp3 a b = 0 ↔ a = b := by
  unfold cmp3; (repeat' split) <;> omega
theorem ordC_turn (ak an : Int) (sa : ByteArray) (bk bn : Int) (sb : ByteArray) : ordC bk bn sb ak an sa = - ordC ak an sa bk bn sb := by
  unfold ordC
  rw [cmp3_turn ak bk, cmp3_turn an bn, cb_turn sa.data.toList sb.data.toList]
  unfold or3
  (repeat' split) <;> omega
theorem bytes_ext {a b : ByteArray} (h : a.data.toList = b.data.toList) : a = b := by
  cases a; cases b
  simp only [ByteArray.mk.injEq]
  exact Array.toList_inj.1 h
theorem ordC_zero (ak an : Int) (sa : ByteArray) (bk bn : Int) (sb : ByteArray) : ordC ak an sa bk bn sb = 0 ↔ ak = bk ∧ an = bn ∧ sa = sb := by
  have h1 := cmp3_zero ak bk
  have h2 := cmp3_zero an bn
  have h3 := cb_zero sa.data.toList sb.data.toList
  unfold ordC or3
  constructor
  · intro h
    split at h
    · omega
    · split at h
      · omega
      · exact ⟨by omega, by omega, bytes_ext (h3.1 h)⟩
  · rintro ⟨rfl, rfl, rfl⟩
    rw [if_neg (by simp [cmp3]), if_neg (by simp [cmp3])]
    exact h3.2 rfl
theorem toList_nil {s : ByteArray} (h : s.toList.isEmpty = true) : s.data.toList = [] := by
  rw [← Lib.toList_data]
  exact List.isEmpty_iff.1 h

theorem ordC_ordV {ak an : Int} {sa : ByteArray} {bk bn : Int} {sb : ByteArray} (ha : goodB ak an sa = true) (hb : goodB bk bn sb = true) : ordV ak an sa bk bn sb = ordC ak an sa bk bn sb := by
  unfold ordV ordC or3
  by_cases h : ak = bk
  · subst h
    rw [if_neg (show ¬ (ak ≠ ak) by simp), if_neg (show ¬ (cmp3 ak ak ≠ 0) by simp [cmp3])]
    by_cases h1 : ak = 1 ∨ ak = 2
    · rw [if_pos h1]
      have e1 : sa.data.toList = [] := by
        rcases h1 with rfl | rfl <;> simp [goodB] at ha <;> exact toList_nil (by simp [ha])
      have e2 : sb.data.toList = [] := by
        rcases h1 with rfl | rfl <;> simp [goodB] at hb <;> exact toList_nil (by simp [hb])
      rw [e1, e2]
      split
      · rfl
      · rename_i h2; simp at h2; rw [h2]; rfl
    · rw [if_neg h1]
      by_cases h3 : ak = 3
      · subst h3
        have e1 : an = 0 := by simp [goodB] at ha; exact ha.1
        have e2 : bn = 0 := by simp [goodB] at hb; exact hb.1
        subst e1 e2
        rw [if_pos rfl, if_neg (by simp [cmp3])]
      · rw [if_neg h3]
        by_cases h0 : ak = 0
        · subst h0
          simp [goodB] at ha hb
          rw [ha.1, hb.1, toList_nil (by simp [ha.2]), toList_nil (by simp [hb.2])]
          rfl
        · exfalso
          have : goodB ak an sa = false := by
            unfold goodB
            rw [if_neg h0, if_neg (by omega), if_neg (by omega), if_neg h3]
          simp [this] at ha
  · rw [if_pos h, if_pos (by rw [ne_eq, cmp3_zero]; exact h)]
end Go.Proofs.YtpklajadfbigcaaGreatDoor
namespace Go.Proofs.YtpklajadfbigcaaGreatDoor
namespace Wd

def hiB (x : BitVec 128) : Int := x.toInt / 18446744073709551616
def loB (x : BitVec 128) : Nat := x.toNat % 18446744073709551616
theorem hi_eq (x : BitVec 128) : hiB x * 18446744073709551616 + loB x = x.toInt := by
  have := toInt_case x
  unfold hiB loB
  omega
theorem hi_lo (x : BitVec 128) : -9223372036854775808 ≤ hiB x := by
  have := toInt_case x
  have := x.isLt
  unfold hiB
  omega
theorem hi_hi (x : BitVec 128) : hiB x ≤ 9223372036854775807 := by
  have := toInt_case x
  have h1 := BitVec.toInt_lt (x := x)
  unfold hiB
  omega
theorem lo_lt (x : BitVec 128) : loB x < 18446744073709551616 := by unfold loB; omega
theorem mk_hi_lo (x : BitVec 128) : mkB (hiB x) (loB x) = x := by
  unfold mkB
  rw [hi_eq, BitVec.ofInt_toInt]
theorem hi_nat (x : BitVec 128) : (hiB x = (x.toNat / 18446744073709551616 : Nat) ∧ x.toNat / 18446744073709551616 < 9223372036854775808) ∨ (hiB x = (x.toNat / 18446744073709551616 : Nat) - 18446744073709551616 ∧ 9223372036854775808 ≤ x.toNat / 18446744073709551616 ∧ x.toNat / 18446744073709551616 < 18446744073709551616) := by
  have h := toInt_case x
  have h1 := hi_lo x
  have h2 := hi_hi x
  have h3 := x.isLt
  unfold hiB at *
  omega
def w64 (n : Int) : Int := (n + 9223372036854775808) % 18446744073709551616 - 9223372036854775808
theorem w64_eq (n : Int) : ∃ q : Int, w64 n = n + q * 18446744073709551616 ∧ -9223372036854775808 ≤ w64 n ∧ w64 n ≤ 9223372036854775807 := by
  unfold w64
  exact ⟨-((n + 9223372036854775808) / 18446744073709551616), by omega, by omega, by omega⟩
theorem add_lo (x y : BitVec 128) : loB (x + y) = (loB x + loB y) % 18446744073709551616 := by
  unfold loB
  rw [BitVec.toNat_add]
  omega
theorem add_hi (x y : BitVec 128) : hiB (x + y) = w64 (w64 (hiB x + hiB y) + ((loB x + loB y) / 18446744073709551616 : Nat)) := by
  obtain ⟨q1, e1, a1, b1⟩ := w64_eq (hiB x + hiB y)
  obtain ⟨q2, e2, a2, b2⟩ := w64_eq (w64 (hiB x + hiB y) + ((loB x + loB y) / 18446744073709551616 : Nat))
  have hx := hi_nat x
  have hy := hi_nat y
  have hz := hi_nat (x + y)
  have e := BitVec.toNat_add x y
  have lx := x.isLt
  have ly := y.isLt
  unfold loB at *
  generalize hiB (x + y) = hz' at *
  generalize hiB x = hx' at *
  generalize hiB y = hy' at *
  generalize (x + y).toNat = nz at *
  generalize x.toNat = nx at *
  generalize y.toNat = ny at *
  omega
theorem sub_lo (x y : BitVec 128) : (loB (x - y) : Int) = ((loB x : Int) - loB y) % 18446744073709551616 := by
  unfold loB
  rw [BitVec.toNat_sub]
  have := y.isLt
  omega
theorem sub_hi (x y : BitVec 128) {b : Nat} (hb : b = if loB x < loB y then 1 else 0) : hiB (x - y) = w64 (w64 (hiB x - hiB y) - b) := by
  obtain ⟨q1, e1, a1, b1⟩ := w64_eq (hiB x - hiB y)
  obtain ⟨q2, e2, a2, b2⟩ := w64_eq (w64 (hiB x - hiB y) - b)
  have hx := hi_nat x
  have hy := hi_nat y
  have hz := hi_nat (x - y)
  have e := BitVec.toNat_sub x y
  have lx := x.isLt
  have ly := y.isLt
  unfold loB at *
  generalize hiB (x - y) = hz' at *
  generalize hiB x = hx' at *
  generalize hiB y = hy' at *
  generalize (x - y).toNat = nz at *
  generalize x.toNat = nx at *
  generalize y.toNat = ny at *
  split at hb <;> omega
theorem of_hi (n : Int) (h0 : -9223372036854775808 ≤ n) (h1 : n ≤ 9223372036854775807) : hiB (BitVec.ofInt 128 n) = n / 9223372036854775808 := by
  have e : (BitVec.ofInt 128 n).toInt = n := by rw [BitVec.toInt_ofInt, Int.bmod_eq_of_le] <;> omega
  unfold hiB
  rw [e]
  omega
theorem of_lo (n : Int) : loB (BitVec.ofInt 128 n) = hN n := by
  unfold loB hN
  rw [BitVec.toNat_ofInt]
  omega
def fitB (x : BitVec 128) : Bool := decide (-9223372036854775808 ≤ x.toInt) && decide (x.toInt ≤ 9223372036854775807)
end Wd
end Go.Proofs.YtpklajadfbigcaaGreatDoor
namespace Go.Proofs.YtpklajadfbigcaaGreatDoor
namespace Wd
open Go.RowKit

def Four (w wr : World) (x y : BitVec 128) (f : Nat → Bool) : Prop := Below w.heap.size w wr ∧ w.heap.size + 4 ≤ wr.heap.size ∧ BArr wr w.heap.size (fun i => x.getLsbD i) ∧ BArr wr (w.heap.size + 1) (fun i => y.getLsbD i) ∧ BArr wr (w.heap.size + 1 + 1) (fun _ => false) ∧ BArr wr (w.heap.size + 1 + 1 + 1) f
theorem BArr.setRow_other {w : World} {g g' : Nat} {f : Nat → Bool} (h : BArr w g f) (hn : g ≠ g') (cs : Array Value) : BArr (w.setRow g' cs) g f := by
  unfold BArr
  rw [Go.setRow_other w g' g cs hn]; exact h
theorem BArr.setRow {w : World} {g : Nat} {f : Nat → Bool} (h : BArr w g f) (f' : Nat → Bool) : BArr (w.setRow g (fArr f')) g f' :=
  setRow_heap w g _ _ _ _ h
theorem BArr.alloc {w : World} {g : Nat} {f : Nat → Bool} (h : BArr w g f) (o : Obj) : BArr (w.alloc o) g f := by
  unfold BArr
  rw [heap_alloc_old _ _ h.lt]; exact h
theorem BArr.zero (w : World) : BArr (w.alloc (.cells Tryz.zeroCells103 103)) w.heap.size (fun _ => false) := by
  unfold BArr; rw [← wZero]; exact heap_alloc_new w _
theorem start4 (w : World) (x y : BitVec 128) : Four w (((((w.alloc (.cells (wArr x) 103)).alloc (.cells (wArr y) 103)).alloc (.cells Tryz.zeroCells103 103)).alloc (.cells Tryz.zeroCells103 103)).setRow (w.heap.size + 1 + 1 + 1) Tryz.zeroCells103) x y (fun _ => false) := by
  have a1 := BArr.new w (fun i => x.getLsbD i)
  have a2 := BArr.new (w.alloc (.cells (wArr x) 103)) (fun i => y.getLsbD i)
  have a3 := BArr.zero ((w.alloc (.cells (wArr x) 103)).alloc (.cells (wArr y) 103))
  have a4 := BArr.zero (((w.alloc (.cells (wArr x) 103)).alloc (.cells (wArr y) 103)).alloc (.cells Tryz.zeroCells103 103))
  simp only [World.size_alloc] at a2 a3 a4
  refine ⟨?_, by simp, ?_, ?_, ?_, ?_⟩
  · exact below_setRow (((((Below.refl _ _).alloc (Nat.le_refl _) _).alloc (by simp) _).alloc (by simp; omega) _).alloc (by simp; omega) _) (by omega)
  · exact (((a1.alloc _).alloc _).alloc _).setRow_other (by omega) _
  · exact ((a2.alloc _).alloc _).setRow_other (by omega) _
  · exact (a3.alloc _).setRow_other (by omega) _
  · rw [wZero] at *
    exact a4.setRow _
theorem Four.set {w wr : World} {x y : BitVec 128} {f : Nat → Bool} (h : Four w wr x y f) {i : Nat} (hi : i < 128) (b : Bool) : Four w (wr.setCell ⟨w.heap.size + 1 + 1 + 1, i, none⟩ (.bool b)) x y (fun j => if j = i then b else f j) :=
  ⟨h.1.setCell (by show w.heap.size ≤ w.heap.size + 1 + 1 + 1; omega) _, by simpa using h.2.1, h.2.2.1.set_other (by omega) _ _, h.2.2.2.1.set_other (by omega) _ _, h.2.2.2.2.1.set_other (by omega) _ _, h.2.2.2.2.2.set hi b⟩
theorem Four.of {w wr : World} {x y : BitVec 128} {f f' : Nat → Bool} (h : Four w wr x y f) (e : fArr f = fArr f') : Four w wr x y f' := ⟨h.1, h.2.1, h.2.2.1, h.2.2.2.1, h.2.2.2.2.1, h.2.2.2.2.2.of e⟩

theorem heap4 (w : World) (A B C D : Obj) : ((((w.alloc A).alloc B).alloc C).alloc D).heap[w.heap.size + 1 + 1 + 1]? = some D := by
  have := heap_alloc_new (((w.alloc A).alloc B).alloc C) D
  simpa only [World.size_alloc] using this
theorem heap3 (w : World) (A B C : Obj) : (((w.alloc A).alloc B).alloc C).heap[w.heap.size + 1 + 1]? = some C := by
  have := heap_alloc_new ((w.alloc A).alloc B) C
  simpa only [World.size_alloc] using this
set_option maxRecDepth 100000 in
set_option maxHeartbeats 1600000 in
theorem refAdd_any (x y : BitVec 128) (w : World) :
    Calls Tryz.prog 53 #[.agg (wArr x), .agg (wArr y)] w fun e w' => e = .returned (.agg (wArr (x + y))) ∧ Below w.heap.size w w' := by
  go_enter Tryz.func53, Tryz.ntmps53
  go_wp2_with (refine wpList_store_row (o := ⟨none, .store 103 (.tmp 5) (.tmp 9), _, _, _, _⟩) rfl 103 _ _ rfl (w.heap.size + 1 + 1 + 1) Tryz.zeroCells103 rfl rfl 103 Tryz.zeroCells103 (heap4 _ _ _ _ _) (by kernel_rfl) rfl wZero_one ?_)
  go_loopw [6, 10] (fun c i wr => ∃ k : Nat, k ≤ 128 ∧ i = .int .i64 k ∧ c = .bool (cF x y k) ∧ Hid (Four w wr x y (aF x y k))) (fun _ i _ => 128 - (intOf i).toNat)
  case atStart =>
    have K := Lib.hid ((start4 w x y).of (aF_zero x y).symm)
    refine ⟨0, by omega, rfl, by rw [cF_zero], ?_⟩
    exact K
  case round =>
    obtain ⟨k, hk, rfl, rfl, K⟩ := hrel
    by_cases hlt : k < 128
    · have c1 := K.out.2.2.1.cell (i := k) hlt
      have c2 := K.out.2.2.2.1.cell (i := k) hlt
      have c3 := K.out.2.2.2.2.2.cell (i := k) hlt
      have f3 := K.out.2.2.2.2.2.frozen k
      have HC := Lib.hid (cF_step x y k)
      have HA := Lib.hid (fun b => aF_step x y k hlt (b := b))
      generalize aF x y k k = o1 at c3
      generalize hbx : x.getLsbD k = bx at *
      generalize hby : y.getLsbD k = bY at *
      generalize hcc : cF x y k = cc at *
      clear hbx hby hcc
      cases bx <;> cases bY <;> cases cc
      all_goals
        go_wp2
        go_roundw
        case rel => exact ⟨k + 1, by omega, by go_num, by rw [HC.out]; rfl, Lib.hid ((K.out.set hlt _).of (HA.out _ rfl))⟩
        case measure => simp [intOf]; omega
    · obtain rfl : k = 128 := by omega
      have HB := K.out.2.2.2.2.2
      have HR := K.out.2.2.2.2.1
      go_wp2_with (first | (refine wpList_load_row rfl 103 _ rfl (w.heap.size + 1 + 1 + 1) rfl 103 (fArr (aF x y 128)) (0, 0) _ HB Tryz.underlying103 rfl (by rw [fArr_size]; kernel_rfl) ?_) | (refine wpList_store_row rfl 103 _ _ rfl (w.heap.size + 1 + 1) (fArr (aF x y 128)) rfl rfl 103 (fArr fun _ => false) HR (by rw [fArr_size]; kernel_rfl) (by rw [fArr_size, fArr_size]) (fArr_one _) ?_))
      have HR2 := setRow_heap wr (w.heap.size + 1 + 1) (fArr fun _ => false) (fArr (aF x y 128)) _ (0, 0) HR
      refine bodyPost_ret (v := .agg (wArr (x + y))) (by rw [← aF_end]; exact results_cell_row rfl _ _ (w.heap.size + 1 + 1) _ _ (0, 0) _ rfl HR2 Tryz.underlying103 rfl (by rw [fArr_size]; kernel_rfl)) rfl ⟨rfl, below_setRow K.out.1 (by omega)⟩
end Wd
end Go.Proofs.YtpklajadfbigcaaGreatDoor
