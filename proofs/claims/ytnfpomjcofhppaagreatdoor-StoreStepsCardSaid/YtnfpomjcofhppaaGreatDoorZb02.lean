/- Contracts of schema's full where a table isn't too wide, and of a closure that holds a name against a column's. Contract of value.Good: it answers goodB of the value's three cells, and what was in memory stays. No condition. Contracts of the two orders of values. -/
import Derived.Test.YtnfpomjcofhppaaGreatDoorZb00
import Derived.Test.YtnfpomjcofhppaaGreatDoorZb01
import Derived.Deep.RegionHeld3
import Derived.Deep.RegionWith
import Derived.Deep.QuietTactic
import Derived.BigQuiet
namespace Go.Proofs.YtnfpomjcofhppaaGreatDoor
open Go.RowKit

theorem grown_refl6 (w : World) (row : Option Nat) : w.grownBy w row := ⟨rfl, rfl, rfl, Nat.le_refl _, fun _ _ _ => rfl⟩
theorem grown_drewN6 {w w' : World} {row : Option Nat} (h : w.grownBy w' row) (n : Nat) : w.grownBy (w'.drewN n) row := ⟨h.os, h.tape, h.output, h.size, h.block⟩
set_option maxHeartbeats 1600000 in
theorem full_ok (num m c : Nat) (N : ByteArray) (a : Option Addr) (K : Int) (w : World) (h6 : num < 6) (h1 : 1 ≤ m) (h8 : m ≤ 8) :
    Calls Tryz.prog 72 #[.int .i64 num, .agg #[.string N, .slice a m c, .int .i64 K]] w fun e w' => e = .returned .nilIface ∧ w.grownBy w' none := by
  have h6' : (num : Int) < 6 := by omega
  have h1' : ((m : Int) == 0) = false := beq_eq_false_iff_ne.2 (by omega)
  have h8' : (m : Int) ≤ 8 := by omega
  go_enter Tryz.func72, Tryz.ntmps72
  go_wp2_with fail
  go_ret
  exact ⟨rfl, World.grownBy_alloc _ _ _⟩
/-- The closure of columnOf: is it the column's name? -/
theorem colIs_any (N M : ByteArray) (k : Int) (b : Bool) (g : Nat) (w : World) (hc : w.cell? ⟨g, 0, none⟩ = some (.string M)) :
    Calls Tryz.prog 103 #[.agg #[.string N, .int .i64 k, .bool b], .pointer (some ⟨g, 0, none⟩)] w fun e w' => e = .returned (.bool (N.toList == M.toList)) ∧ w.grownBy w' none := by
  have hc2 : ∀ o, (w.alloc o).cell? ⟨g, 0, none⟩ = some (.string M) := fun o => (World.grownBy_alloc w o none).cell hc (by simp)
  go_enter Tryz.func103, Tryz.ntmps103
  go_wp2_with fail
  go_ret
  exact ⟨rfl, World.grownBy_alloc _ _ _⟩
end Go.Proofs.YtnfpomjcofhppaaGreatDoor
namespace Go.Proofs.YtnfpomjcofhppaaGreatDoor
open Go.RowKit

set_option maxHeartbeats 400000 in
theorem good_any (k n : Int) (s : ByteArray) (w : World) :
    Calls Tryz.prog 116 #[.agg #[.int .i64 k, .int .i64 n, .string s]] w fun e w' => e = .returned (.bool (goodB k n s)) ∧ Below w.heap.size w w' := by
  go_enter Tryz.func116, Tryz.ntmps116
  go_wp2
  all_goals
    go_ret
    refine ⟨ret_bool ?_, (Below.refl _ _).alloc (Nat.le_refl _) _⟩
    simp_all [goodB]
    all_goals first | done | omega | (intro _; omega)

end Go.Proofs.YtnfpomjcofhppaaGreatDoor
namespace Go.Proofs.YtnfpomjcofhppaaGreatDoor
open Go.RowKit

theorem or_here (a b c : Int) (o1 o2 : Obj) (w : World) :
    Calls Tryz.prog 108 #[.slice (some ⟨w.heap.size + 1 + 1, 0, none⟩) 3 3] (((w.alloc o1).alloc o2).alloc (.cells #[.int .i64 a, .int .i64 b, .int .i64 c] 3)).drew fun e w' => e = .returned (.int .i64 (or3 a b c)) ∧ (((w.alloc o1).alloc o2).alloc (.cells #[.int .i64 a, .int .i64 b, .int .i64 c] 3)).drew = w' :=
  or_any a b c _ _ (by go_simp) (by go_simp) (by go_simp)

set_option maxHeartbeats 400000 in
theorem compare_any (ak an : Int) (sa : ByteArray) (bk bn : Int) (sb : ByteArray) (w : World) :
    Calls Tryz.prog 94 #[.agg #[.int .i64 ak, .int .i64 an, .string sa], .agg #[.int .i64 bk, .int .i64 bn, .string sb]] w fun e w' => e = .returned (.int .i64 (or3 (cmp3 ak bk) (cmp3 an bn) (Lib.compareBytes sa.data.toList sb.data.toList))) ∧ Below w.heap.size w w' := by
  go_enter Tryz.func94, Tryz.ntmps94
  go_wp2
  go_region_held3 (fun w' => w'.cell? ⟨w.heap.size, 0, none⟩ = some (.int .i64 ak) ∧ w'.cell? ⟨w.heap.size, 1, none⟩ = some (.int .i64 an) ∧ w'.cell? ⟨w.heap.size, 2, none⟩ = some (.string sa) ∧ w'.cell? ⟨w.heap.size + 1, 0, none⟩ = some (.int .i64 bk) ∧ w'.cell? ⟨w.heap.size + 1, 1, none⟩ = some (.int .i64 bn) ∧ w'.cell? ⟨w.heap.size + 1, 2, none⟩ = some (.string sb)) (go_keep) (first | (go_at_call 109; refine (cmpKind_any _ _ _).mono ?_; rintro e w' ⟨rfl, rfl⟩) | (go_at_call 110; refine (cmpInt_any _ _ _).mono ?_; rintro e w' ⟨rfl, rfl⟩) | (go_at_call 111; refine (strCompare_any _ _ _).mono ?_; rintro e w' ⟨rfl, rfl⟩) | (go_at_call 108; refine (or_here _ _ _ _ _ _).mono ?_; rintro e w' ⟨rfl, rfl⟩))
  go_wp2
  go_ret
  exact ⟨rfl, ((((Below.refl _ _).alloc (Nat.le_refl _) _).alloc (by simp) _).alloc (by simp; omega) _).drew⟩

theorem drop_bytes (a : ByteArray) (k : Nat) (h : k < a.size) : a.data.toList.drop k = a[k] :: a.data.toList.drop (k + 1) := by
  rw [List.drop_eq_getElem_cons (by simpa using h)]; rfl
theorem cb_lt {a b : ByteArray} {k : Nat} (ha : k < a.size) (hb : k < b.size) (h : a[k].toNat < b[k].toNat) : Lib.compareBytes (a.data.toList.drop k) (b.data.toList.drop k) = -1 := by
  rw [drop_bytes a k ha, drop_bytes b k hb]
  simp only [Lib.compareBytes]
  rw [if_pos (UInt8.lt_iff_toNat_lt.2 h)]
theorem cb_gt {a b : ByteArray} {k : Nat} (ha : k < a.size) (hb : k < b.size) (h : b[k].toNat < a[k].toNat) : Lib.compareBytes (a.data.toList.drop k) (b.data.toList.drop k) = 1 := by
  rw [drop_bytes a k ha, drop_bytes b k hb]
  simp only [Lib.compareBytes]
  rw [if_neg (by rw [UInt8.lt_iff_toNat_lt]; omega), if_pos (UInt8.lt_iff_toNat_lt.2 h)]
theorem cb_eq {a b : ByteArray} {k : Nat} (ha : k < a.size) (hb : k < b.size) (h : ¬ a[k].toNat < b[k].toNat) (h' : ¬ b[k].toNat < a[k].toNat) : Lib.compareBytes (a.data.toList.drop k) (b.data.toList.drop k) = Lib.compareBytes (a.data.toList.drop (k + 1)) (b.data.toList.drop (k + 1)) := by
  rw [drop_bytes a k ha, drop_bytes b k hb]
  simp only [Lib.compareBytes]
  rw [if_neg (by rw [UInt8.lt_iff_toNat_lt]; omega), if_neg (by rw [UInt8.lt_iff_toNat_lt]; omega)]
theorem drop_end (a : ByteArray) (k : Nat) (h : a.size ≤ k) : a.data.toList.drop k = [] := List.drop_of_length_le (by simpa using h)
theorem cb_end {a b : ByteArray} {k : Nat} (ha : k ≤ a.size) (hb : k ≤ b.size) (h : ¬ (k < a.size ∧ k < b.size)) : Lib.compareBytes (a.data.toList.drop k) (b.data.toList.drop k) = cmp3 (a.size : Int) (b.size : Int) := by
  unfold cmp3
  by_cases h1 : k < a.size
  · have h2 : ¬ k < b.size := fun h2 => h ⟨h1, h2⟩
    rw [drop_bytes a k h1, drop_end b k (by omega), if_neg (by omega), if_pos (by omega)]; rfl
  · by_cases h2 : k < b.size
    · rw [drop_bytes b k h2, drop_end a k (by omega), if_pos (by omega)]; rfl
    · rw [drop_end a k (by omega), drop_end b k (by omega), if_neg (by omega), if_neg (by omega)]; rfl

set_option maxHeartbeats 400000 in
theorem texts_any (a b : ByteArray) (w : World) (hsa : a.size ≤ maxLen) :
    Calls Tryz.prog 71 #[.string a, .string b] w fun e w' => e = .returned (.int .i64 (Lib.compareBytes a.data.toList b.data.toList)) ∧ Below w.heap.size w w' := by
  unfold maxLen at hsa
  go_enter Tryz.func71, Tryz.ntmps71
  go_wp2
  go_loopw [5] (fun i wr => ∃ k : Nat, k ≤ a.size ∧ k ≤ b.size ∧ i = .int .i64 k ∧ Hid (Lib.compareBytes a.data.toList b.data.toList = Lib.compareBytes (a.data.toList.drop k) (b.data.toList.drop k)) ∧ Below w.heap.size w wr) (fun i _ => a.size - (intOf i).toNat)
  case atStart => exact ⟨0, Nat.zero_le _, Nat.zero_le _, rfl, rfl, Below.refl _ _⟩
  case round =>
    obtain ⟨k, hka, hkb, rfl, hcmp, hbl⟩ := hrel
    by_cases hla : k < a.size
    · by_cases hlb : k < b.size
      · go_wp2
        go_quiet (fail)
        go_wp2
        rotate_left
        · go_quiet (fail)
          go_wp2
          · go_ret
            exact ⟨ret_int (hcmp.out.trans (cb_gt hla hlb ‹_›)).symm, below_drewN (below_drewN hbl _) _⟩
          · go_roundw
            case rel => exact ⟨k + 1, by omega, by omega, by go_num, hcmp.out.trans (cb_eq hla hlb ‹_› ‹_›), below_drewN hbl _⟩
            case measure => simp [intOf]; omega
        · go_ret
          exact ⟨ret_int (hcmp.out.trans (cb_lt hla hlb ‹_›)).symm, below_drewN hbl _⟩
      · go_wp2_with (go_at_call 54; refine (ints_any _ _ _).mono ?_; rintro e w' ⟨rfl, rfl⟩)
        go_ret
        exact ⟨ret_int (hcmp.out.trans (cb_end hka hkb (fun h => hlb h.2))).symm, hbl⟩
    · go_wp2_with (go_at_call 54; refine (ints_any _ _ _).mono ?_; rintro e w' ⟨rfl, rfl⟩)
      go_ret
      exact ⟨ret_int (hcmp.out.trans (cb_end hka hkb (fun h => hla h.1))).symm, hbl⟩

/-- The document's order of two values, by their cells. -/
def ordV (ak an : Int) (sa : ByteArray) (bk bn : Int) (sb : ByteArray) : Int :=
  if ak ≠ bk then cmp3 ak bk else if ak = 1 ∨ ak = 2 then cmp3 an bn else if ak = 3 then Lib.compareBytes sa.data.toList sb.data.toList else 0

theorem below2 (w : World) (o1 o2 : Obj) : Below w.heap.size w ((w.alloc o1).alloc o2) := ((Below.refl _ _).alloc (Nat.le_refl _) _).alloc (by simp) _

set_option maxHeartbeats 400000 in
theorem refCompare_any (ak an : Int) (sa : ByteArray) (bk bn : Int) (sb : ByteArray) (w : World) (hsa : sa.size ≤ maxLen) :
    Calls Tryz.prog 53 #[.agg #[.int .i64 ak, .int .i64 an, .string sa], .agg #[.int .i64 bk, .int .i64 bn, .string sb]] w fun e w' => e = .returned (.int .i64 (ordV ak an sa bk bn sb)) ∧ Below w.heap.size w w' := by
  go_enter Tryz.func53, Tryz.ntmps53
  go_wp2_with (first | (go_at_call 54; refine (ints_any _ _ _).mono ?_; rintro e w' ⟨rfl, rfl⟩) | (go_at_call 71; refine (texts_any _ _ _ hsa).mono ?_; rintro e w' ⟨rfl, hb⟩))
  · go_ret
    exact ⟨ret_int (by simp_all [ordV]), below2 _ _ _⟩
  · go_ret
    exact ⟨ret_int (by simp_all [ordV]), below2 _ _ _⟩
  · go_ret
    exact ⟨ret_int (by simp_all [ordV]), below2 _ _ _⟩
  · go_ret
    exact ⟨ret_int (by simp_all [ordV]), (below2 _ _ _).trans (hb.mono (by simp; omega))⟩
  · go_ret
    exact ⟨ret_int (by simp_all [ordV]), below2 _ _ _⟩
end Go.Proofs.YtnfpomjcofhppaaGreatDoor
