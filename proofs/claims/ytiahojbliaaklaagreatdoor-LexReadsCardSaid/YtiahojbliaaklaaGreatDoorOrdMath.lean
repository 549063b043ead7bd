/- Plain facts on the order of values: it is the document's at good values, an order, and nought just at equal ones. -/
import Derived.Test.YtiahojbliaaklaaGreatDoorOrd
namespace Go.Proofs.YtiahojbliaaklaaGreatDoor
open Go.RowKit

/-- What value.Compare answers, by the cells. -/
def ordC (ak an : Int) (sa : ByteArray) (bk bn : Int) (sb : ByteArray) : Int := or3 (cmp3 ak bk) (cmp3 an bn) (Lib.compareBytes sa.data.toList sb.data.toList)

theorem cb_range : ∀ a b : List UInt8, -1 ≤ Lib.compareBytes a b ∧ Lib.compareBytes a b ≤ 1
  | [], [] => by simp [Lib.compareBytes]
  | [], _ :: _ => by simp [Lib.compareBytes]
  | _ :: _, [] => by simp [Lib.compareBytes]
  | x :: a, y :: b => by
    have ih := cb_range a b
    simp only [Lib.compareBytes]
    split
    · omega
    · split
      · omega
      · exact ih
theorem cb_turn : ∀ a b : List UInt8, Lib.compareBytes b a = - Lib.compareBytes a b
  | [], [] => by simp [Lib.compareBytes]
  | [], _ :: _ => by simp [Lib.compareBytes]
  | _ :: _, [] => by simp [Lib.compareBytes]
  | x :: a, y :: b => by
    have ih := cb_turn a b
    simp only [Lib.compareBytes, UInt8.lt_iff_toNat_lt]
    by_cases h1 : x.toNat < y.toNat
    · rw [if_neg (by omega), if_pos h1, if_pos h1]; rfl
    · by_cases h2 : y.toNat < x.toNat
      · rw [if_pos h2, if_neg h1, if_pos h2]
      · rw [if_neg h2, if_neg h1, if_neg h1, if_neg h2, ih]
theorem cb_zero : ∀ a b : List UInt8, Lib.compareBytes a b = 0 ↔ a = b
  | [], [] => by simp [Lib.compareBytes]
  | [], _ :: _ => by simp [Lib.compareBytes]
  | _ :: _, [] => by simp [Lib.compareBytes]
  | x :: a, y :: b => by
    have ih := cb_zero a b
    simp only [Lib.compareBytes, UInt8.lt_iff_toNat_lt, List.cons.injEq, ← UInt8.toNat_inj]
    by_cases h1 : x.toNat < y.toNat
    · rw [if_pos h1]; constructor
      · intro h; omega
      · intro h; omega
    · by_cases h2 : y.toNat < x.toNat
      · rw [if_neg h1, if_pos h2]; constructor
        · intro h; omega
        · intro h; omega
      · rw [if_neg h1, if_neg h2, ih]; constructor
        · intro h; exact ⟨by omega, h⟩
        · intro h; exact h.2
/-- The order goes on, and only equals stay equal. -/
theorem cb_trans : ∀ a b c : List UInt8, Lib.compareBytes a b ≤ 0 → Lib.compareBytes b c ≤ 0 → Lib.compareBytes a c ≤ 0 ∧ (Lib.compareBytes a c = 0 → Lib.compareBytes a b = 0 ∧ Lib.compareBytes b c = 0)
  | [], [], [] => by simp [Lib.compareBytes]
  | [], [], _ :: _ => by simp [Lib.compareBytes]
  | [], _ :: _, [] => by simp [Lib.compareBytes]
  | [], _ :: _, _ :: _ => by simp [Lib.compareBytes]
  | _ :: _, [], _ => by simp [Lib.compareBytes]
  | _ :: _, _ :: _, [] => by simp [Lib.compareBytes]
  | x :: a, y :: b, z :: c => by
    have ih := cb_trans a b c
    simp only [Lib.compareBytes, UInt8.lt_iff_toNat_lt]
    by_cases h1 : x.toNat < y.toNat <;> by_cases h2 : y.toNat < z.toNat <;> by_cases h3 : x.toNat < z.toNat <;> by_cases h4 : y.toNat < x.toNat <;> by_cases h5 : z.toNat < y.toNat <;> by_cases h6 : z.toNat < x.toNat <;> first | (exfalso; omega) | (simp [h1, h2, h3, h4, h5, h6]; done) | (simp only [h1, h2, h3, h4, h5, h6, if_false]; first | exact ih | (intros; omega) | (intros; constructor <;> (try intros) <;> omega))

theorem cmp3_range (a b : Int) : -1 ≤ cmp3 a b ∧ cmp3 a b ≤ 1 := by
  unfold cmp3; (repeat' split) <;> omega
theorem cmp3_turn (a b : Int) : cmp3 b a = - cmp3 a b := by
  unfold cmp3; (repeat' split) <;> omega
theorem cmp3_zero (a b : Int) : cmp3 a b = 0 ↔ a = b := by
  unfold cmp3; (repeat' split) <;> omega
theorem cmp3_trans (a b c : Int) (h1 : cmp3 a b ≤ 0) (h2 : cmp3 b c ≤ 0) : cmp3 a c ≤ 0 ∧ (cmp3 a c = 0 → cmp3 a b = 0 ∧ cmp3 b c = 0) := by
  unfold cmp3 at *
  by_cases g1 : a < b <;> by_cases g2 : b < c <;> by_cases g3 : a < c <;> by_cases g4 : b < a <;> by_cases g5 : c < b <;> by_cases g6 : c < a <;> simp_all <;> omega

/-- .. and so does the order by parts. -/
def or2 (a b : Int) : Int := if a ≠ 0 then a else b
theorem or2_trans {a1 a2 b1 b2 c1 c2 : Int}
    (t1 : a1 ≤ 0 → b1 ≤ 0 → c1 ≤ 0 ∧ (c1 = 0 → a1 = 0 ∧ b1 = 0)) (z1 : a1 = 0 → b1 = 0 → c1 = 0) (t2 : a2 ≤ 0 → b2 ≤ 0 → c2 ≤ 0 ∧ (c2 = 0 → a2 = 0 ∧ b2 = 0))
    (ha : or2 a1 a2 ≤ 0) (hb : or2 b1 b2 ≤ 0) : or2 c1 c2 ≤ 0 ∧ (or2 c1 c2 = 0 → or2 a1 a2 = 0 ∧ or2 b1 b2 = 0) := by
  have ha1 : a1 ≤ 0 := by unfold or2 at ha; split at ha <;> omega
  have hb1 : b1 ≤ 0 := by unfold or2 at hb; split at hb <;> omega
  obtain ⟨hc1, hc2⟩ := t1 ha1 hb1
  by_cases g : c1 = 0
  · obtain ⟨rfl, rfl⟩ := hc2 g
    subst g
    simp only [or2, ne_eq, not_true_eq_false, if_false] at *
    exact t2 ha hb
  · have e : or2 c1 c2 = c1 := by rw [or2, if_pos g]
    rw [e]
    exact ⟨hc1, fun h => absurd h g⟩
theorem or3_or2 (a b c : Int) : or3 a b c = or2 a (or2 b c) := rfl

theorem ordC_range (ak an : Int) (sa : ByteArray) (bk bn : Int) (sb : ByteArray) : -1 ≤ ordC ak an sa bk bn sb ∧ ordC ak an sa bk bn sb ≤ 1 := by
  have h1 := cmp3_range ak bk
  have h2 := cmp3_range an bn
  have h3 := cb_range sa.data.toList sb.data.toList
  unfold ordC or3
  (repeat' split) <;> omega
theorem ordC_turn (ak an : Int) (sa : ByteArray) (bk bn : Int) (sb : ByteArray) : ordC bk bn sb ak an sa = - ordC ak an sa bk bn sb := by
  unfold ordC
  rw [cmp3_turn ak bk, cmp3_turn an bn, cb_turn sa.data.toList sb.data.toList]
  unfold or3
  (repeat' split) <;> omega
theorem bytes_ext {a b : ByteArray} (h : a.data.toList = b.data.toList) : a = b := by
  cases a; cases b
  simp only [ByteArray.mk.injEq]
  exact Array.toList_inj.1 h
theorem ordC_zero (ak an : Int) (sa : ByteArray) (bk bn : Int) (sb : ByteArray) : ordC ak an sa bk bn sb = 0 ↔ ak = bk ∧ an = bn ∧ sa = sb := by
  have h1 := cmp3_zero ak bk
  have h2 := cmp3_zero an bn
  have h3 := cb_zero sa.data.toList sb.data.toList
  unfold ordC or3
  constructor
  · intro h
    split at h
    · omega
    · split at h
      · omega
      · exact ⟨by omega, by omega, bytes_ext (h3.1 h)⟩
  · rintro ⟨rfl, rfl, rfl⟩
    rw [if_neg (by simp [cmp3]), if_neg (by simp [cmp3])]
    exact h3.2 rfl
theorem ordC_trans (ak an : Int) (sa : ByteArray) (bk bn : Int) (sb : ByteArray) (ck cn : Int) (sc : ByteArray) (h1 : ordC ak an sa bk bn sb ≤ 0) (h2 : ordC bk bn sb ck cn sc ≤ 0) :
    ordC ak an sa ck cn sc ≤ 0 ∧ (ordC ak an sa ck cn sc = 0 → ordC ak an sa bk bn sb = 0 ∧ ordC bk bn sb ck cn sc = 0) :=
  or2_trans (cmp3_trans ak bk ck) (by simp only [cmp3_zero]; omega) (or2_trans (cmp3_trans an bn cn) (by simp only [cmp3_zero]; omega) (cb_trans _ _ _)) h1 h2

theorem toList_nil {s : ByteArray} (h : s.toList.isEmpty = true) : s.data.toList = [] := by
  rw [← Lib.toList_data]
  exact List.isEmpty_iff.1 h

/-- At good values the program's order is the document's. -/
theorem ordC_ordV {ak an : Int} {sa : ByteArray} {bk bn : Int} {sb : ByteArray} (ha : goodB ak an sa = true) (hb : goodB bk bn sb = true) : ordV ak an sa bk bn sb = ordC ak an sa bk bn sb := by
  unfold ordV ordC or3
  by_cases h : ak = bk
  · subst h
    rw [if_neg (show ¬ (ak ≠ ak) by simp), if_neg (show ¬ (cmp3 ak ak ≠ 0) by simp [cmp3])]
    by_cases h1 : ak = 1 ∨ ak = 2
    · rw [if_pos h1]
      have e1 : sa.data.toList = [] := by
        rcases h1 with rfl | rfl <;> simp [goodB] at ha <;> exact toList_nil (by simp [ha])
      have e2 : sb.data.toList = [] := by
        rcases h1 with rfl | rfl <;> simp [goodB] at hb <;> exact toList_nil (by simp [hb])
      rw [e1, e2]
      split
      · rfl
      · rename_i h2; simp at h2; rw [h2]; rfl
    · rw [if_neg h1]
      by_cases h3 : ak = 3
      · subst h3
        have e1 : an = 0 := by simp [goodB] at ha; exact ha.1
        have e2 : bn = 0 := by simp [goodB] at hb; exact hb.1
        subst e1 e2
        rw [if_pos rfl, if_neg (by simp [cmp3])]
      · rw [if_neg h3]
        by_cases h0 : ak = 0
        · subst h0
          simp [goodB] at ha hb
          rw [ha.1, hb.1, toList_nil (by simp [ha.2]), toList_nil (by simp [hb.2])]
          rfl
        · exfalso
          have : goodB ak an sa = false := by
            unfold goodB
            rw [if_neg h0, if_neg (by omega), if_neg (by omega), if_neg h3]
          simp [this] at ha
  · rw [if_pos h, if_pos (by rw [ne_eq, cmp3_zero]; exact h)]
end Go.Proofs.YtiahojbliaaklaaGreatDoor
