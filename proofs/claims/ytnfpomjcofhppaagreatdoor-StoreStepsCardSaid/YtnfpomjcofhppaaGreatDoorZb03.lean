/- Columns in memory; contracts of slices.IndexFunc at columns and of columnOf. Plain facts on the order of values: it is the document's at good values, an order, and nought just at equal ones. The contract of schema's malformed at a table that is well formed. -/
import Derived.Test.YtnfpomjcofhppaaGreatDoorZb02
namespace Go.Proofs.YtnfpomjcofhppaaGreatDoor
open Go.RowKit

/-- A column. -/
structure Cl where
  n : ByteArray
  k : Int
  b : Bool
instance : Inhabited Cl := ⟨⟨⟨#[]⟩, 0, false⟩⟩
/-- A slice of columns that lies in memory. -/
def ColsAt (B : Nat) (w : World) (a : Option Addr) (l : List Cl) : Prop :=
  l.length ≤ 9223372036854775807 ∧ (l = [] ∨ ∃ b off, a = some ⟨b, off, none⟩ ∧ b < B ∧ ∀ i, i < l.length → w.cell? ⟨b, off + i * 3, none⟩ = some (.string (l.getD i default).n) ∧ w.cell? ⟨b, off + i * 3 + 1, none⟩ = some (.int .i64 (l.getD i default).k) ∧ w.cell? ⟨b, off + i * 3 + 2, none⟩ = some (.bool (l.getD i default).b))
theorem ColsAt.keep {B : Nat} {w w' : World} {a : Option Addr} {l : List Cl} (h : ColsAt B w a l) {row : Option Nat} (hg : w.grownBy w' row) (hr : ∀ k, row = some k → B ≤ k) : ColsAt B w' a l := by
  refine ⟨h.1, h.2.imp id fun ⟨b, off, e, hlt, hc⟩ => ⟨b, off, e, hlt, fun i hi => ?_⟩⟩
  have hb : some b ≠ row := fun e => by have := hr b e.symm; omega
  exact ⟨hg.cell (hc i hi).1 hb, hg.cell (hc i hi).2.1 hb, hg.cell (hc i hi).2.2 hb⟩
theorem ColsAt.at {B : Nat} {w : World} {a : Option Addr} {l : List Cl} (h : ColsAt B w a l) {i : Nat} (hi : i < l.length) : ∃ b off, a = some ⟨b, off, none⟩ ∧ b < B ∧ w.cell? ⟨b, off + i * 3, none⟩ = some (.string (l.getD i default).n) ∧ w.cell? ⟨b, off + i * 3 + 1, none⟩ = some (.int .i64 (l.getD i default).k) ∧ w.cell? ⟨b, off + i * 3 + 2, none⟩ = some (.bool (l.getD i default).b) := by
  rcases h.2 with h | ⟨b, off, e, hlt, hc⟩
  · rw [h] at hi; simp at hi
  · exact ⟨b, off, e, hlt, hc i hi⟩
/-- The first column of a name. -/
def colIx (M : ByteArray) (l : List Cl) (k : Nat) : Prop := ∀ i, i < k → ((l.getD i default).n.toList == M.toList) = false
def IxIs (M : ByteArray) (l : List Cl) (r : Int) : Prop := (r = -1 ∧ colIx M l l.length) ∨ (∃ k : Nat, r = k ∧ k < l.length ∧ ((l.getD k default).n.toList == M.toList) = true ∧ colIx M l k)
set_option maxHeartbeats 1600000 in
theorem indexCol_any (a : Option Addr) (cap : Nat) (l : List Cl) (M : ByteArray) (g : Nat) (w : World) (h : ColsAt w.heap.size w a l) (hc : w.cell? ⟨g, 0, none⟩ = some (.string M)) :
    Calls Tryz.prog 102 #[.slice a l.length cap, .func (.func 103) #[] #[.pointer (some ⟨g, 0, none⟩)]] w fun e w' => (∃ r, e = .returned (.int .i64 r) ∧ IxIs M l r) ∧ w.grownBy w' none := by
  have H := Lib.hid h
  have HC := Lib.hid (fun (W : World) (hW : w.grownBy W none) (N : ByteArray) (k : Int) (b : Bool) => colIs_any N M k b g W (hW.cell hc (by simp)))
  have hlen := h.1
  obtain ⟨n, hn⟩ : ∃ n, n = l.length := ⟨_, rfl⟩
  have Hn := Lib.hid hn
  rw [← hn] at hlen ⊢
  clear h hc hn
  go_enter Tryz.func102, Tryz.ntmps102
  go_wp2_with fail
  go_loopw [8] (fun i wr => ∃ (k : Nat), i = .int .i64 k ∧ k ≤ n ∧ Hid (colIx M l k) ∧ Hid (w.grownBy wr none)) (fun i _ => n - (intOf i).toNat)
  case atStart => exact ⟨0, rfl, by omega, Lib.hid (fun i hi => by omega), Lib.hid (grown_refl6 _ _)⟩
  case round =>
    obtain ⟨k, rfl, hk, E, K⟩ := hrel
    by_cases hlt : k < n
    · obtain ⟨b, off, rfl, _, c0, c1, c2⟩ := (H.out.keep K.out (by simp)).at (i := k) (by rw [← Hn.out]; exact hlt)
      obtain ⟨x, hx⟩ : ∃ x, x = l.getD k default := ⟨_, rfl⟩
      rw [← hx] at c0 c1 c2
      have Hx := Lib.hid hx
      obtain ⟨xn, xk, xb⟩ := x
      simp only at c0 c1 c2
      clear hx
      have HC1 := Lib.hid (HC.out wr K.out xn xk xb)
      by_cases hm : (xn.toList == M.toList) = true
      · have HM := Lib.hid (show ((l.getD k default).n.toList == M.toList) = true by rw [← Hx.out]; exact hm)
        rw [hm] at HC1
        clear hm
        go_wp2_with fail
        refine HC1.out.mono ?_
        rintro e w2 ⟨rfl, hg⟩
        have K2 := Lib.hid (K.out.trans hg)
        clear hg
        go_wp2_with fail
        go_ret
        exact ⟨⟨k, rfl, .inr ⟨k, rfl, by rw [← Hn.out]; exact hlt, HM.out, E.out⟩⟩, K2.out⟩
      · have hm' : (xn.toList == M.toList) = false := by simpa using hm
        have E2 : Hid (colIx M l (k + 1)) := Lib.hid fun i hi => by
          by_cases e : i = k
          · rw [e, ← Hx.out]; exact hm'
          · exact E.out i (by omega)
        rw [hm'] at HC1
        clear hm hm'
        go_wp2_with fail
        refine HC1.out.mono ?_
        rintro e w2 ⟨rfl, hg⟩
        have K2 := Lib.hid (K.out.trans hg)
        clear hg
        go_wp2_with fail
        go_roundw
        case rel => exact ⟨k + 1, by go_num, by omega, E2, K2⟩
        case measure => simp [intOf]; omega
    · obtain rfl : k = n := by omega
      go_wp2_with fail
      go_ret
      exact ⟨⟨-1, rfl, .inl ⟨rfl, by rw [← Hn.out]; exact E.out⟩⟩, K.out⟩
set_option maxHeartbeats 1600000 in
theorem columnOf_any (a : Option Addr) (cap : Nat) (l : List Cl) (M : ByteArray) (w : World) (h : ColsAt w.heap.size w a l) :
    Calls Tryz.prog 88 #[.slice a l.length cap, .string M] w fun e w' => (∃ r, e = .returned (.int .i64 r) ∧ IxIs M l r) ∧ w.grownBy w' none := by
  have hb : ∀ T, (w.alloc (.cells #[.string M] T)).cell? ⟨w.heap.size, 0, none⟩ = some (.string M) := fun T => cell_of_row _ _ 0 _ _ _ (heap_alloc_new w _)
  have HI := Lib.hid (fun T => indexCol_any a cap l M w.heap.size (w.alloc (.cells #[.string M] T)) ⟨h.1, (h.keep (World.grownBy_alloc w _ none) (by simp)).2.imp id fun ⟨b, off, e, hlt, hc⟩ => ⟨b, off, e, by simp; omega, hc⟩⟩ (hb T))
  generalize l.length = n at *
  clear h
  go_enter Tryz.func88, Tryz.ntmps88
  go_wp2_with fail
  refine (HI.out _).mono ?_
  rintro e w2 ⟨⟨r, rfl, hr⟩, hg⟩
  have HR := Lib.hid hr
  have K2 := Lib.hid ((World.grownBy_alloc w _ none).trans hg)
  clear hg hr
  go_wp2_with fail
  go_ret
  exact ⟨⟨r, rfl, HR.out⟩, K2.out⟩
end Go.Proofs.YtnfpomjcofhppaaGreatDoor
namespace Go.Proofs.YtnfpomjcofhppaaGreatDoor
open Go.RowKit

/-- What value.Compare answers, by the cells. -/
def ordC (ak an : Int) (sa : ByteArray) (bk bn : Int) (sb : ByteArray) : Int := or3 (cmp3 ak bk) (cmp3 an bn) (Lib.compareBytes sa.data.toList sb.data.toList)

theorem cb_range : ∀ a b : List UInt8, -1 ≤ Lib.compareBytes a b ∧ Lib.compareBytes a b ≤ 1
  | [], [] => by simp [Lib.compareBytes]
  | [], _ :: _ => by simp [Lib.compareBytes]
  | _ :: _, [] => by simp [Lib.compareBytes]
  | x :: a, y :: b => by
    have ih := cb_range a b
    simp only [Lib.compareBytes]
    split
    · omega
    · split
      · omega
      · exact ih
theorem cb_turn : ∀ a b : List UInt8, Lib.compareBytes b a = - Lib.compareBytes a b
  | [], [] => by simp [Lib.compareBytes]
  | [], _ :: _ => by simp [Lib.compareBytes]
  | _ :: _, [] => by simp [Lib.compareBytes]
  | x :: a, y :: b => by
    have ih := cb_turn a b
    simp only [Lib.compareBytes, UInt8.lt_iff_toNat_lt]
    by_cases h1 : x.toNat < y.toNat
    · rw [if_neg (by omega), if_pos h1, if_pos h1]; rfl
    · by_cases h2 : y.toNat < x.toNat
      · rw [if_pos h2, if_neg h1, if_pos h2]
      · rw [if_neg h2, if_neg h1, if_neg h1, if_neg h2, ih]
theorem cb_zero : ∀ a b : List UInt8, Lib.compareBytes a b = 0 ↔ a = b
  | [], [] => by simp [Lib.compareBytes]
  | [], _ :: _ => by simp [Lib.compareBytes]
  | _ :: _, [] => by simp [Lib.compareBytes]
  | x :: a, y :: b => by
    have ih := cb_zero a b
    simp only [Lib.compareBytes, UInt8.lt_iff_toNat_lt, List.cons.injEq, ← UInt8.toNat_inj]
    by_cases h1 : x.toNat < y.toNat
    · rw [if_pos h1]; constructor
      · intro h; omega
      · intro h; omega
    · by_cases h2 : y.toNat < x.toNat
      · rw [if_neg h1, if_pos h2]; constructor
        · intro h; omega
        · intro h; omega
      · rw [if_neg h1, if_neg h2, ih]; constructor
        · intro h; exact ⟨by omega, h⟩
        · intro h; exact h.2
/-- The order goes on, and only equals stay equal. -/
theorem cb_trans : ∀ a b c : List UInt8, Lib.compareBytes a b ≤ 0 → Lib.compareBytes b c ≤ 0 → Lib.compareBytes a c ≤ 0 ∧ (Lib.compareBytes a c = 0 → Lib.compareBytes a b = 0 ∧ Lib.compareBytes b c = 0)
  | [], [], [] => by simp [Lib.compareBytes]
  | [], [], _ :: _ => by simp [Lib.compareBytes]
  | [], _ :: _, [] => by simp [Lib.compareBytes]
  | [], _ :: _, _ :: _ => by simp [Lib.compareBytes]
  | _ :: _, [], _ => by simp [Lib.compareBytes]
  | _ :: _, _ :: _, [] => by simp [Lib.compareBytes]
  | x :: a, y :: b, z :: c => by
    have ih := cb_trans a b c
    simp only [Lib.compareBytes, UInt8.lt_iff_toNat_lt]
    by_cases h1 : x.toNat < y.toNat <;> by_cases h2 : y.toNat < z.toNat <;> by_cases h3 : x.toNat < z.toNat <;> by_cases h4 : y.toNat < x.toNat <;> by_cases h5 : z.toNat < y.toNat <;> by_cases h6 : z.toNat < x.toNat <;> first | (exfalso; omega) | (simp [h1, h2, h3, h4, h5, h6]; done) | (simp only [h1, h2, h3, h4, h5, h6, if_false]; first | exact ih | (intros; omega) | (intros; constructor <;> (try intros) <;> omega))

theorem cmp3_range (a b : Int) : -1 ≤ cmp3 a b ∧ cmp3 a b ≤ 1 := by
  unfold cmp3; (repeat' split) <;> omega
theorem cmp3_turn (a b : Int) : cmp3 b a = - cmp3 a b := by
  unfold cmp3; (repeat' split) <;> omega
theorem cmp3_zero (a b : Int) : cmp3 a b = 0 ↔ a = b := by
  unfold cmp3; (repeat' split) <;> omega
theorem cmp3_trans (a b c : Int) (h1 : cmp3 a b ≤ 0) (h2 : cmp3 b c ≤ 0) : cmp3 a c ≤ 0 ∧ (cmp3 a c = 0 → cmp3 a b = 0 ∧ cmp3 b c = 0) := by
  unfold cmp3 at *
  by_cases g1 : a < b <;> by_cases g2 : b < c <;> by_cases g3 : a < c <;> by_cases g4 : b < a <;> by_cases g5 : c < b <;> by_cases g6 : c < a <;> simp_all <;> omega

/-- .. and so does the order by parts. -/
def or2 (a b : Int) : Int := if a ≠ 0 then a else b
theorem or2_trans {a1 a2 b1 b2 c1 c2 : Int}
    (t1 : a1 ≤ 0 → b1 ≤ 0 → c1 ≤ 0 ∧ (c1 = 0 → a1 = 0 ∧ b1 = 0)) (z1 : a1 = 0 → b1 = 0 → c1 = 0) (t2 : a2 ≤ 0 → b2 ≤ 0 → c2 ≤ 0 ∧ (c2 = 0 → a2 = 0 ∧ b2 = 0))
    (ha : or2 a1 a2 ≤ 0) (hb : or2 b1 b2 ≤ 0) : or2 c1 c2 ≤ 0 ∧ (or2 c1 c2 = 0 → or2 a1 a2 = 0 ∧ or2 b1 b2 = 0) := by
  have ha1 : a1 ≤ 0 := by unfold or2 at ha; split at ha <;> omega
  have hb1 : b1 ≤ 0 := by unfold or2 at hb; split at hb <;> omega
  obtain ⟨hc1, hc2⟩ := t1 ha1 hb1
  by_cases g : c1 = 0
  · obtain ⟨rfl, rfl⟩ := hc2 g
    subst g
    simp only [or2, ne_eq, not_true_eq_false, if_false] at *
    exact t2 ha hb
  · have e : or2 c1 c2 = c1 := by rw [or2, if_pos g]
    rw [e]
    exact ⟨hc1, fun h => absurd h g⟩
theorem or3_or2 (a b c : Int) : or3 a b c = or2 a (or2 b c) := rfl

theorem ordC_range (ak an : Int) (sa : ByteArray) (bk bn : Int) (sb : ByteArray) : -1 ≤ ordC ak an sa bk bn sb ∧ ordC ak an sa bk bn sb ≤ 1 := by
  have h1 := cmp3_range ak bk
  have h2 := cmp3_range an bn
  have h3 := cb_range sa.data.toList sb.data.toList
  unfold ordC or3
  (repeat' split) <;> omega
theorem ordC_turn (ak an : Int) (sa : ByteArray) (bk bn : Int) (sb : ByteArray) : ordC bk bn sb ak an sa = - ordC ak an sa bk bn sb := by
  unfold ordC
  rw [cmp3_turn ak bk, cmp3_turn an bn, cb_turn sa.data.toList sb.data.toList]
  unfold or3
  (repeat' split) <;> omega
theorem bytes_ext {a b : ByteArray} (h : a.data.toList = b.data.toList) : a = b := by
  cases a; cases b
  simp only [ByteArray.mk.injEq]
  exact Array.toList_inj.1 h
theorem ordC_zero (ak an : Int) (sa : ByteArray) (bk bn : Int) (sb : ByteArray) : ordC ak an sa bk bn sb = 0 ↔ ak = bk ∧ an = bn ∧ sa = sb := by
  have h1 := cmp3_zero ak bk
  have h2 := cmp3_zero an bn
  have h3 := cb_zero sa.data.toList sb.data.toList
  unfold ordC or3
  constructor
  · intro h
    split at h
    · omega
    · split at h
      · omega
      · exact ⟨by omega, by omega, bytes_ext (h3.1 h)⟩
  · rintro ⟨rfl, rfl, rfl⟩
    rw [if_neg (by simp [cmp3]), if_neg (by simp [cmp3])]
    exact h3.2 rfl
theorem ordC_trans (ak an : Int) (sa : ByteArray) (bk bn : Int) (sb : ByteArray) (ck cn : Int) (sc : ByteArray) (h1 : ordC ak an sa bk bn sb ≤ 0) (h2 : ordC bk bn sb ck cn sc ≤ 0) :
    ordC ak an sa ck cn sc ≤ 0 ∧ (ordC ak an sa ck cn sc = 0 → ordC ak an sa bk bn sb = 0 ∧ ordC bk bn sb ck cn sc = 0) :=
  or2_trans (cmp3_trans ak bk ck) (by simp only [cmp3_zero]; omega) (or2_trans (cmp3_trans an bn cn) (by simp only [cmp3_zero]; omega) (cb_trans _ _ _)) h1 h2

theorem toList_nil {s : ByteArray} (h : s.toList.isEmpty = true) : s.data.toList = [] := by
  rw [← Lib.toList_data]
  exact List.isEmpty_iff.1 h

/-- At good values the program's order is the document's. -/
theorem ordC_ordV {ak an : Int} {sa : ByteArray} {bk bn : Int} {sb : ByteArray} (ha : goodB ak an sa = true) (hb : goodB bk bn sb = true) : ordV ak an sa bk bn sb = ordC ak an sa bk bn sb := by
  unfold ordV ordC or3
  by_cases h : ak = bk
  · subst h
    rw [if_neg (show ¬ (ak ≠ ak) by simp), if_neg (show ¬ (cmp3 ak ak ≠ 0) by simp [cmp3])]
    by_cases h1 : ak = 1 ∨ ak = 2
    · rw [if_pos h1]
      have e1 : sa.data.toList = [] := by
        rcases h1 with rfl | rfl <;> simp [goodB] at ha <;> exact toList_nil (by simp [ha])
      have e2 : sb.data.toList = [] := by
        rcases h1 with rfl | rfl <;> simp [goodB] at hb <;> exact toList_nil (by simp [hb])
      rw [e1, e2]
      split
      · rfl
      · rename_i h2; simp at h2; rw [h2]; rfl
    · rw [if_neg h1]
      by_cases h3 : ak = 3
      · subst h3
        have e1 : an = 0 := by simp [goodB] at ha; exact ha.1
        have e2 : bn = 0 := by simp [goodB] at hb; exact hb.1
        subst e1 e2
        rw [if_pos rfl, if_neg (by simp [cmp3])]
      · rw [if_neg h3]
        by_cases h0 : ak = 0
        · subst h0
          simp [goodB] at ha hb
          rw [ha.1, hb.1, toList_nil (by simp [ha.2]), toList_nil (by simp [hb.2])]
          rfl
        · exfalso
          have : goodB ak an sa = false := by
            unfold goodB
            rw [if_neg h0, if_neg (by omega), if_neg (by omega), if_neg h3]
          simp [this] at ha
  · rw [if_pos h, if_pos (by rw [ne_eq, cmp3_zero]; exact h)]
end Go.Proofs.YtnfpomjcofhppaaGreatDoor
namespace Go.Proofs.YtnfpomjcofhppaaGreatDoor
open Go.RowKit

def colGood (K : Int) (i : Nat) (c : Cl) : Prop := nameB c.n = true ∧ (c.k = 1 ∨ c.k = 2 ∨ c.k = 3) ∧ ((i : Int) < K → c.b = false)
theorem box3_new6 (w : World) (x y z : Value) (T : TypeId) : (w.alloc (.cells #[x, y, z] T)).cell? ⟨w.heap.size, 0, none⟩ = some x ∧ (w.alloc (.cells #[x, y, z] T)).cell? ⟨w.heap.size, 1, none⟩ = some y ∧ (w.alloc (.cells #[x, y, z] T)).cell? ⟨w.heap.size, 2, none⟩ = some z := by
  have e := heap_alloc_new w (.cells #[x, y, z] T)
  exact ⟨cell_of_row _ _ 0 _ _ _ e, cell_of_row _ _ 1 _ _ _ e, cell_of_row _ _ 2 _ _ _ e⟩
set_option maxRecDepth 100000 in
set_option maxHeartbeats 3200000 in
theorem malformed_ok (a : Option Addr) (cap : Nat) (l : List Cl) (N : ByteArray) (K : Int) (w : World) (h : ColsAt w.heap.size w a l) (hN : nameB N = true) (h1 : 1 ≤ K) (h2 : K ≤ l.length) (hg : ∀ i, i < l.length → colGood K i (l.getD i default)) :
    Calls Tryz.prog 73 #[.agg #[.string N, .slice a l.length cap, .int .i64 K]] w fun e w' => e = .returned .nilIface ∧ w.grownBy w' none := by
  have HN := Lib.hid (fun W => name_any N W)
  rw [hN] at HN
  have HC := Lib.hid (fun M W => name_any M W)
  have H := Lib.hid (h.keep (World.grownBy_alloc w (.cells #[.string N, .slice a l.length cap, .int .i64 K] 50) none) (by simp))
  have HB := Lib.hid (box3_new6 w (.string N) (.slice a l.length cap) (.int .i64 K) 50)
  have HG := Lib.hid hg
  have hlen := h.1
  obtain ⟨n, hn⟩ : ∃ n, n = l.length := ⟨_, rfl⟩
  have Hn := Lib.hid hn
  rw [← hn] at hlen h2 H HB ⊢
  clear h hg hn hN
  have K0 := Lib.hid (World.grownBy_alloc w (.cells #[.string N, .slice a n cap, .int .i64 K] 50) none)
  go_enter Tryz.func73, Tryz.ntmps73
  go_wp2_with fail
  refine (HN.out _).mono ?_
  rintro e w1 ⟨rfl, rfl⟩
  go_wp2_with fail
  go_loopw [25] (fun i wr => ∃ (k : Nat), i = .int .i64 k ∧ k ≤ n ∧ Hid ((w.alloc (.cells #[.string N, .slice a n cap, .int .i64 K] 50)).grownBy wr none)) (fun i _ => n - (intOf i).toNat)
  case atStart => exact ⟨0, rfl, by omega, Lib.hid (grown_refl6 _ _)⟩
  case round =>
    obtain ⟨k, rfl, hk, KR⟩ := hrel
    by_cases hlt : k < n
    · obtain ⟨b, off, rfl, _, c0, c1, c2⟩ := (H.out.keep KR.out (by simp)).at (i := k) (by rw [← Hn.out]; exact hlt)
      obtain ⟨g0, g1, g2⟩ := HB.out
      have d0 := KR.out.cell g0 (by simp)
      have d1 := KR.out.cell g1 (by simp)
      have d2 := KR.out.cell g2 (by simp)
      obtain ⟨q1, q2, q3⟩ := HG.out k (by rw [← Hn.out]; exact hlt)
      obtain ⟨x, hx⟩ : ∃ x, x = l.getD k default := ⟨_, rfl⟩
      rw [← hx] at c0 c1 c2 q1 q2 q3
      obtain ⟨xn, xk, xb⟩ := x
      simp only at c0 c1 c2 q1 q2 q3
      have HX := Lib.hid (fun W => HC.out xn W)
      rw [q1] at HX
      have d2' : ∀ o, (wr.alloc o).cell? ⟨w.heap.size, 2, none⟩ = some (.int .i64 K) := fun o => (World.grownBy_alloc wr o none).cell d2 (by simp)
      clear hx g0 g1 g2 q1
      by_cases hK : (k : Int) < K
      · have hb : xb = false := q3 hK
        subst hb
        clear q3
        rcases q2 with rfl | rfl | rfl
        all_goals
          go_wp2_with fail
          refine (HX.out _).mono ?_
          rintro e w2 ⟨rfl, rfl⟩
          go_wp2_with fail
          go_roundw
          case rel => exact ⟨k + 1, by go_num, by omega, Lib.hid (KR.out.trans (World.grownBy_alloc _ _ _))⟩
          case measure => simp [intOf]; omega
      · have hK' : K ≤ (k : Int) := by omega
        clear q3
        rcases q2 with rfl | rfl | rfl
        all_goals
          go_wp2_with fail
          refine (HX.out _).mono ?_
          rintro e w2 ⟨rfl, rfl⟩
          go_wp2_with fail
          go_roundw
          case rel => exact ⟨k + 1, by go_num, by omega, Lib.hid (KR.out.trans (World.grownBy_alloc _ _ _))⟩
          case measure => simp [intOf]; omega
    · obtain rfl : k = n := by omega
      go_wp2_with fail
      go_ret
      exact ⟨rfl, K0.out.trans KR.out⟩
end Go.Proofs.YtnfpomjcofhppaaGreatDoor
