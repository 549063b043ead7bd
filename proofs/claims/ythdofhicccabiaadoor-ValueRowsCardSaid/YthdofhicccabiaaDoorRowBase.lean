/- Rows of values in memory, and the contract of the document's GoodRow. -/
import Derived.Test.YthdofhicccabiaaDoorOrder
namespace Go.Proofs.YthdofhicccabiaaDoor
open Go.RowKit

/-- A value by its three cells. -/
structure Vl where
  k : Int
  n : Int
  s : ByteArray
instance : Inhabited Vl := ⟨⟨0, 0, ⟨#[]⟩⟩⟩
def Vl.good (x : Vl) : Bool := goodB x.k x.n x.s
def Vl.ord (x y : Vl) : Int := ordC x.k x.n x.s y.k y.n y.s

/-- The slice at a of len values reads as l in w: nil and empty, or a row of cells that was there. -/
def RowAt (w : World) (a : Option Addr) (l : List Vl) : Prop :=
  l.length ≤ 9223372036854775807 ∧ (∀ x ∈ l, x.s.size ≤ maxLen) ∧ (l = [] ∨ ∃ b off, a = some ⟨b, off, none⟩ ∧ b < w.heap.size ∧ ∀ i, i < l.length → w.cell? ⟨b, off + i * 3, none⟩ = some (.int .i64 (l.getD i default).k) ∧ w.cell? ⟨b, off + i * 3 + 1, none⟩ = some (.int .i64 (l.getD i default).n) ∧ w.cell? ⟨b, off + i * 3 + 2, none⟩ = some (.string (l.getD i default).s))

theorem RowAt.keep {w w' : World} {a : Option Addr} {l : List Vl} (h : RowAt w a l) (hb : Below w.heap.size w w') : RowAt w' a l := by
  obtain ⟨h1, h2, h3⟩ := h
  refine ⟨h1, h2, ?_⟩
  rcases h3 with h3 | ⟨b, off, e, hlt, hc⟩
  · exact .inl h3
  · have := hb.size
    exact .inr ⟨b, off, e, by omega, fun i hi => ⟨(hb.cell (p := ⟨b, _, none⟩) hlt).trans (hc i hi).1, (hb.cell (p := ⟨b, _, none⟩) hlt).trans (hc i hi).2.1, (hb.cell (p := ⟨b, _, none⟩) hlt).trans (hc i hi).2.2⟩⟩
theorem RowAt.at {w : World} {a : Option Addr} {l : List Vl} (h : RowAt w a l) {i : Nat} (hi : i < l.length) : ∃ b off, a = some ⟨b, off, none⟩ ∧ b < w.heap.size ∧ w.cell? ⟨b, off + i * 3, none⟩ = some (.int .i64 (l.getD i default).k) ∧ w.cell? ⟨b, off + i * 3 + 1, none⟩ = some (.int .i64 (l.getD i default).n) ∧ w.cell? ⟨b, off + i * 3 + 2, none⟩ = some (.string (l.getD i default).s) := by
  rcases h.2.2 with h3 | ⟨b, off, e, hlt, hc⟩
  · rw [h3] at hi; simp at hi
  · exact ⟨b, off, e, hlt, hc i hi⟩

theorem all_stop {l : List Vl} {k : Nat} (h : k < l.length) (hf : (l.getD k default).good = false) : l.all Vl.good = false := by
  rw [List.all_eq_false]
  refine ⟨l.getD k default, ?_, by rw [hf]; simp⟩
  simp [List.getD, h]
theorem all_go {l : List Vl} {k : Nat} (h : k < l.length) (ha : (l.take k).all Vl.good = true) (hf : (l.getD k default).good = true) : (l.take (k + 1)).all Vl.good = true := by
  rw [List.take_succ_eq_append_getElem h, List.all_append, ha]
  simp only [List.getD, List.getElem?_eq_getElem h, Option.getD_some] at hf
  simp [hf]

set_option maxHeartbeats 400000 in
theorem goodRow_any (a : Option Addr) (cap : Nat) (l : List Vl) (w : World) (h : RowAt w a l) :
    Calls Tryd.prog 15 #[.slice a l.length cap] w fun e w' => e = .returned (.bool (l.all Vl.good)) ∧ Below w.heap.size w w' := by
  have hm := h.1
  have H := Lib.hid h
  clear h
  generalize hlen : l.length = len at *
  have Hlen := Lib.hid hlen
  clear hlen
  go_enter Tryd.func15, Tryd.ntmps15
  go_wp2
  go_loopw [6] (fun i wr => ∃ k : Nat, k ≤ len ∧ i = .int .i64 k ∧ Hid ((l.take k).all Vl.good = true) ∧ Below w.heap.size w wr) (fun i _ => len - (intOf i).toNat)
  case atStart => exact ⟨0, Nat.zero_le _, rfl, rfl, Below.refl _ _⟩
  case round =>
    obtain ⟨k, hk, rfl, hall, hbl⟩ := hrel
    by_cases hlt : k < len
    · obtain ⟨b, off, rfl, hbs, c0, c1, c2⟩ := (H.out.keep hbl).at (i := k) (by rw [Hlen.out]; exact hlt)
      generalize hx : l.getD k default = x at *
      have Hx := Lib.hid hx
      clear hx
      cases hg : x.good
      · have Hg := Lib.hid hg
        clear hg
        have HC : Hid (∀ w, Calls Tryd.prog 12 #[.agg #[.int .i64 x.k, .int .i64 x.n, .string x.s]] w fun e w' => e = .returned (.bool false) ∧ Below w.heap.size w w') := Lib.hid fun w => Hg.out ▸ refGood_any x.k x.n x.s w
        go_wp2_with fail
        refine (HC.out _).mono ?_
        rintro e w1 ⟨rfl, hb⟩
        go_wp2_with fail
        go_ret
        exact ⟨ret_bool (all_stop (by rw [Hlen.out]; exact hlt) (by rw [Hx.out]; exact Hg.out)).symm, hbl.trans (hb.mono hbl.size)⟩
      · have Hg := Lib.hid hg
        clear hg
        have HC : Hid (∀ w, Calls Tryd.prog 12 #[.agg #[.int .i64 x.k, .int .i64 x.n, .string x.s]] w fun e w' => e = .returned (.bool true) ∧ Below w.heap.size w w') := Lib.hid fun w => Hg.out ▸ refGood_any x.k x.n x.s w
        go_wp2_with fail
        refine (HC.out _).mono ?_
        rintro e w1 ⟨rfl, hb⟩
        go_wp2_with fail
        go_roundw
        case rel => exact ⟨k + 1, by omega, by go_num, all_go (by rw [Hlen.out]; exact hlt) hall.out (by rw [Hx.out]; exact Hg.out), hbl.trans (hb.mono hbl.size)⟩
        case measure => simp [intOf]; omega
    · obtain rfl : k = len := by omega
      go_wp2
      go_ret
      exact ⟨ret_bool (by have := hall.out; rw [List.take_of_length_le (by rw [Hlen.out]; exact Nat.le_refl _)] at this; exact this.symm), hbl⟩

/-- The order of two rows. -/
def rowsOrd : List Vl → List Vl → Int
  | [], [] => 0
  | [], _ :: _ => -1
  | _ :: _, [] => 1
  | x :: l, y :: m => if x.ord y ≠ 0 then x.ord y else rowsOrd l m
theorem drop_getD {l : List Vl} {k : Nat} (h : k < l.length) : l.drop k = l.getD k default :: l.drop (k + 1) := by
  rw [List.drop_eq_getElem_cons h]; simp [List.getD, h]
theorem ro_step {l m : List Vl} {k : Nat} (h : k < l.length) (h' : k < m.length) : rowsOrd (l.drop k) (m.drop k) = if (l.getD k default).ord (m.getD k default) ≠ 0 then (l.getD k default).ord (m.getD k default) else rowsOrd (l.drop (k + 1)) (m.drop (k + 1)) := by
  rw [drop_getD h, drop_getD h']; rfl
theorem ro_end {l m : List Vl} {k : Nat} (h : ¬ (k < l.length ∧ k < m.length)) (hk : k ≤ l.length) (hk' : k ≤ m.length) : rowsOrd (l.drop k) (m.drop k) = cmp3 (l.length : Int) (m.length : Int) := by
  unfold cmp3
  by_cases h1 : k < l.length
  · rw [drop_getD h1, List.drop_of_length_le (l := m) (by omega), if_neg (by omega), if_pos (by omega)]; rfl
  · by_cases h2 : k < m.length
    · rw [drop_getD h2, List.drop_of_length_le (l := l) (by omega), if_pos (by omega)]; rfl
    · rw [List.drop_of_length_le (l := l) (by omega), List.drop_of_length_le (l := m) (by omega), if_neg (by omega), if_neg (by omega)]; rfl
theorem Vl.ord_zero {x y : Vl} : x.ord y = 0 ↔ x = y := by
  unfold Vl.ord
  rw [ordC_zero]
  cases x; cases y; simp
theorem ro_range : ∀ l m : List Vl, -1 ≤ rowsOrd l m ∧ rowsOrd l m ≤ 1
  | [], [] => by simp [rowsOrd]
  | [], _ :: _ => by simp [rowsOrd]
  | _ :: _, [] => by simp [rowsOrd]
  | x :: l, y :: m => by
    have ih := ro_range l m
    have h := ordC_range x.k x.n x.s y.k y.n y.s
    simp only [rowsOrd]
    split
    · exact h
    · exact ih
theorem ro_turn : ∀ l m : List Vl, rowsOrd m l = - rowsOrd l m
  | [], [] => by simp [rowsOrd]
  | [], _ :: _ => by simp [rowsOrd]
  | _ :: _, [] => by simp [rowsOrd]
  | x :: l, y :: m => by
    have ih := ro_turn l m
    have h : y.ord x = - x.ord y := ordC_turn x.k x.n x.s y.k y.n y.s
    simp only [rowsOrd]
    rw [h, ih]
    by_cases hz : x.ord y = 0
    · rw [if_neg (by omega), if_neg (by omega)]
    · rw [if_pos (by omega), if_pos hz]
theorem ro_zero : ∀ l m : List Vl, rowsOrd l m = 0 ↔ l = m
  | [], [] => by simp [rowsOrd]
  | [], _ :: _ => by simp [rowsOrd]
  | _ :: _, [] => by simp [rowsOrd]
  | x :: l, y :: m => by
    have ih := ro_zero l m
    simp only [rowsOrd, List.cons.injEq]
    by_cases hz : x.ord y = 0
    · rw [if_neg (by omega), ih, Vl.ord_zero.1 hz]; simp
    · rw [if_pos hz]
      exact ⟨fun h => absurd h hz, fun h => absurd (Vl.ord_zero.2 h.1) hz⟩
end Go.Proofs.YthdofhicccabiaaDoor
