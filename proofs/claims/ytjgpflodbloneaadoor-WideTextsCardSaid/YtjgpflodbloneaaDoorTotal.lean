/- The contract of the program's Total. -/
import Derived.Test.YtjgpflodbloneaaDoorCmpInt
import Derived.Deep.RegionWith
namespace Go.Proofs.YtjgpflodbloneaaDoor
open Go.RowKit

/-- A list's sum, as 128 bits. -/
def sumL (l : List Int) : BitVec 128 := BitVec.ofInt 128 l.sum
theorem sum_snoc (l : List Int) (n : Int) : sumL (l ++ [n]) = sumL l + BitVec.ofInt 128 n := by
  unfold sumL
  rw [List.sum_append, BitVec.ofInt_add]
  simp
/-- A slice of ints in memory. -/
def IntsAt (w : World) (a : Option Addr) (l : List Int) : Prop :=
  l.length ≤ 9223372036854775807 ∧ (l = [] ∨ ∃ b off, a = some ⟨b, off, none⟩ ∧ b < w.heap.size ∧ ∀ i, i < l.length → w.cell? ⟨b, off + i, none⟩ = some (.int .i64 (l.getD i 0)))
theorem IntsAt.keep {w w' : World} {a : Option Addr} {l : List Int} (h : IntsAt w a l) (hb : Below w.heap.size w w') : IntsAt w' a l := by
  obtain ⟨h1, h3⟩ := h
  refine ⟨h1, ?_⟩
  rcases h3 with h3 | ⟨b, off, e, hlt, hc⟩
  · exact .inl h3
  · have := hb.size
    exact .inr ⟨b, off, e, by omega, fun i hi => (hb.cell (p := ⟨b, _, none⟩) hlt).trans (hc i hi)⟩
theorem IntsAt.at {w : World} {a : Option Addr} {l : List Int} (h : IntsAt w a l) {i : Nat} (hi : i < l.length) : ∃ b off, a = some ⟨b, off, none⟩ ∧ b < w.heap.size ∧ w.cell? ⟨b, off + i, none⟩ = some (.int .i64 (l.getD i 0)) := by
  rcases h.2 with h3 | ⟨b, off, e, hlt, hc⟩
  · rw [h3] at hi; simp at hi
  · exact ⟨b, off, e, hlt, hc i hi⟩
theorem take_getD {l : List Int} {i : Nat} (h : i < l.length) : l.take (i + 1) = l.take i ++ [l.getD i 0] := by
  rw [List.take_succ_eq_append_getElem h]; simp [List.getD, h]
/-- Ints of 64 bits, all of them. -/
def ints64 (l : List Int) : Prop := ∀ n ∈ l, -9223372036854775808 ≤ n ∧ n ≤ 9223372036854775807
theorem ints64.at {l : List Int} (h : ints64 l) {i : Nat} (hi : i < l.length) : -9223372036854775808 ≤ l.getD i 0 ∧ l.getD i 0 ≤ 9223372036854775807 :=
  h _ (by simp [List.getD, hi])

/-- A block of memory is such a sum. -/
def BSum (w : World) (g : Nat) (h : Int) (l : Nat) : Prop := w.heap[g]? = some (.cells #[.int .i64 h, .int .u64 l] 24 (0, 0))
theorem BSum.c0 {w : World} {g : Nat} {h : Int} {l : Nat} (H : BSum w g h l) : w.cell? ⟨g, 0, none⟩ = some (.int .i64 h) := cell_of_row w g 0 _ _ _ H
theorem BSum.c1 {w : World} {g : Nat} {h : Int} {l : Nat} (H : BSum w g h l) : w.cell? ⟨g, 1, none⟩ = some (.int .u64 l) := cell_of_row w g 1 _ _ _ H
theorem BSum.fr {w : World} {g : Nat} {h : Int} {l : Nat} (H : BSum w g h l) (i : Nat) : w.frozen? ⟨g, i, none⟩ = false := frozen_of_row w g i _ _ H
theorem BSum.lt {w : World} {g : Nat} {h : Int} {l : Nat} (H : BSum w g h l) : g < w.heap.size := block_lt_of_cell H.c0
theorem BSum.keep {w w' : World} {g : Nat} {h : Int} {l : Nat} (H : BSum w g h l) (hb : Below w.heap.size w w') : BSum w' g h l := (hb.block g H.lt).trans H
theorem BSum.set {w : World} {g : Nat} {h : Int} {l : Nat} (H : BSum w g h l) (h' : Int) (l' : Nat) : BSum ((w.setCell ⟨g, 0, none⟩ (.int .i64 h')).setCell ⟨g, 1, none⟩ (.int .u64 l')) g h' l' := by
  have a := heap_setCell_same w g 0 _ _ (.int .i64 h') H
  have b := heap_setCell_same _ g 1 _ _ (.int .u64 l') a
  exact b
theorem BSum.set_other {w : World} {g g' : Nat} {h : Int} {l : Nat} (H : BSum w g h l) (hn : g ≠ g') (i : Nat) (v : Value) : BSum (w.setCell ⟨g', i, none⟩ v) g h l := by
  unfold BSum
  rw [heap_setCell_other w _ g v hn]; exact H
/-- What a round of Total knows. -/
def Tot (w wr : World) (h : Int) (l : Nat) : Prop := Below w.heap.size w wr ∧ w.heap.size + 2 ≤ wr.heap.size ∧ BSum wr w.heap.size 0 0 ∧ BSum wr (w.heap.size + 1) h l
theorem startT (w : World) : Tot w ((w.alloc (.cells #[.int .i64 0, .int .u64 0] 24)).alloc (.cells #[.int .i64 0, .int .u64 0] 24)) 0 0 :=
  ⟨((Below.refl _ _).alloc (Nat.le_refl _) _).alloc (by simp) _, by simp, heap_alloc2_old _ _ _, heap_alloc2_new _ _ _⟩
theorem Tot.keep {w wr w2 : World} {h : Int} {l : Nat} (H : Tot w wr h l) (hb : Below wr.heap.size wr w2) : Tot w w2 h l :=
  ⟨H.1.trans (hb.mono (by have := H.2.1; omega)), by have := H.2.1; have := hb.size; omega, H.2.2.1.keep hb, H.2.2.2.keep hb⟩
theorem Tot.set {w wr : World} {h : Int} {l : Nat} (H : Tot w wr h l) (h' : Int) (l' : Nat) : Tot w ((wr.setCell ⟨w.heap.size + 1, 0, none⟩ (.int .i64 h')).setCell ⟨w.heap.size + 1, 1, none⟩ (.int .u64 l')) h' l' :=
  ⟨(H.1.setCell (by show w.heap.size ≤ w.heap.size + 1; omega) _).setCell (by show w.heap.size ≤ w.heap.size + 1; omega) _, by simpa using H.2.1, (H.2.2.1.set_other (by omega) _ _).set_other (by omega) _ _, H.2.2.2.set h' l'⟩

/-- One more: what the callees answer, by letters. -/
theorem step_sum {h : Int} {l : Nat} {x : BitVec 128} (n : Int) (n0 : -9223372036854775808 ≤ n) (n1 : n ≤ 9223372036854775807) (e : h = hiB x ∧ l = loB x) :
    ∃ (a : Int) (b : Nat) (h2 : Int) (l2 : Nat), Hid (h2 = hiB (x + BitVec.ofInt 128 n) ∧ l2 = loB (x + BitVec.ofInt 128 n))
      ∧ Hid (∀ w, Calls Tryd.prog 35 #[.int .i64 n] w fun e w' => e = .returned (.agg #[.int .i64 a, .int .u64 b]) ∧ Below w.heap.size w w')
      ∧ Hid (∀ w, Calls Tryd.prog 36 #[.agg #[.int .i64 h, .int .u64 l], .agg #[.int .i64 a, .int .u64 b]] w fun e w' => e = .returned (.agg #[.int .i64 h2, .int .u64 l2]) ∧ Below w.heap.size w w') := by
  obtain ⟨rfl, rfl⟩ := e
  exact ⟨_, _, _, _, Lib.hid ⟨rfl, rfl⟩, Lib.hid fun w => of_any n w n0 n1, Lib.hid fun w => add_any x (BitVec.ofInt 128 n) w⟩

set_option maxHeartbeats 1600000 in
theorem total_any (a : Option Addr) (cap : Nat) (l : List Int) (w : World) (h : IntsAt w a l) (hl : ints64 l) :
    Calls Tryd.prog 17 #[.slice a l.length cap] w fun e w' => e = .returned (.agg #[.int .i64 (hiB (sumL l)), .int .u64 (loB (sumL l))]) ∧ Below w.heap.size w w' := by
  have hm := h.1
  have H := Lib.hid h
  have HL := Lib.hid hl
  clear h hl
  obtain ⟨rh, rl, HR⟩ : ∃ (rh : Int) (rl : Nat), Hid (rh = hiB (sumL l) ∧ rl = loB (sumL l)) := ⟨_, _, Lib.hid ⟨rfl, rfl⟩⟩
  rw [← HR.out.1, ← HR.out.2]
  generalize hlen : l.length = len at *
  have Hlen := Lib.hid hlen
  clear hlen
  go_enter Tryd.func17, Tryd.ntmps17
  go_wp2_with fail
  go_loopw [8] (fun i wr => ∃ (k : Nat) (h : Int) (u : Nat), k ≤ len ∧ i = .int .i64 k ∧ Hid (h = hiB (sumL (l.take k)) ∧ u = loB (sumL (l.take k))) ∧ Hid (Tot w wr h u)) (fun i _ => len - (intOf i).toNat)
  case atStart => exact ⟨0, 0, 0, Nat.zero_le _, rfl, Lib.hid (by simp [sumL]; decide), Lib.hid (startT w)⟩
  case round =>
    obtain ⟨k, h, u, hk, rfl, E, K⟩ := hrel
    by_cases hlt : k < len
    · obtain ⟨b, off, rfl, hbs, c0⟩ := (H.out.keep K.out.1).at (i := k) (by rw [Hlen.out]; exact hlt)
      obtain ⟨n0, n1⟩ := HL.out.at (i := k) (by rw [Hlen.out]; exact hlt)
      obtain ⟨n, hn⟩ : ∃ n, n = l.getD k 0 := ⟨_, rfl⟩
      rw [← hn] at c0 n0 n1
      have Hn := Lib.hid hn
      clear hn
      obtain ⟨p, q, h2, u2, E2, HO, HA⟩ := step_sum n n0 n1 E.out
      have E3 : Hid (h2 = hiB (sumL (l.take (k + 1))) ∧ u2 = loB (sumL (l.take (k + 1)))) := Lib.hid (by
        rw [take_getD (by rw [Hlen.out]; exact hlt), ← Hn.out, sum_snoc]; exact E2.out)
      have d0 := K.out.2.2.2.c0
      have d1 := K.out.2.2.2.c1
      go_wp2_with fail
      go_region_with (first | (go_at_call 35; refine (HO.out _).mono ?_; rintro e w1 ⟨rfl, hb1⟩; have K1 := Lib.hid (K.out.keep ((Below.refl _ _).drew.trans hb1)); have d2 := K1.out.2.2.2.c0; have d3 := K1.out.2.2.2.c1) | (go_at_call 36; refine (HA.out _).mono ?_; rintro e w2 ⟨rfl, hb2⟩; have K2 := Lib.hid (K1.out.keep hb2); have d4 := K2.out.2.2.2.c0; have d5 := K2.out.2.2.2.c1; have f4 := K2.out.2.2.2.fr 0; have f5 := K2.out.2.2.2.fr 1))
      all_goals
        go_wp2_with fail
        go_roundw
        case rel => exact ⟨k + 1, h2, u2, by omega, by go_num, E3, Lib.hid (K2.out.set h2 u2)⟩
        case measure => simp [intOf]; omega
    · obtain rfl : k = len := by omega
      have EE : rh = h ∧ rl = u := by
        rw [HR.out.1, HR.out.2, E.out.1, E.out.2, List.take_of_length_le (by rw [Hlen.out]; exact Nat.le_refl _)]
        exact ⟨rfl, rfl⟩
      obtain ⟨rfl, rfl⟩ := EE
      have d0 := K.out.2.2.2.c0
      have d1 := K.out.2.2.2.c1
      have d2 := K.out.2.2.1.c0
      have d3 := K.out.2.2.1.c1
      have f2 := K.out.2.2.1.fr 0
      have f3 := K.out.2.2.1.fr 1
      go_wp2_with fail
      have R := K.out.2.2.1.set rh rl
      have r0 := R.c0
      have r1 := R.c1
      exact bodyPost_ret (v := .agg #[.int .i64 rh, .int .u64 rl]) (by simp [results, Tryd.results17, go_sem, r0, r1]) rfl ⟨rfl, (K.out.1.setCell (Nat.le_refl _) _).setCell (Nat.le_refl _) _⟩
end Go.Proofs.YtjgpflodbloneaaDoor
