/- Rows of good values: their bytes; contracts of the program's addRow and Row, and of the document's Row. -/
import Derived.Test.YtnfpomjcofhppaaDoorValN
namespace Go.Proofs.YtnfpomjcofhppaaDoor
open Go.RowKit

/-- A value by its three cells. -/
structure Vl where
  k : Int
  n : Int
  s : ByteArray
instance : Inhabited Vl := ⟨⟨0, 0, ⟨#[]⟩⟩⟩
def Vl.good (x : Vl) : Bool := goodB x.k x.n x.s
def Vl.bytes (x : Vl) : List UInt8 := valB x.k x.n x.s
/-- A row's bytes. -/
def rowB (l : List Vl) : List UInt8 := numB l.length ++ l.flatMap Vl.bytes
/-- Values that lie in memory have ints of 64 bits. -/
def Vl.fits (x : Vl) : Prop := x.s.size ≤ maxLen ∧ -9223372036854775808 ≤ x.n ∧ x.n ≤ 9223372036854775807

/-- The slice at a of values reads as l in w: nil and empty, or a row of cells below B. -/
def RowLow (B : Nat) (w : World) (a : Option Addr) (l : List Vl) : Prop :=
  l.length ≤ 9223372036854775807 ∧ (∀ x ∈ l, x.fits) ∧ (l = [] ∨ ∃ b off, a = some ⟨b, off, none⟩ ∧ b < B ∧ ∀ i, i < l.length → w.cell? ⟨b, off + i * 3, none⟩ = some (.int .i64 (l.getD i default).k) ∧ w.cell? ⟨b, off + i * 3 + 1, none⟩ = some (.int .i64 (l.getD i default).n) ∧ w.cell? ⟨b, off + i * 3 + 2, none⟩ = some (.string (l.getD i default).s))
theorem RowLow.keep {B : Nat} {w w' : World} {a : Option Addr} {l : List Vl} (h : RowLow B w a l) (hb : Below B w w') : RowLow B w' a l := by
  obtain ⟨h1, h2, h3⟩ := h
  refine ⟨h1, h2, ?_⟩
  rcases h3 with h3 | ⟨b, off, e, hlt, hc⟩
  · exact .inl h3
  · exact .inr ⟨b, off, e, hlt, fun i hi => ⟨(hb.cell (p := ⟨b, _, none⟩) hlt).trans (hc i hi).1, (hb.cell (p := ⟨b, _, none⟩) hlt).trans (hc i hi).2.1, (hb.cell (p := ⟨b, _, none⟩) hlt).trans (hc i hi).2.2⟩⟩
theorem RowLow.mono {B B' : Nat} {w : World} {a : Option Addr} {l : List Vl} (h : RowLow B w a l) (hb : B ≤ B') : RowLow B' w a l := by
  obtain ⟨h1, h2, h3⟩ := h
  refine ⟨h1, h2, ?_⟩
  rcases h3 with h3 | ⟨b, off, e, hlt, hc⟩
  · exact .inl h3
  · exact .inr ⟨b, off, e, by omega, hc⟩
theorem RowLow.at {B : Nat} {w : World} {a : Option Addr} {l : List Vl} (h : RowLow B w a l) {i : Nat} (hi : i < l.length) : ∃ b off, a = some ⟨b, off, none⟩ ∧ b < B ∧ w.cell? ⟨b, off + i * 3, none⟩ = some (.int .i64 (l.getD i default).k) ∧ w.cell? ⟨b, off + i * 3 + 1, none⟩ = some (.int .i64 (l.getD i default).n) ∧ w.cell? ⟨b, off + i * 3 + 2, none⟩ = some (.string (l.getD i default).s) := by
  rcases h.2.2 with h3 | ⟨b, off, e, hlt, hc⟩
  · rw [h3] at hi; simp at hi
  · exact ⟨b, off, e, hlt, hc i hi⟩
theorem getD_mem {l : List Vl} {i : Nat} (hi : i < l.length) : l.getD i default ∈ l := by simp [List.getD, hi]
theorem take_flat {l : List Vl} {i : Nat} (hi : i < l.length) : (l.take (i + 1)).flatMap Vl.bytes = (l.take i).flatMap Vl.bytes ++ (l.getD i default).bytes := by
  rw [List.take_succ_eq_append_getElem hi, List.flatMap_append]; simp [List.getD, hi]
theorem valB_len {x : Vl} (h : x.good = true) (hf : x.fits) : 1 ≤ x.bytes.length ∧ x.bytes.length ≤ 71 := by
  unfold Vl.good goodB at h
  unfold Vl.bytes valB
  have hz := numB_10 (zig_lt hf.2.1 hf.2.2)
  by_cases k1 : x.k = 1
  · rw [if_pos k1]; simp
  · rw [if_neg k1]
    by_cases k2 : x.k = 2
    · rw [if_pos k2, List.length_cons]; omega
    · rw [if_neg k2]
      by_cases k3 : x.k = 3
      · rw [if_pos k3, List.length_cons]
        rw [if_neg (by omega), if_neg k1, if_neg k2, if_pos k3] at h
        simp at h
        unfold strB
        rw [List.length_append, size_list]
        have := numB_10 (n := x.s.size) (by omega)
        omega
      · rw [if_neg k3]; simp

/-- One value more: what the callee answers. -/
theorem step_value {B : Nat} {v : Value} {l : List UInt8} {x : Vl} {w : World} (hg : x.good = true) (hf : x.fits) (ho : OwnB B w v l) (hB : B ≤ w.heap.size) (hl : l.length ≤ 90000000) :
    Calls Tryd.prog 21 #[v, .agg #[.int .i64 x.k, .int .i64 x.n, .string x.s]] w (Adds B w (l ++ x.bytes)) := addValue_any B v l x.k x.n x.s w hg hf.2.1 hf.2.2 ho hB hl

set_option maxRecDepth 100000 in
set_option maxHeartbeats 3200000 in
theorem addRow_any (B : Nat) (v : Value) (l0 : List UInt8) (a : Option Addr) (cap : Nat) (l : List Vl) (w : World) (h : RowLow B w a l) (hg : ∀ x ∈ l, x.good = true) (h255 : l.length ≤ 255) (ho : OwnB B w v l0) (hB : B ≤ w.heap.size) (hl : l0.length ≤ 50000000) :
    Calls Tryd.prog 20 #[v, .slice a l.length cap] w (Adds B w (l0 ++ rowB l)) := by
  have H := Lib.hid h
  have HG := Lib.hid hg
  have HF := Lib.hid h.2.1
  have HN := Lib.hid (fun w ho hB => addNumber_any B v l0 l.length w ho hB (by omega) (by omega))
  have hlen : (l0 ++ numB l.length).length ≤ 50000010 := by rw [List.length_append]; have := (numB_10 (n := l.length) (by omega)).2; omega
  have hr : l0 ++ rowB l = (l0 ++ numB l.length) ++ l.flatMap Vl.bytes := by unfold rowB; simp
  rw [hr]
  clear hr h hg
  generalize l0 ++ numB l.length = r at *
  generalize hlen2 : l.length = len at *
  have Hlen := Lib.hid hlen2
  have O0 := Lib.hid ho
  clear hlen2 ho
  go_enter Tryd.func20, Tryd.ntmps20
  go_wp2_with fail
  refine (HN.out _ O0.out hB).mono ?_
  rintro e w1 ⟨v1, rfl, ho1, hb1⟩
  have O1 := Lib.hid ho1
  have K1 := Lib.hid hb1
  clear ho1 hb1
  go_wp2_with fail
  go_loopw [0, 14] (fun v i wr => ∃ (k : Nat) (cur : List UInt8), k ≤ len ∧ i = .int .i64 k ∧ cur.length ≤ 50000010 + 71 * k ∧ Hid (cur = r ++ (l.take k).flatMap Vl.bytes) ∧ Hid (OwnB B wr v cur) ∧ Hid (Below B w wr)) (fun _ i _ => len - (intOf i).toNat)
  case atStart => exact ⟨0, r, Nat.zero_le _, rfl, by omega, Lib.hid (by simp), O1, K1⟩
  case round =>
    obtain ⟨k, cur, hk, rfl, hcl, E, O, K⟩ := hrel
    have Kz : B ≤ wr.heap.size := Nat.le_trans hB K.out.size
    by_cases hlt : k < len
    · obtain ⟨b, off, rfl, hbs, c0, c1, c2⟩ := (H.out.keep K.out).at (i := k) (by rw [Hlen.out]; exact hlt)
      have E2 : Hid (cur ++ (l.getD k default).bytes = r ++ (l.take (k + 1)).flatMap Vl.bytes) := Lib.hid (by rw [E.out, take_flat (by rw [Hlen.out]; exact hlt)]; simp)
      have hxg := HG.out _ (getD_mem (l := l) (i := k) (by rw [Hlen.out]; exact hlt))
      have hxf := HF.out _ (getD_mem (l := l) (i := k) (by rw [Hlen.out]; exact hlt))
      generalize l.getD k default = x at *
      have hvl := (valB_len hxg hxf).2
      have HV := Lib.hid (fun w' (ho : OwnB B w' u0 cur) (hB : B ≤ w'.heap.size) => step_value hxg hxf ho hB (by omega))
      clear hxg hxf
      go_wp2_with fail
      refine (HV.out _ (O.out.alloc _) (by simp; omega)).mono ?_
      rintro e w2 ⟨v2, rfl, ho2, hb2⟩
      have O2 := Lib.hid ho2
      have K2 := Lib.hid ((K.out.alloc Kz _).trans hb2)
      clear ho2 hb2
      go_wp2_with fail
      go_roundw
      case rel => exact ⟨k + 1, _, by omega, by go_num, by rw [List.length_append]; omega, E2, O2, K2⟩
      case measure => simp [intOf]; omega
    · obtain rfl : k = len := by omega
      go_wp2_with fail
      go_ret
      refine ⟨_, rfl, ?_, K.out⟩
      have := O.out
      rw [E.out, List.take_of_length_le (by rw [Hlen.out]; exact Nat.le_refl _)] at this
      exact this

theorem row_any (a : Option Addr) (cap : Nat) (l : List Vl) (w : World) (h : RowLow w.heap.size w a l) (hg : ∀ x ∈ l, x.good = true) (h255 : l.length ≤ 255) :
    Calls Tryd.prog 11 #[.slice a l.length cap] w (Adds w.heap.size w (rowB l)) := by
  have H := Lib.hid (addRow_any w.heap.size (.slice none 0 0) [] a cap l w h hg h255 (OwnB.nil _ _) (Nat.le_refl _) (by simp))
  simp only [List.nil_append] at H
  clear h hg
  go_enter Tryd.func11, Tryd.ntmps11
  go_wp2_with fail
  refine H.out.mono ?_
  rintro e w' ⟨v, rfl, ho, hb⟩
  go_wp2_with fail
  go_ret
  exact ⟨_, rfl, ho, hb⟩

end Go.Proofs.YtnfpomjcofhppaaDoor
