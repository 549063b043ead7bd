/- Lists of rows: their bytes; contracts of the program's and the document's Rows, and of the program's Value. -/
import Derived.Test.YtnfpomjcofhppaaDoorGood4
namespace Go.Proofs.YtnfpomjcofhppaaDoor
open Go.RowKit

def Rw.bytes (r : Rw) : List UInt8 := rowB r.l
/-- The bytes of rows. -/
def rowsB (ls : List Rw) : List UInt8 := numB ls.length ++ ls.flatMap Rw.bytes
theorem flat_len : ∀ {l : List Vl}, (∀ x ∈ l, x.good = true) → (∀ x ∈ l, x.fits) → (l.flatMap Vl.bytes).length ≤ 71 * l.length
  | [], _, _ => by simp
  | x :: l, g, f => by
    have h1 := valB_len (g x (by simp)) (f x (by simp))
    have h2 := flat_len (l := l) (fun z hz => g z (by simp [hz])) (fun z hz => f z (by simp [hz]))
    rw [List.flatMap_cons, List.length_append, List.length_cons]
    omega
theorem rowB_len {l : List Vl} (g : ∀ x ∈ l, x.good = true) (f : ∀ x ∈ l, x.fits) (h : l.length ≤ 255) : 1 ≤ (rowB l).length ∧ (rowB l).length ≤ 20000 := by
  unfold rowB
  rw [List.length_append]
  have := numB_10 (n := l.length) (by omega)
  have := flat_len g f
  omega
theorem okR_good {l : List Vl} {a : Option Addr} {c : Nat} (h : (Rw.mk a c l).okR = true) : (∀ x ∈ l, x.good = true) ∧ l.length ≤ 255 := by
  unfold Rw.okR at h
  rw [Bool.and_eq_true, List.all_eq_true] at h
  exact ⟨h.2, of_decide_eq_true h.1⟩
theorem rw_take {ls : List Rw} {i : Nat} (hi : i < ls.length) : (ls.take (i + 1)).flatMap Rw.bytes = (ls.take i).flatMap Rw.bytes ++ (ls.getD i default).bytes := by
  rw [List.take_succ_eq_append_getElem hi, List.flatMap_append]; simp [List.getD, hi]

theorem value_any (x : Vl) (w : World) (hg : x.good = true) (hf : x.fits) :
    Calls Tryd.prog 9 #[.agg #[.int .i64 x.k, .int .i64 x.n, .string x.s]] w (Adds w.heap.size w x.bytes) := by
  have H := Lib.hid (fun (w : World) (B : Nat) (hB : B ≤ w.heap.size) => step_value (B := B) (w := w) hg hf (OwnB.nil _ _) hB (by simp))
  simp only [List.nil_append] at H
  clear hg hf
  go_enter Tryd.func9, Tryd.ntmps9
  go_wp2_with fail
  refine (H.out _ w.heap.size (by simp)).mono ?_
  rintro e w' ⟨v, rfl, ho, hb⟩
  go_wp2_with fail
  go_ret
  exact ⟨_, rfl, ho, ((Below.refl _ _).alloc (Nat.le_refl _) _).trans hb⟩

set_option maxRecDepth 100000 in
set_option maxHeartbeats 3200000 in
theorem rows_any (a : Option Addr) (cap : Nat) (ls : List Rw) (w : World) (h : RowsLow w.heap.size w a ls) (hg : ls.all Rw.okR = true) (h1000 : ls.length ≤ 1000) :
    Calls Tryd.prog 8 #[.slice a ls.length cap] w (Adds w.heap.size w (rowsB ls)) := by
  have H := Lib.hid h
  have HG := Lib.hid (List.all_eq_true.1 hg)
  have HN := Lib.hid (fun w0 hB => addNumber_any w.heap.size (.slice none 0 0) [] ls.length w0 (OwnB.nil _ _) hB (by simp) (by omega))
  simp only [List.nil_append] at HN
  have hlen : (numB ls.length).length ≤ 10 := (numB_10 (n := ls.length) (by omega)).2
  have hr : rowsB ls = numB ls.length ++ ls.flatMap Rw.bytes := rfl
  rw [hr]
  clear hr h hg
  generalize numB ls.length = r at *
  generalize hlen2 : ls.length = len at *
  have Hlen := Lib.hid hlen2
  clear hlen2
  go_enter Tryd.func8, Tryd.ntmps8
  go_wp2_with fail
  refine (HN.out _ (Nat.le_refl _)).mono ?_
  rintro e w1 ⟨v1, rfl, ho1, hb1⟩
  have O1 := Lib.hid ho1
  have K1 := Lib.hid hb1
  clear ho1 hb1
  go_wp2_with fail
  go_loopw [3, 12] (fun v i wr => ∃ (k : Nat) (cur : List UInt8), k ≤ len ∧ i = .int .i64 k ∧ cur.length ≤ 10 + 20000 * k ∧ Hid (cur = r ++ (ls.take k).flatMap Rw.bytes) ∧ Hid (OwnB w.heap.size wr v cur) ∧ Hid (Below w.heap.size w wr)) (fun _ i _ => len - (intOf i).toNat)
  case atStart => exact ⟨0, r, Nat.zero_le _, rfl, by omega, Lib.hid (by simp), O1, K1⟩
  case round =>
    obtain ⟨k, cur, hk, rfl, hcl, E, O, K⟩ := hrel
    have Kz : w.heap.size ≤ wr.heap.size := K.out.size
    by_cases hlt : k < len
    · obtain ⟨b, off, rfl, hbs, c0⟩ := (H.out.keep K.out).at (i := k) (by rw [Hlen.out]; exact hlt)
      have E2 : Hid (cur ++ (ls.getD k default).bytes = r ++ (ls.take (k + 1)).flatMap Rw.bytes) := Lib.hid (by rw [E.out, rw_take (by rw [Hlen.out]; exact hlt)]; simp)
      have HR := Lib.hid ((H.out.keep K.out).2.1 _ (rw_mem (ls := ls) (i := k) (by rw [Hlen.out]; exact hlt)))
      have HK := Lib.hid (HG.out _ (rw_mem (ls := ls) (i := k) (by rw [Hlen.out]; exact hlt)))
      generalize ls.getD k default = x at *
      obtain ⟨ra, rc, rl⟩ := x
      simp only at HR c0
      obtain ⟨gl, l255⟩ := okR_good HK.out
      have hbl := (rowB_len gl HR.out.2.1 l255).2
      have HV := Lib.hid (addRow_any w.heap.size u3 cur ra rc rl wr HR.out gl l255 O.out Kz (by omega))
      have E3 : Hid (cur ++ rowB rl = r ++ (ls.take (k + 1)).flatMap Rw.bytes) := Lib.hid E2.out
      clear gl l255 E2 HR HK
      generalize rowB rl = xs at *
      generalize rl.length = n at *
      go_wp2_with fail
      refine HV.out.mono ?_
      rintro e w2 ⟨v2, rfl, ho2, hb2⟩
      have O2 := Lib.hid ho2
      have K2 := Lib.hid (K.out.trans hb2)
      clear ho2 hb2
      go_wp2_with fail
      go_roundw
      case rel => exact ⟨k + 1, _, by omega, by go_num, by rw [List.length_append]; omega, E3, O2, K2⟩
      case measure => simp [intOf]; omega
    · obtain rfl : k = len := by omega
      go_wp2_with fail
      go_ret
      refine ⟨_, rfl, ?_, K.out⟩
      have := O.out
      rw [E.out, List.take_of_length_le (by rw [Hlen.out]; exact Nat.le_refl _)] at this
      exact this

end Go.Proofs.YtnfpomjcofhppaaDoor
