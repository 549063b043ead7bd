/- The contract of codec's Rows by how many bytes come. -/
import Derived.Test.YtnfpomjcofhppaaDoorRows4
import Derived.Test.YtnfpomjcofhppaaDoorReadM
namespace Go.Proofs.YtnfpomjcofhppaaDoor
open Go.RowKit

theorem flat_le {ls : List Rw} {k : Nat} : ((ls.take k).flatMap Rw.bytes).length ≤ (ls.flatMap Rw.bytes).length := by
  have := congrArg List.length (congrArg (List.flatMap Rw.bytes) (List.take_append_drop k ls))
  rw [List.flatMap_append, List.length_append] at this
  omega
set_option maxRecDepth 100000 in
set_option maxHeartbeats 3200000 in
theorem rowsW_any (a : Option Addr) (cap : Nat) (ls : List Rw) (w : World) (h : RowsLow w.heap.size w a ls) (hg : ls.all Rw.okR = true) (hb : (rowsB ls).length ≤ 40000000) (hn : ls.length < 18446744073709551616) :
    Calls Tryd.prog 8 #[.slice a ls.length cap] w (Adds w.heap.size w (rowsB ls)) := by
  have hm := h.1
  have H := Lib.hid h
  have HG := Lib.hid (List.all_eq_true.1 hg)
  have HN := Lib.hid (fun w0 hB => addNumber_any w.heap.size (.slice none 0 0) [] ls.length w0 (OwnB.nil _ _) hB (by simp) hn)
  simp only [List.nil_append] at HN
  have HT := Lib.hid (fun k => (show ((numB ls.length) ++ (ls.take k).flatMap Rw.bytes).length ≤ 40000000 from by rw [List.length_append]; unfold rowsB at hb; rw [List.length_append] at hb; have := flat_le (ls := ls) (k := k); omega))
  have hr : rowsB ls = numB ls.length ++ ls.flatMap Rw.bytes := rfl
  rw [hr]
  clear hr h hg hb
  generalize numB ls.length = r at *
  generalize hlen2 : ls.length = len at *
  have Hlen := Lib.hid hlen2
  clear hlen2 hn
  go_enter Tryd.func8, Tryd.ntmps8
  go_wp2_with fail
  refine (HN.out _ (Nat.le_refl _)).mono ?_
  rintro e w1 ⟨v1, rfl, ho1, hb1⟩
  have O1 := Lib.hid ho1
  have K1 := Lib.hid hb1
  clear ho1 hb1
  go_wp2_with fail
  go_loopw [3, 12] (fun v i wr => ∃ (k : Nat) (cur : List UInt8), k ≤ len ∧ i = .int .i64 k ∧ cur.length ≤ 40000000 ∧ Hid (cur = r ++ (ls.take k).flatMap Rw.bytes) ∧ Hid (OwnB w.heap.size wr v cur) ∧ Hid (Below w.heap.size w wr)) (fun _ i _ => len - (intOf i).toNat)
  case atStart => exact ⟨0, r, Nat.zero_le _, rfl, by simpa using HT.out 0, Lib.hid (by simp), O1, K1⟩
  case round =>
    obtain ⟨k, cur, hk, rfl, hcl, E, O, K⟩ := hrel
    have Kz : w.heap.size ≤ wr.heap.size := K.out.size
    by_cases hlt : k < len
    · obtain ⟨b, off, rfl, hbs, c0⟩ := (H.out.keep K.out).at (i := k) (by rw [Hlen.out]; exact hlt)
      have E2 : Hid (cur ++ (ls.getD k default).bytes = r ++ (ls.take (k + 1)).flatMap Rw.bytes) := Lib.hid (by rw [E.out, rw_take (by rw [Hlen.out]; exact hlt)]; simp)
      have HR := Lib.hid ((H.out.keep K.out).2.1 _ (rw_mem (ls := ls) (i := k) (by rw [Hlen.out]; exact hlt)))
      have HK := Lib.hid (HG.out _ (rw_mem (ls := ls) (i := k) (by rw [Hlen.out]; exact hlt)))
      generalize ls.getD k default = x at *
      obtain ⟨ra, rc, rl⟩ := x
      simp only at HR c0
      obtain ⟨gl, l255⟩ := okR_good HK.out
      have HV := Lib.hid (addRow_any w.heap.size u3 cur ra rc rl wr HR.out gl l255 O.out Kz (by omega))
      have E3 : Hid (cur ++ rowB rl = r ++ (ls.take (k + 1)).flatMap Rw.bytes) := Lib.hid E2.out
      have hcn : (cur ++ rowB rl).length ≤ 40000000 := by rw [E3.out]; exact HT.out (k + 1)
      clear gl l255 E2 HR HK
      generalize rowB rl = xs at *
      generalize rl.length = n at *
      go_wp2_with fail
      refine HV.out.mono ?_
      rintro e w2 ⟨v2, rfl, ho2, hb2⟩
      have O2 := Lib.hid ho2
      have K2 := Lib.hid (K.out.trans hb2)
      clear ho2 hb2
      go_wp2_with fail
      go_roundw
      case rel => exact ⟨k + 1, _, by omega, by go_num, hcn, E3, O2, K2⟩
      case measure => simp [intOf]; omega
    · obtain rfl : k = len := by omega
      go_wp2_with fail
      go_ret
      refine ⟨_, rfl, ?_, K.out⟩
      have := O.out
      rw [E.out, List.take_of_length_le (by rw [Hlen.out]; exact Nat.le_refl _)] at this
      exact this
theorem rowsB_L {rws : List Rw} {ls : List (List Vl)} (h : rws.map Rw.l = ls) : rowsB rws = rowsL ls := by
  unfold rowsB rowsL
  subst h
  rw [List.length_map, List.flatMap_map]
  rfl
end Go.Proofs.YtnfpomjcofhppaaDoor
