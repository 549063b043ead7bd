/- The contract of the document's SameRows. -/
import Derived.Test.YthdaibmminibhaaDoorReadX
import Derived.Deep.RegionHeld3
namespace Go.Proofs.YthdaibmminibhaaDoor
open Go.RowKit

def rwL (ls : List Rw) : List (List Vl) := ls.map Rw.l
theorem rwL_take {ls : List Rw} {k : Nat} (h : k < ls.length) : (rwL ls).take (k + 1) = (rwL ls).take k ++ [(ls.getD k default).l] := by
  unfold rwL
  rw [← List.map_take, ← List.map_take, List.take_succ_eq_append_getElem h, List.map_append]
  simp [List.getD, h]
theorem rwL_ne {ls ms : List Rw} {k : Nat} (h : k < ls.length) (h' : k < ms.length) (hne : ¬ (ls.getD k default).l = (ms.getD k default).l) : ¬ rwL ls = rwL ms := by
  intro e
  apply hne
  have := congrArg (fun x => x[k]?) e
  simpa [rwL, h, h', List.getD] using this
theorem cell_below {w w1 : World} {b o : Nat} {v : Value} (hb : Below w.heap.size w w1) (h : w.cell? ⟨b, o, none⟩ = some v) : w1.cell? ⟨b, o, none⟩ = some v := (hb.cell (p := ⟨b, o, none⟩) (block_lt_of_cell h)).trans h
set_option maxRecDepth 100000 in
set_option maxHeartbeats 1600000 in
theorem refSameRows_any (a a' : Option Addr) (cap cap' : Nat) (l m : List Rw) (w : World) (h : RowsLow w.heap.size w a l) (h' : RowsLow w.heap.size w a' m) :
    Calls Tryd.prog 29 #[.slice a l.length cap, .slice a' m.length cap'] w fun e w' => e = .returned (.bool (decide (rwL l = rwL m))) ∧ Below w.heap.size w w' := by
  by_cases hll : l.length = m.length
  · have hm := h.1
    have H := Lib.hid h
    have H' := Lib.hid h'
    clear h h'
    rw [← hll]
    generalize hlen : l.length = len at *
    have Hlen := Lib.hid hlen
    have Hlen' := Lib.hid hll.symm
    clear hlen hll
    go_enter Tryd.func29, Tryd.ntmps29
    go_wp2
    go_loopw [13] (fun i wr => ∃ k : Nat, k ≤ len ∧ i = .int .i64 k ∧ Hid ((rwL l).take k = (rwL m).take k) ∧ Hid (Below w.heap.size w wr)) (fun i _ => len - (intOf i).toNat)
    case atStart => exact ⟨0, Nat.zero_le _, rfl, rfl, Lib.hid (Below.refl _ _)⟩
    case round =>
      obtain ⟨k, hk, rfl, htk, K⟩ := hrel
      by_cases hlt : k < len
      · obtain ⟨b, off, rfl, hbs, c0⟩ := (H.out.keep K.out).at (i := k) (by rw [Hlen.out]; exact hlt)
        obtain ⟨b', off', rfl, hbs', d0⟩ := (H'.out.keep K.out).at (i := k) (by rw [Hlen'.out]; exact hlt)
        have HR := Lib.hid (((H.out.keep K.out).2.1 _ (rw_mem (ls := l) (i := k) (by rw [Hlen.out]; exact hlt))).mono K.out.size)
        have HR' := Lib.hid (((H'.out.keep K.out).2.1 _ (rw_mem (ls := m) (i := k) (by rw [Hlen'.out]; exact hlt))).mono K.out.size)
        have HT := Lib.hid (rwL_take (ls := l) (k := k) (by rw [Hlen.out]; exact hlt))
        have HT' := Lib.hid (rwL_take (ls := m) (k := k) (by rw [Hlen'.out]; exact hlt))
        have HNE := Lib.hid (rwL_ne (ls := l) (ms := m) (k := k) (by rw [Hlen.out]; exact hlt) (by rw [Hlen'.out]; exact hlt))
        generalize l.getD k default = x at *
        generalize m.getD k default = y at *
        obtain ⟨xa, xc, xl⟩ := x
        obtain ⟨ya, yc, yl⟩ := y
        simp only at c0 d0 HR HR' HT HT' HNE
        have HC : Hid (∀ W : World, Below wr.heap.size wr W → Calls Tryd.prog 28 #[.slice xa xl.length xc, .slice ya yl.length yc] W fun e w' => e = .returned (.bool (decide (xl = yl))) ∧ Below W.heap.size W w') := Lib.hid fun W hW => refSame_any xa ya xc yc xl yl W ((HR.out.keep hW).mono hW.size) ((HR'.out.keep hW).mono hW.size)
        have i0 : (0 : Int) ≤ k := by omega
        have i1 : (k : Int) < len := by omega
        clear HR HR'
        by_cases hne : xl = yl
        · have HE := Lib.hid hne
          rw [decide_eq_true hne] at HC
          clear hne HNE
          generalize xl.length = nx at *
          generalize yl.length = ny at *
          go_wp2_with fail
          go_region_held3 (fun w' => w'.cell? ⟨b, off + k, none⟩ = some (.slice xa nx xc) ∧ w'.cell? ⟨b', off' + k, none⟩ = some (.slice ya ny yc)) (first | go_keep | exact ⟨k0, k1⟩) ((go_at_call 28; (with_reducible refine (HC.out _ (Below.refl _ _).drew).mono ?_); rintro e w2 ⟨rfl, hb2⟩; have k0 := cell_below hb2 c0; have k1 := cell_below hb2 d0; have K2 := Lib.hid (K.out.trans (((Below.refl _ _).drew.trans hb2).mono K.out.size))))
          go_wp2_with fail
          go_roundw
          case rel => exact ⟨k + 1, by omega, by go_num, Lib.hid (by rw [HT.out, HT'.out, htk.out, HE.out]), K2⟩
          case measure => simp [intOf]; omega
        · have HE := Lib.hid (HNE.out hne)
          rw [decide_eq_false hne] at HC
          clear hne HNE
          generalize xl.length = nx at *
          generalize yl.length = ny at *
          go_wp2_with fail
          go_region_held3 (fun w' => w'.cell? ⟨b, off + k, none⟩ = some (.slice xa nx xc) ∧ w'.cell? ⟨b', off' + k, none⟩ = some (.slice ya ny yc)) (first | go_keep | exact ⟨k0, k1⟩) ((go_at_call 28; (with_reducible refine (HC.out _ (Below.refl _ _).drew).mono ?_); rintro e w2 ⟨rfl, hb2⟩; have k0 := cell_below hb2 c0; have k1 := cell_below hb2 d0; have K2 := Lib.hid (K.out.trans (((Below.refl _ _).drew.trans hb2).mono K.out.size))))
          go_wp2_with fail
          go_ret
          exact ⟨ret_bool (decide_eq_false HE.out).symm, K2.out⟩
      · obtain rfl : k = len := by omega
        go_wp2_with fail
        go_ret
        exact ⟨ret_bool (decide_eq_true (by have := htk.out; rwa [List.take_of_length_le (by unfold rwL; rw [List.length_map, Hlen.out]; exact Nat.le_refl _), List.take_of_length_le (by unfold rwL; rw [List.length_map, Hlen'.out]; exact Nat.le_refl _)] at this)).symm, K.out⟩
  · have hne : decide (rwL l = rwL m) = false := decide_eq_false (fun e => hll (by have := congrArg List.length e; simpa [rwL] using this))
    rw [hne]
    have hd : ((l.length : Int) != (m.length : Int)) = true := by rw [bne_iff_ne]; omega
    clear h h' hne hll
    generalize l.length = len at *
    generalize m.length = len' at *
    go_enter Tryd.func29, Tryd.ntmps29
    go_wp2_with fail
    go_ret
    exact ⟨rfl, Below.refl _ _⟩
end Go.Proofs.YthdaibmminibhaaDoor
