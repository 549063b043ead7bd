/- The law CodecWrites walked: true at any number, text and rows. -/
import Derived.Test.YtolcfgeodjmckaaRows4
import Derived.Deep.RegionWith
import Derived.Deep.DeepCutAuto
import Derived.Deep.CutRange
namespace Go.Proofs.Ytolcfgeodjmckaa
open Go.RowKit

theorem box3_new (w : World) (v0 v1 v2 : Value) (T : TypeId) : (w.alloc (.cells #[v0, v1, v2] T)).cell? ⟨w.heap.size, 0, none⟩ = some v0 ∧ (w.alloc (.cells #[v0, v1, v2] T)).cell? ⟨w.heap.size, 1, none⟩ = some v1 ∧ (w.alloc (.cells #[v0, v1, v2] T)).cell? ⟨w.heap.size, 2, none⟩ = some v2 := by
  have e : (w.alloc (.cells #[v0, v1, v2] T)).heap[w.heap.size]? = some (.cells #[v0, v1, v2] T) := heap_alloc_new _ _
  exact ⟨cell_of_row _ _ 0 _ _ _ e, cell_of_row _ _ 1 _ _ _ e, cell_of_row _ _ 2 _ _ _ e⟩
theorem box3_keep {w w1 : World} {g : Nat} {v0 v1 v2 : Value} (h : w.cell? ⟨g, 0, none⟩ = some v0 ∧ w.cell? ⟨g, 1, none⟩ = some v1 ∧ w.cell? ⟨g, 2, none⟩ = some v2) (hb : Below w.heap.size w w1) : w1.cell? ⟨g, 0, none⟩ = some v0 ∧ w1.cell? ⟨g, 1, none⟩ = some v1 ∧ w1.cell? ⟨g, 2, none⟩ = some v2 :=
  ⟨(hb.cell (p := ⟨g, 0, none⟩) (block_lt_of_cell h.1)).trans h.1, (hb.cell (p := ⟨g, 1, none⟩) (block_lt_of_cell h.2.1)).trans h.2.1, (hb.cell (p := ⟨g, 2, none⟩) (block_lt_of_cell h.2.2)).trans h.2.2⟩
theorem RowsLow.mono {B B' : Nat} {w : World} {a : Option Addr} {ls : List Rw} (h : RowsLow B w a ls) (hb : B ≤ B') : RowsLow B' w a ls := by
  obtain ⟨h1, h2, h3⟩ := h
  refine ⟨h1, fun r hr => (h2 r hr).mono hb, ?_⟩
  rcases h3 with h3 | ⟨b, off, e, hlt, hc⟩
  · exact .inl h3
  · exact .inr ⟨b, off, e, by omega, hc⟩
theorem val_pos {x : Vl} (h : x.good = true) (hf : x.fits) : 0 < x.bytes.length := by have := valB_len h hf; omega
set_option maxRecDepth 100000 in
set_option maxHeartbeats 3200000 in
theorem writes_bad (n : Nat) (s : ByteArray) (a : Option Addr) (len c : Nat) (w : World)
    (HG : Hid (∀ W : World, Below w.heap.size w W → Calls Try.prog 7 #[.slice a len c] W fun e w' => e = .returned (.bool false) ∧ Below W.heap.size W w'))
    (HW : Hid (∀ w, Calls Try.prog 6 #[] w fun e w' => e = .returned (.bool true) ∧ Below w.heap.size w w')) :
    Calls Try.prog 3 #[.int .u64 n, .string s, .slice a len c] w fun e w' => e = .returned (.bool true) ∧ Below w.heap.size w w' := by
  go_enter Try.func3, Try.ntmps3
  go_wp2_with fail
  refine (HW.out _).mono ?_
  rintro e w1 ⟨rfl, hb⟩
  have K1 := Lib.hid hb
  clear hb
  go_wp2_with fail
  refine (HG.out _ K1.out).mono ?_
  rintro e w2 ⟨rfl, hb⟩
  have K2 := Lib.hid (K1.out.trans (hb.mono K1.out.size))
  clear hb
  go_wp2_with fail
  refine (HW.out _).mono ?_
  rintro e w3 ⟨rfl, hb⟩
  have K3 := Lib.hid (K2.out.trans (hb.mono K2.out.size))
  clear hb
  go_wp2_with fail
  go_ret
  exact ⟨rfl, K3.out⟩
/-- One row of the law: what the callees answer. -/
theorem row_step {W : World} {a : Option Addr} {ls : List Rw} {k : Nat} (h : RowsLow W.heap.size W a ls) (hg : ls.all Rw.okR = true) (hk : k < ls.length) :
    ∃ (ra : Option Addr) (rc : Nat) (rl : List Vl) (xs : List UInt8), (ls.getD k default) = ⟨ra, rc, rl⟩ ∧ Hid (RowLow W.heap.size W ra rl) ∧ Hid (∀ x ∈ rl, x.good = true) ∧ rl.length ≤ 255 ∧ 0 < xs.length
      ∧ Hid (∀ w, Below W.heap.size W w → Calls Try.prog 8 #[.slice ra rl.length rc] w (Adds w.heap.size w xs))
      ∧ Hid (∀ w, Below W.heap.size W w → Calls Try.prog 9 #[.slice ra rl.length rc] w (Adds w.heap.size w xs)) := by
  have hm := rw_mem hk
  have h1 := h.2.1 _ hm
  have h2 := List.all_eq_true.1 hg _ hm
  generalize ls.getD k default = r at *
  obtain ⟨ra, rc, rl⟩ := r
  obtain ⟨gl, l255⟩ := okR_good h2
  have hb := rowB_len gl h1.2.1 l255
  exact ⟨ra, rc, rl, rowB rl, rfl, Lib.hid h1, Lib.hid gl, l255, by omega,
    Lib.hid fun w hw => row_any ra rc rl w ((h1.keep hw).mono hw.size) gl l255, Lib.hid fun w hw => refRow_any ra rc rl w ((h1.keep hw).mono hw.size) gl l255⟩
theorem value_step {x : Vl} (hg : x.good = true) (hf : x.fits) : ∃ xs : List UInt8, 0 < xs.length
      ∧ Hid (∀ w, Calls Try.prog 10 #[.agg #[.int .i64 x.k, .int .i64 x.n, .string x.s]] w (Adds w.heap.size w xs))
      ∧ Hid (∀ w, Calls Try.prog 11 #[.agg #[.int .i64 x.k, .int .i64 x.n, .string x.s]] w (Adds w.heap.size w xs)) :=
  ⟨x.bytes, val_pos hg hf, Lib.hid fun w => value_any x w hg hf, Lib.hid fun w => ref_value hg hf w⟩

set_option maxRecDepth 100000 in
set_option maxHeartbeats 25600000 in
theorem writes_gen (n : Nat) (s : ByteArray) (a : Option Addr) (c : Nat) (ls : List Rw) (ns ss rs : List UInt8) (w : World) (h : RowsLow w.heap.size w a ls) (hg : ls.all Rw.okR = true) (hns : 0 < ns.length) (hss : 0 < ss.length) (hrs : 0 < rs.length)
    (HG : Hid (∀ W : World, Below w.heap.size w W → Calls Try.prog 7 #[.slice a ls.length c] W fun e w' => e = .returned (.bool true) ∧ Below W.heap.size W w'))
    (HN : Hid (∀ w, Calls Try.prog 12 #[.int .u64 n] w (Adds w.heap.size w ns))) (HN' : Hid (∀ w, Calls Try.prog 13 #[.int .u64 n] w (Adds w.heap.size w ns)))
    (HS : Hid (∀ w, Calls Try.prog 14 #[.string s] w (Adds w.heap.size w ss))) (HS' : Hid (∀ w, Calls Try.prog 15 #[.string s] w (Adds w.heap.size w ss)))
    (HR : Hid (∀ W : World, Below w.heap.size w W → Calls Try.prog 16 #[.slice a ls.length c] W (Adds W.heap.size W rs))) (HR' : Hid (∀ W : World, Below w.heap.size w W → Calls Try.prog 17 #[.slice a ls.length c] W (Adds W.heap.size W rs)))
    (HW : Hid (∀ w, Calls Try.prog 6 #[] w fun e w' => e = .returned (.bool true) ∧ Below w.heap.size w w')) :
    Calls Try.prog 3 #[.int .u64 n, .string s, .slice a ls.length c] w fun e w' => e = .returned (.bool true) ∧ Below w.heap.size w w' := by
  have hm := h.1
  have H := Lib.hid h
  have HO := Lib.hid hg
  clear h hg
  generalize hlen : ls.length = len at *
  have Hlen := Lib.hid hlen
  clear hlen
  go_enter Try.func3, Try.ntmps3
  go_wp2_with fail
  refine (HW.out _).mono ?_
  rintro e w1 ⟨rfl, hb⟩
  have K1 := Lib.hid hb
  clear hb
  go_wp2_with fail
  refine (HG.out _ K1.out).mono ?_
  rintro e w2 ⟨rfl, hb⟩
  have K2 := Lib.hid (K1.out.trans (hb.mono K1.out.size))
  clear hb
  go_wp2_with fail
  go_loopw [21] (fun i wr => ∃ k : Nat, k ≤ len ∧ i = .int .i64 k ∧ Hid (Below w.heap.size w wr)) (fun i _ => len - (intOf i).toNat)
  case atStart => exact ⟨0, Nat.zero_le _, rfl, K2⟩
  case round =>
    obtain ⟨k, hk, rfl, K⟩ := hrel
    have Kz : w.heap.size ≤ wr.heap.size := K.out.size
    by_cases hlt : k < len
    · obtain ⟨b, off, rfl, hbs, c0⟩ := (H.out.keep K.out).at (i := k) (by rw [Hlen.out]; exact hlt)
      obtain ⟨ra, rc, rl, xs, er, HL, HGd, l255, hxs, HA, HB⟩ := row_step H.out HO.out (k := k) (by rw [Hlen.out]; exact hlt)
      rw [er] at c0
      clear er
      simp only at c0
      have hfit := Lib.hid HL.out.2.1
      generalize hrl : rl.length = m at *
      have Hrl := Lib.hid hrl
      clear hrl
      go_upto_region 6 with fail
      go_cut [21, 31] from 21 to 46 (fun i t wx => i = .int .i64 k ∧ t = .bool false ∧ Hid (Below w.heap.size w wx))
      case first =>
        go_region_with (first | (go_at_call 8; (with_reducible refine (HA.out _ (by first | exact K.out | exact K.out.drew)).mono ?_); rintro e w3 ⟨v1, rfl, ho1, hb1⟩; have hc1 := own_string ho1 hxs; have K3 := Lib.hid (K.out.trans (((Below.refl _ _).drew.trans hb1).mono Kz))) | (go_at_call 9; (with_reducible refine (HB.out _ K3.out).mono ?_); rintro e w4 ⟨v2, rfl, ho2, hb2⟩; have hc2 := own_string ho2 hxs; have hc3 := own_string (ho1.stay hb2) hxs; have K4 := Lib.hid (K3.out.trans (hb2.mono K3.out.size))))
        all_goals
          go_wp2_with fail
          go_meet
          exact ⟨rfl, by simp, K4⟩
      case rest =>
        obtain ⟨rfl, rfl, K4⟩ := hcut
        go_wp2_with fail
        go_loopw [34] (fun j wr2 => ∃ t : Nat, t ≤ m ∧ j = .int .i64 t ∧ Hid (Below w.heap.size w wr2)) (fun j _ => m - (intOf j).toNat)
        case atStart => exact ⟨0, Nat.zero_le _, rfl, K4⟩
        case round =>
          obtain ⟨t, ht, rfl, KI⟩ := hrel
          have Kz2 : w.heap.size ≤ wr.heap.size := KI.out.size
          by_cases hlt2 : t < m
          · obtain ⟨b2, off2, rfl, hbs2, d0, d1, d2⟩ := (HL.out.keep KI.out).at (i := t) (by rw [Hrl.out]; exact hlt2)
            obtain ⟨ys, hys, HV, HV'⟩ := value_step (HGd.out _ (getD_mem (l := rl) (i := t) (by rw [Hrl.out]; exact hlt2))) (hfit.out _ (getD_mem (l := rl) (i := t) (by rw [Hrl.out]; exact hlt2)))
            generalize rl.getD t default = x at *
            have hbox := Lib.hid (box3_new wr (.int .i64 x.k) (.int .i64 x.n) (.string x.s) 32)
            have KB := Lib.hid (KI.out.alloc Kz2 (.cells #[.int .i64 x.k, .int .i64 x.n, .string x.s] 32))
            go_wp2_with fail
            go_region_with (first | (go_at_call 10; (with_reducible refine (HV.out _).mono ?_); rintro e w5 ⟨v3, rfl, ho3, hb3⟩; have c5 := box3_keep hbox.out ((Below.refl _ _).drew.trans hb3); obtain ⟨e0, e1, e2⟩ := c5; have hc4 := own_string ho3 hys; have K5 := Lib.hid (KB.out.trans (((Below.refl _ _).drew.trans hb3).mono (by simp; omega)))) | (go_at_call 11; (with_reducible refine (HV'.out _).mono ?_); rintro e w6 ⟨v4, rfl, ho4, hb4⟩; have c6 := box3_keep ⟨e0, e1, e2⟩ hb4; clear e0 e1 e2; obtain ⟨e0, e1, e2⟩ := c6; have hc5 := own_string ho4 hys; have hc6 := own_string (ho3.stay hb4) hys; have K6 := Lib.hid (K5.out.trans (hb4.mono K5.out.size))))
            all_goals
              clear ho3 ho4 hb3 hb4
              go_wp2_with fail
              go_roundw
              case rel => exact ⟨t + 1, by omega, by go_num, K6⟩
              case measure => simp [intOf]; omega
          · obtain rfl : t = m := by omega
            go_wp2_with fail
            go_roundw
            case rel => exact ⟨k + 1, by omega, by go_num, KI⟩
            case measure => simp [intOf]; omega
    · obtain rfl : k = len := by omega
      clear HG HW HO H
      go_wp2_with fail
      go_region_with (first | (go_at_call 12; (with_reducible refine (HN.out _).mono ?_); rintro e w3 ⟨v1, rfl, ho1, hb1⟩; have hc1 := own_string ho1 hns; have K3 := Lib.hid (K.out.trans (((Below.refl _ _).drew.trans hb1).mono Kz))) | (go_at_call 13; (with_reducible refine (HN'.out _).mono ?_); rintro e w4 ⟨v2, rfl, ho2, hb2⟩; have hc2 := own_string ho2 hns; have hc3 := own_string (ho1.stay hb2) hns; have K4 := Lib.hid (K3.out.trans (hb2.mono K3.out.size)); clear ho1 ho2 hb1 hb2) | (go_at_call 14; clear hc1 hc2 hc3; (with_reducible refine (HS.out _).mono ?_); rintro e w5 ⟨v3, rfl, ho3, hb3⟩; have hc4 := own_string ho3 hss; have K5 := Lib.hid (K4.out.trans (hb3.mono K4.out.size))) | (go_at_call 15; (with_reducible refine (HS'.out _).mono ?_); rintro e w6 ⟨v4, rfl, ho4, hb4⟩; have hc5 := own_string ho4 hss; have hc6 := own_string (ho3.stay hb4) hss; have K6 := Lib.hid (K5.out.trans (hb4.mono K5.out.size)); clear ho3 ho4 hb3 hb4) | (go_at_call 16; clear hc4 hc5 hc6; (with_reducible refine (HR.out _ K6.out).mono ?_); rintro e w7 ⟨v5, rfl, ho5, hb5⟩; have hc7 := own_string ho5 hrs; have K7 := Lib.hid (K6.out.trans (hb5.mono K6.out.size))) | (go_at_call 17; (with_reducible refine (HR'.out _ K7.out).mono ?_); rintro e w8 ⟨v6, rfl, ho6, hb6⟩; have hc8 := own_string ho6 hrs; have hc9 := own_string (ho5.stay hb6) hrs; have K8 := Lib.hid (K7.out.trans (hb6.mono K7.out.size)); clear ho5 ho6 hb5 hb6))
      all_goals
        go_wp2_with fail
        go_ret
        exact ⟨ret_bool (by simp), K8.out⟩

theorem CodecWrites_any (n : Nat) (s : ByteArray) (a : Option Addr) (c : Nat) (ls : List Rw) (w : World) (hn : n < 18446744073709551616) (hs : s.size ≤ 140737488351232) (h : RowsLow w.heap.size w a ls) :
    Calls Try.prog 3 #[.int .u64 n, .string s, .slice a ls.length c] w fun e w' => e = .returned (.bool true) ∧ Below w.heap.size w w' := by
  have low : ∀ W : World, Below w.heap.size w W → RowsLow W.heap.size W a ls := fun W hb => (h.keep hb).mono hb.size
  have HG : ∀ W : World, Below w.heap.size w W → Calls Try.prog 7 #[.slice a ls.length c] W fun e w' => e = .returned (.bool (ls.all Rw.okR && decide (ls.length ≤ 1000))) ∧ Below W.heap.size W w' := fun W hb => good_any a c ls W (low W hb)
  cases hg : (ls.all Rw.okR && decide (ls.length ≤ 1000))
  · rw [hg] at HG
    exact writes_bad n s a _ c w (Lib.hid HG) (Lib.hid awake_any)
  · rw [hg] at HG
    rw [Bool.and_eq_true] at hg
    obtain ⟨h1, h2⟩ := hg
    have h3 := of_decide_eq_true h2
    have p1 := (numB_10 hn).1
    have p2 : 0 < (strB s).length := by unfold strB; rw [List.length_append]; have := (numB_10 (n := s.size) (by omega)).1; omega
    have p3 : 0 < (rowsB ls).length := by unfold rowsB; rw [List.length_append]; have := (numB_10 (n := ls.length) (by omega)).1; omega
    exact writes_gen n s a c ls (numB n) (strB s) (rowsB ls) w h h1 (by omega) p2 p3 (Lib.hid HG) (Lib.hid fun w => number_any n w hn) (Lib.hid fun w => refNumber_any n w hn)
      (Lib.hid fun w => string_any s w (by omega)) (Lib.hid fun w => refString_any s w (by omega))
      (Lib.hid fun W hb => rows_any a c ls W (low W hb) h1 h3) (Lib.hid fun W hb => refRows_any a c ls W (low W hb) h1 h3) (Lib.hid awake_any)
end Go.Proofs.Ytolcfgeodjmckaa
