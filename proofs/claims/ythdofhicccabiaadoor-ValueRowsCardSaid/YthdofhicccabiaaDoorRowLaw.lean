/- The law ValueRows walked: true at any two rows of values. -/
import Derived.Test.YthdofhicccabiaaDoorRowCmp
namespace Go.Proofs.YthdofhicccabiaaDoor
open Go.RowKit

theorem same_any (a a' : Option Addr) (cap cap' : Nat) (l m : List Vl) (w : World) (h : RowAt w a l) (h' : RowAt w a' m) :
    Calls Tryd.prog 18 #[.slice a l.length cap, .slice a' m.length cap'] w fun e w' => e = .returned (.bool (rowsOrd l m == 0)) ∧ Below w.heap.size w w' := by
  have HC := Lib.hid (equal_any a a' cap cap' l m w h h')
  clear h h'
  generalize l.length = len at *
  generalize m.length = len' at *
  generalize (rowsOrd l m == 0) = q at *
  go_enter Tryd.func18, Tryd.ntmps18
  go_wp2_with (go_at_call 36; refine HC.out.mono ?_; rintro e w1 ⟨rfl, hb⟩)
  go_ret
  exact ⟨rfl, hb⟩

set_option maxHeartbeats 800000 in
theorem ValueRows_any' (a a' : Option Addr) (cap cap' : Nat) (l m : List Vl) (w : World) (h : RowAt w a l) (h' : RowAt w a' m) :
    Calls Tryd.prog 5 #[.slice a l.length cap, .slice a' m.length cap'] w fun e w' => e = .returned (.bool true) ∧ Below w.heap.size w w' := by
  have HG := Lib.hid (fun w' (hb : Below w.heap.size w w') => goodRow_any a cap l w' (h.keep hb))
  have HG' := Lib.hid (fun w' (hb : Below w.heap.size w w') => goodRow_any a' cap' m w' (h'.keep hb))
  have HR := Lib.hid (fun w' (hb : Below w.heap.size w w') => rows_any a a' cap cap' l m w' (h.keep hb) (h'.keep hb))
  have HT := Lib.hid (fun w' (hb : Below w.heap.size w w') => ro_turn l m ▸ rows_any a' a cap' cap m l w' (h'.keep hb) (h.keep hb))
  have HS := Lib.hid (fun w' (hb : Below w.heap.size w w') => same_any a a' cap cap' l m w' (h.keep hb) (h'.keep hb))
  have HS' := Lib.hid (fun w' (hb : Below w.heap.size w w') => refSame_any a a' cap cap' l m w' (h.keep hb) (h'.keep hb))
  have HR' := Lib.hid (fun w' (hb : Below w.heap.size w w') (g : l.all Vl.good = true) (g' : m.all Vl.good = true) => refRows_any a a' cap cap' l m w' (h.keep hb) (h'.keep hb) g g')
  obtain ⟨lo, hi⟩ := ro_range l m
  clear h h'
  generalize l.length = len at *
  generalize m.length = len' at *
  generalize l.all Vl.good = ga at *
  generalize m.all Vl.good = gb at *
  generalize rowsOrd l m = x at *
  generalize hq : (x == 0) = q at *
  have Hq := Lib.hid hq
  clear hq
  go_enter Tryd.func5, Tryd.ntmps5
  have hbl : Below w.heap.size w w := Below.refl _ _
  go_wp2_with fail
  refine (awake_any _).mono ?_
  rintro e w1 ⟨rfl, hb1⟩
  replace hbl := hbl.trans (hb1.mono hbl.size)
  clear hb1
  go_wp2_with fail
  refine (HG.out _ hbl).mono ?_
  rintro e w2 ⟨rfl, hb2⟩
  replace hbl := hbl.trans (hb2.mono hbl.size)
  clear hb2
  cases ga
  · go_wp2_with fail
    refine (awake_any _).mono ?_
    rintro e w3 ⟨rfl, hb3⟩
    replace hbl := hbl.trans (hb3.mono hbl.size)
    clear hb3
    go_wp2_with fail
    go_ret
    exact ⟨rfl, hbl⟩
  go_wp2_with fail
  refine (HG'.out _ hbl).mono ?_
  rintro e w3 ⟨rfl, hb3⟩
  replace hbl := hbl.trans (hb3.mono hbl.size)
  clear hb3
  cases gb
  · go_wp2_with fail
    refine (awake_any _).mono ?_
    rintro e w4 ⟨rfl, hb4⟩
    replace hbl := hbl.trans (hb4.mono hbl.size)
    clear hb4
    go_wp2_with fail
    go_ret
    exact ⟨rfl, hbl⟩
  go_wp2_with fail
  refine (HR.out _ hbl).mono ?_
  rintro e w4 ⟨rfl, hb4⟩
  replace hbl := hbl.trans (hb4.mono hbl.size)
  clear hb4
  go_wp2_with fail
  refine (HR'.out _ hbl (by simp) (by simp)).mono ?_
  rintro e w5 ⟨rfl, hb5⟩
  replace hbl := hbl.trans (hb5.mono hbl.size)
  clear hb5
  go_wp2_with fail
  refine (HT.out _ hbl).mono ?_
  rintro e w6 ⟨rfl, hb6⟩
  replace hbl := hbl.trans (hb6.mono hbl.size)
  clear hb6
  go_wp2_with fail
  refine (HS.out _ hbl).mono ?_
  rintro e w7 ⟨rfl, hb7⟩
  replace hbl := hbl.trans (hb7.mono hbl.size)
  clear hb7
  go_wp2_with fail
  refine (HS'.out _ hbl).mono ?_
  rintro e w8 ⟨rfl, hb8⟩
  replace hbl := hbl.trans (hb8.mono hbl.size)
  clear hb8
  go_wp2_with fail
  refine (HS.out _ hbl).mono ?_
  rintro e w9 ⟨rfl, hb9⟩
  replace hbl := hbl.trans (hb9.mono hbl.size)
  clear hb9
  have hq : (x == 0) = q := Hq.out
  go_wp2_with fail
  go_ret
  exact ⟨ret_bool (by cases q <;> simp_all), hbl⟩

theorem ValueRows_any (a : Option Addr) (cap : Nat) (l : List Vl) (a' : Option Addr) (cap' : Nat) (m : List Vl) (w : World) (h : RowAt w a l) (h' : RowAt w a' m) :
    Calls Tryd.prog 5 #[.slice a l.length cap, .slice a' m.length cap'] w fun e w' => e = .returned (.bool true) ∧ Below w.heap.size w w' := ValueRows_any' a a' cap cap' l m w h h'
end Go.Proofs.YthdofhicccabiaaDoor
