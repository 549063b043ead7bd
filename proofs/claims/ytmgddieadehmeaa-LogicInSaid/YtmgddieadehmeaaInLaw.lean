/- The law LogicIn walked: true at any value and any list of values. -/
import Derived.Test.YtmgddieadehmeaaIn
namespace Go.Proofs.Ytmgddieadehmeaa
open Go.RowKit

set_option maxHeartbeats 1600000 in
theorem LogicIn_walk (v : Vl) (a : Option Addr) (cap : Nat) (l : List Vl) (w : World) (h : RowAt w a l) (sv : v.s.size ≤ maxLen) :
    Calls Try.prog 8 #[.agg #[.int .i64 v.k, .int .i64 v.n, .string v.s], .slice a l.length cap] w fun e w' => e = .returned (.bool true) ∧ Below w.heap.size w w' := by
  have hm := h.1
  have HV := Lib.hid (refGood_any v.k v.n v.s)
  have HG := Lib.hid (fun w' (hb : Below w.heap.size w w') => goodRow_any a cap l w' (h.keep hb))
  have HI := Lib.hid (fun w' (hb : Below w.heap.size w w') => in_any v a cap l w' (h.keep hb))
  have HR := Lib.hid (fun w' (hb : Below w.heap.size w w') (gv : goodB v.k v.n v.s = true) (gl : l.all Vl.good = true) (hl : l.length ≤ 1000) => refIn_any v a cap l w' (h.keep hb) gv gl sv hl)
  clear h sv
  generalize inT v l = t at *
  generalize l.all Vl.good = gl at *
  generalize goodB v.k v.n v.s = gv at *
  generalize l.length = len at *
  generalize v.k = vk at *
  generalize v.n = vn at *
  generalize v.s = vs at *
  go_enter Try.func8, Try.ntmps8
  go_wp2_with fail
  have K := start3 w (.int .i64 vk) (.int .i64 vn) (.string vs) 36
  refine (awake_any _).mono ?_
  rintro e w1 ⟨rfl, hb⟩
  replace K := keep3 K hb
  clear hb
  go_wp2_with fail
  refine (HV.out _).mono ?_
  rintro e w2 ⟨rfl, hb⟩
  replace K := keep3 K hb
  clear hb
  cases gv
  · go_wp2_with fail
    refine (awake_any _).mono ?_
    rintro e w3 ⟨rfl, hb⟩
    replace K := keep3 K hb
    clear hb
    go_wp2_with fail
    go_ret
    exact ⟨rfl, K.1.1⟩
  go_wp2_with fail
  refine (HG.out _ K.1.1).mono ?_
  rintro e w3 ⟨rfl, hb⟩
  replace K := keep3 K hb
  clear hb
  cases gl
  · go_wp2_with fail
    refine (awake_any _).mono ?_
    rintro e w4 ⟨rfl, hb⟩
    replace K := keep3 K hb
    clear hb
    go_wp2_with fail
    go_ret
    exact ⟨rfl, K.1.1⟩
  by_cases hl : 1000 < len
  · go_wp2_with fail
    refine (awake_any _).mono ?_
    rintro e w4 ⟨rfl, hb⟩
    replace K := keep3 K hb
    clear hb
    go_wp2_with fail
    go_ret
    exact ⟨rfl, K.1.1⟩
  have hl' : len ≤ 1000 := by omega
  clear hl
  have HI2 := Lib.hid (fun w' hb => HI.out w' hb)
  have HR2 := Lib.hid (fun w' hb => HR.out w' hb (by first | rfl | trivial) (by first | rfl | trivial) hl')
  clear HR HI
  go_wp2_with fail
  obtain ⟨rn, d0, d1, d2⟩ := id K
  have hW : w.heap.size < w3.heap.size := rn.2
  have KK := Lib.hid K
  have Rn := Lib.hid rn
  clear rn K
  go_region_held3 (fun w' => w'.cell? ⟨w.heap.size, 0, none⟩ = some (.int .i64 vk) ∧ w'.cell? ⟨w.heap.size, 1, none⟩ = some (.int .i64 vn) ∧ w'.cell? ⟨w.heap.size, 2, none⟩ = some (.string vs)) (first | go_keep | exact K5.out.2 | exact K4.out.2 | exact ⟨d0, d1, d2⟩) (first | (go_at_call 27; refine (HI2.out _ Rn.out.1.drew).mono ?_; rintro e w4 ⟨rfl, hb4⟩; have K4 := Lib.hid (keep3 KK.out ((Below.refl _ _).drew.trans hb4))) | (go_at_call 28; refine (HR2.out _ K4.out.1.1).mono ?_; rintro e w5 ⟨rfl, hb5⟩; have K5 := Lib.hid (keep3 K4.out hb5)))
  go_wp2_with fail
  go_ret
  exact ⟨ret_bool (by simp), K5.out.1.1⟩

theorem LogicIn_any (k n : Int) (s : ByteArray) (a : Option Addr) (cap : Nat) (l : List Vl) (w : World) (hs : s.size ≤ maxLen) (h : RowAt w a l) :
    Calls Try.prog 8 #[.agg #[.int .i64 k, .int .i64 n, .string s], .slice a l.length cap] w fun e w' => e = .returned (.bool true) ∧ Below w.heap.size w w' := LogicIn_walk ⟨k, n, s⟩ a cap l w h hs
end Go.Proofs.Ytmgddieadehmeaa
