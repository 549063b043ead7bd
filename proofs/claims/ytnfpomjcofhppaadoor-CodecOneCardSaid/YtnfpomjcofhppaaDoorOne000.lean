/- The law CodecOne walked: one of its eight ways. -/
import Derived.Test.YtnfpomjcofhppaaDoorOneB
namespace Go.Proofs.YtnfpomjcofhppaaDoor
open Go.RowKit

set_option maxRecDepth 100000 in
set_option maxHeartbeats 12800000 in
theorem one_000 {G : Nat} {a : Option Addr} {l : List UInt8} {cap : Nat} {w : World} (h : Env G w a l cap) (hl : l.length ≤ 20000) (hL : readL l = none) (hV : readV l = none) (hN : readN l = none) :
    Calls Tryd.prog 3 #[.slice a l.length cap] w fun e w' => e = .returned (.bool true) ∧ Below w.heap.size w w' := by
  have HW := Lib.hid awake_any
  have hcl := h.c
  have hcm := h.m
  have HA := Lib.hid (fun (w2 : World) (hg : w.grownBy w2 none) => oneRows_no (h.keep hg) hl hL)
  have HB := Lib.hid (fun (w2 : World) (hg : w.grownBy w2 none) => oneVal_no (h.keep hg) hV)
  have HC := Lib.hid (fun (w2 : World) (hg : w.grownBy w2 none) => oneNum_no (h.keep hg) hN)
  generalize hlen : l.length = len at *
  clear h hL hV hN hlen
  go_enter Tryd.func3, Tryd.ntmps3
  go_wp2_with fail
  refine (HW.out _).mono ?_
  rintro e w1 ⟨rfl, hb⟩
  have K1 := Lib.hid (grown_of_below hb)
  clear hb
  go_wp2_with fail
  refine (HA.out _ K1.out).mono ?_
  rintro e w2 ⟨rfl, hg⟩
  have K2 := Lib.hid (K1.out.trans hg)
  clear hg
  go_wp2_with fail
  refine (HB.out _ K2.out).mono ?_
  rintro e w3 ⟨rfl, hg⟩
  have K23 := Lib.hid hg
  have K3 := Lib.hid (K2.out.trans hg)
  clear hg
  have KB := Lib.hid (K3.out.trans (World.grownBy_alloc w3 (.cells #[.int .i64 0, .int .i64 0, .string ⟨#[]⟩] 30) none))
  have KB2 := Lib.hid (K23.out.trans (World.grownBy_alloc w3 (.cells #[.int .i64 0, .int .i64 0, .string ⟨#[]⟩] 30) none))
  have hbx := Lib.hid (Box3.new w3 (.int .i64 0) (.int .i64 0) (.string ⟨#[]⟩) 30)
  go_wp2_with fail
  refine (HC.out _ KB.out).mono ?_
  rintro e w4 ⟨rfl, hg⟩
  obtain ⟨b0, b1, b2, _, _, _⟩ := hbx.out.keep (grown_none hg (some (w3.heap.size + 1))) (by omega)
  have K4 := Lib.hid (grown_drew (KB.out.trans hg))
  have K24 := Lib.hid (grown_drew (KB2.out.trans hg))
  clear hg
  go_wp2_with fail
  go_quiet (fail)
  go_wp2_with fail
  go_ret
  exact ⟨ret_bool (by simp), below_grown (grown_re K4.out)⟩
end Go.Proofs.YtnfpomjcofhppaaDoor
