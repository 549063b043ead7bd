/- The law CodecOne walked. -/
import Derived.Test.YtnfpomjcofhppaaDoorOne000
import Derived.Test.YtnfpomjcofhppaaDoorOne001
import Derived.Test.YtnfpomjcofhppaaDoorOne010
import Derived.Test.YtnfpomjcofhppaaDoorOne011
import Derived.Test.YtnfpomjcofhppaaDoorOne100
import Derived.Test.YtnfpomjcofhppaaDoorOne101
import Derived.Test.YtnfpomjcofhppaaDoorOne110
import Derived.Test.YtnfpomjcofhppaaDoorOne111
namespace Go.Proofs.YtnfpomjcofhppaaDoor
open Go.RowKit
set_option maxHeartbeats 1600000 in
theorem one_long (a : Option Addr) (len cap : Nat) (w : World) (hl : 20000 < len) (HW : Hid (∀ w, Calls Tryd.prog 4 #[] w fun e w' => e = .returned (.bool true) ∧ Below w.heap.size w w')) :
    Calls Tryd.prog 3 #[.slice a len cap] w fun e w' => e = .returned (.bool true) ∧ Below w.heap.size w w' := by
  have hl' : (20000 : Int) < len := by omega
  go_enter Tryd.func3, Tryd.ntmps3
  go_wp2_with fail
  refine (HW.out _).mono ?_
  rintro e w1 ⟨rfl, hb⟩
  have K1 := Lib.hid hb
  clear hb
  go_wp2_with fail
  refine (HW.out _).mono ?_
  rintro e w2 ⟨rfl, hb⟩
  have K2 := Lib.hid (K1.out.trans (hb.mono K1.out.size))
  clear hb
  go_wp2_with fail
  go_ret
  exact ⟨rfl, K2.out⟩
theorem CodecOne_any (G : Nat) (a : Option Addr) (l : List UInt8) (cap : Nat) (w : World) (h : Env G w a l cap) :
    Calls Tryd.prog 3 #[.slice a l.length cap] w fun e w' => e = .returned (.bool true) ∧ Below w.heap.size w w' := by
  by_cases hl : l.length ≤ 20000
  · cases hL : readL l with
    | none => cases hV : readV l with
      | none => cases hN : readN l with
        | none => exact one_000 h hl hL hV hN
        | some z => exact one_001 h hl hL hV hN
      | some y => cases hN : readN l with
        | none => exact one_010 h hl hL hV hN
        | some z => exact one_011 h hl hL hV hN
    | some x => cases hV : readV l with
      | none => cases hN : readN l with
        | none => exact one_100 h hl hL hV hN
        | some z => exact one_101 h hl hL hV hN
      | some y => cases hN : readN l with
        | none => exact one_110 h hl hL hV hN
        | some z => exact one_111 h hl hL hV hN
  · exact one_long a _ cap w (by omega) (Lib.hid awake_any)
end Go.Proofs.YtnfpomjcofhppaaDoor
