/- The law SchemaNames walked. -/
import Derived.Test.YthaoagjembgndaaDoorSchB
namespace Go.Proofs.YthaoagjembgndaaDoor
open Go.RowKit

theorem below6 {w w' : World} (h : w.grownBy w' none) : Below w.heap.size w w' := ⟨h.os, h.tape, h.output, h.size, fun k hk => h.block k hk (by simp)⟩
set_option maxHeartbeats 1600000 in
theorem SchemaNames_any (s : ByteArray) (w : World) (hs : s.size ≤ maxLen) :
    Calls Tryd.prog 3 #[.string s] w fun e w' => e = .returned (.bool true) ∧ Below w.heap.size w w' := by
  have HW := Lib.hid (awake6_any w)
  have HN := Lib.hid (fun W => name_any s W)
  have HR := Lib.hid (fun W => refName_any s W (by unfold maxLen at hs; omega))
  generalize nameB s = b at *
  clear hs
  go_enter Tryd.func3, Tryd.ntmps3
  go_wp2_with fail
  refine HW.out.mono ?_
  rintro e w1 ⟨rfl, hg⟩
  have K1 := Lib.hid (below6 hg)
  clear hg
  go_wp2_with fail
  refine (HN.out _).mono ?_
  rintro e w2 ⟨rfl, rfl⟩
  go_wp2_with fail
  refine (HR.out _).mono ?_
  rintro e w2 ⟨rfl, rfl⟩
  go_wp2_with fail
  go_ret
  exact ⟨ret_bool (by simp), K1.out⟩
end Go.Proofs.YthaoagjembgndaaDoor
