/- The contract of strings.HasPrefix where the one text doesn't begin the other. -/
import Derived.Test.YtolcfgeodjmckaaSplit4
namespace Go.Proofs.Ytolcfgeodjmckaa
open Go.RowKit

set_option maxRecDepth 100000 in
set_option maxHeartbeats 1600000 in
theorem inner_no (s p : ByteArray) (w : World) (h : ¬ p.data.toList <+: s.data.toList) :
    Calls Try.prog 26 #[.string s, .string p] w fun e w' => e = .returned (.bool false) ∧ w = w' := by
  by_cases hl : p.size ≤ s.size
  · have hl' : (p.size : Int) ≤ (s.size : Int) := by omega
    have hne : ¬ (s.extract 0 p.size).toList = p.toList := fun e => h (by
      rw [Lib.toList_data, Lib.toList_data] at e
      refine ⟨s.data.toList.drop p.size, ?_⟩
      rw [← e, ByteArray.data_extract]
      simp)
    go_enter Try.func26, Try.ntmps26
    go_wp2_with fail
    go_ret
    exact ⟨ret_bool (by simpa using hne), rfl⟩
  · have hl' : ¬ (p.size : Int) ≤ (s.size : Int) := by omega
    go_enter Try.func26, Try.ntmps26
    go_wp2_with fail
    go_ret
    exact ⟨rfl, rfl⟩
theorem prefix_no (s p : ByteArray) (w : World) (h : ¬ p.data.toList <+: s.data.toList) :
    Calls Try.prog 19 #[.string s, .string p] w fun e w' => e = .returned (.bool false) ∧ w = w' := by
  have H := Lib.hid (inner_no s p w h)
  clear h
  go_enter Try.func19, Try.ntmps19
  go_wp2_with fail
  refine H.out.mono ?_
  rintro e w' ⟨rfl, rfl⟩
  go_wp2_with fail
  go_ret
  exact ⟨rfl, rfl⟩
end Go.Proofs.Ytolcfgeodjmckaa
