/- The contract of the reference's Text, at all good values. -/
import Derived.Test.YtiahojbliaaklaaDoorRefQuote
namespace Go.Proofs.YtiahojbliaaklaaDoor
open Go.RowKit

set_option maxHeartbeats 400000 in
theorem refText_word (k n : Int) (s : ByteArray) (w : World) (h : k = 0 ∨ k = 1 ∧ n = 0 ∨ k = 1 ∧ n = 1) :
    Calls Tryd.prog 13 #[.agg #[.int .i64 k, .int .i64 n, .string s]] w fun e w' => e = .returned (.string ⟨(textL k n s).toArray⟩) ∧ Below w.heap.size w w' := by
  rcases h with rfl | ⟨rfl, rfl⟩ | ⟨rfl, rfl⟩
  · go_enter Tryd.func13, Tryd.ntmps13
    go_wp2
    go_ret
    exact ⟨rfl, (Below.refl _ _).alloc (Nat.le_refl _) _⟩
  · go_enter Tryd.func13, Tryd.ntmps13
    go_wp2
    go_ret
    exact ⟨rfl, (Below.refl _ _).alloc (Nat.le_refl _) _⟩
  · go_enter Tryd.func13, Tryd.ntmps13
    go_wp2
    go_ret
    exact ⟨rfl, (Below.refl _ _).alloc (Nat.le_refl _) _⟩

set_option maxHeartbeats 400000 in
theorem refText_int (n : Int) (s : ByteArray) (w : World) (hn : inI n = true) :
    Calls Tryd.prog 13 #[.agg #[.int .i64 2, .int .i64 n, .string s]] w fun e w' => e = .returned (.string ⟨(Lib.itoa n).toArray⟩) ∧ Below w.heap.size w w' := by
  have HS := Lib.hid fun w => refSize_any n w hn
  have h64 : n.natAbs < 18446744073709551616 := by rw [inI_iff] at hn; omega
  have HD := Lib.hid fun w => refDigits_any n.natAbs h64 w
  have hl : (Lib.decDigits n.natAbs).length ≤ 20 := digits_len 19 _ (by omega)
  have hb := (Below.refl w.heap.size w).alloc (Nat.le_refl _) (.cells #[.int .i64 2, .int .i64 n, .string s] 35)
  clear hn h64
  by_cases hneg : n < 0
  · have e : Lib.itoa n = 45 :: Lib.decDigits n.natAbs := by unfold Lib.itoa; rw [if_pos hneg]
    rw [e]
    clear e
    generalize Lib.decDigits n.natAbs = l at *
    generalize n.natAbs = u at *
    go_enter Tryd.func13, Tryd.ntmps13
    go_wp2_with fail
    refine (HS.out _).mono ?_
    rintro e w1 ⟨rfl, rfl⟩
    go_wp2_with fail
    refine (HD.out _).mono ?_
    rintro e w1 ⟨rfl, hb1⟩
    go_wp2_with fail
    go_ret
    exact ⟨ret_bytes (by simp), hb.trans (hb1.mono (by simp))⟩
  · have e : Lib.itoa n = Lib.decDigits n.natAbs := by unfold Lib.itoa; rw [if_neg hneg, show n.toNat = n.natAbs by omega]
    rw [e]
    clear e
    generalize Lib.decDigits n.natAbs = l at *
    generalize n.natAbs = u at *
    go_enter Tryd.func13, Tryd.ntmps13
    go_wp2_with fail
    refine (HS.out _).mono ?_
    rintro e w1 ⟨rfl, rfl⟩
    go_wp2_with fail
    refine (HD.out _).mono ?_
    rintro e w1 ⟨rfl, hb1⟩
    go_wp2_with fail
    go_ret
    exact ⟨rfl, hb.trans (hb1.mono (by simp))⟩

theorem refText_any (k n : Int) (s : ByteArray) (w : World) (hg : goodB k n s = true) (hn : inI n = true) :
    Calls Tryd.prog 13 #[.agg #[.int .i64 k, .int .i64 n, .string s]] w fun e w' => e = .returned (.string ⟨(textL k n s).toArray⟩) ∧ Below w.heap.size w w' := by
  rcases good_kinds hg with ⟨rfl, rfl, hs⟩ | ⟨rfl, h01, hs⟩ | ⟨rfl, hs⟩ | ⟨rfl, rfl, hs⟩
  · exact refText_word 0 0 s w (.inl rfl)
  · rcases h01 with rfl | rfl
    · exact refText_word 1 0 s w (.inr (.inl ⟨rfl, rfl⟩))
    · exact refText_word 1 1 s w (.inr (.inr ⟨rfl, rfl⟩))
  · exact refText_int n s w hn
  · exact refText_text 0 s w hs
end Go.Proofs.YtiahojbliaaklaaDoor
