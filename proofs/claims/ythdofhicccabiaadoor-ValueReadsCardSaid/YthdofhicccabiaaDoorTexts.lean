/- The law ValueTexts walked: true at any value. -/
import Derived.Test.YthdofhicccabiaaDoorRefAll
namespace Go.Proofs.YthdofhicccabiaaDoor
open Go.RowKit

theorem textL_len {k n : Int} {s : ByteArray} (hg : goodB k n s = true) (hn : inI n = true) : (textL k n s).length ≤ 1000 := by
  rcases good_kinds hg with ⟨rfl, rfl, hs⟩ | ⟨rfl, h01, hs⟩ | ⟨rfl, hs⟩ | ⟨rfl, rfl, hs⟩
  · simp [textL]
  · rcases h01 with rfl | rfl <;> simp [textL]
  · rw [inI_iff] at hn
    have e : textL 2 n s = Lib.itoa n := rfl
    rw [e]
    unfold Lib.itoa
    split
    · have := digits_len 19 n.natAbs (by omega)
      rw [List.length_cons]; omega
    · have := digits_len 19 n.toNat (by omega)
      omega
  · have e : textL 3 0 s = 39 :: (qs s.data.toList ++ [39]) := rfl
    have h1 := qs_len s.data.toList
    have h2 := size_list (s := s) rfl
    rw [e, List.length_cons, List.length_append, List.length_singleton]
    omega

set_option maxHeartbeats 800000 in
theorem texts_bad (k n : Int) (s : ByteArray) (w : World) (h : goodB k n s = false) :
    Calls Tryd.prog 7 #[.agg #[.int .i64 k, .int .i64 n, .string s]] w fun e w' => e = .returned (.bool true) ∧ Below w.heap.size w w' := by
  have HA := Lib.hid fun w => h ▸ refGood_any k n s w
  clear h
  go_enter Tryd.func7, Tryd.ntmps7
  go_wp2_with fail
  have K := start3 w (.int .i64 k) (.int .i64 n) (.string s) 24
  refine (awake_any _).mono ?_
  rintro e w1 ⟨rfl, hb⟩
  replace K := keep3 K hb
  clear hb
  go_wp2_with fail
  refine (HA.out _).mono ?_
  rintro e w2 ⟨rfl, hb⟩
  replace K := keep3 K hb
  clear hb
  go_wp2_with fail
  refine (awake_any _).mono ?_
  rintro e w3 ⟨rfl, hb⟩
  replace K := keep3 K hb
  clear hb
  go_wp2_with fail
  go_ret
  exact ⟨rfl, K.1.1⟩

set_option maxHeartbeats 800000 in
theorem texts_good (k n : Int) (s : ByteArray) (w : World) (h : goodB k n s = true) (hn : inI n = true) (tab : Tab10 w) (hf : Far w) :
    Calls Tryd.prog 7 #[.agg #[.int .i64 k, .int .i64 n, .string s]] w fun e w' => e = .returned (.bool true) ∧ Below w.heap.size w w' := by
  have HA : Hid (∀ w, Calls Tryd.prog 12 #[.agg #[.int .i64 k, .int .i64 n, .string s]] w fun e w' => e = .returned (.bool true) ∧ Below w.heap.size w w') := Lib.hid fun w => h ▸ refGood_any k n s w
  have HT := Lib.hid fun w => text_any k n s w h hn
  have HR := Lib.hid fun w => refText_any k n s w h hn
  have HB : Hid (∀ w, Far w → Calls Tryd.prog 26 #[.string ⟨(textL k n s).toArray⟩] w fun e w' => e = .returned (.tuple #[.agg #[.int .i64 k, .int .i64 n, .string s], .int .i64 0]) ∧ Below w.heap.size w w') := Lib.hid fun w hf => by
    have := Read_any ⟨(textL k n s).toArray⟩ w (by show (textL k n s).toArray.size ≤ 1000; rw [List.size_toArray]; exact textL_len h hn) hf
    rw [show (⟨(textL k n s).toArray⟩ : ByteArray).data.toList = textL k n s by simp, readV_text h hn] at this
    exact this
  have HTab := Lib.hid tab
  have HF := Lib.hid hf
  clear h hn tab hf
  generalize (⟨(textL k n s).toArray⟩ : ByteArray) = t at *
  go_enter Tryd.func7, Tryd.ntmps7
  go_wp2_with fail
  have K := start3 w (.int .i64 k) (.int .i64 n) (.string s) 24
  refine (awake_any _).mono ?_
  rintro e w1 ⟨rfl, hb⟩
  replace K := keep3 K hb
  clear hb
  go_wp2_with fail
  refine (HA.out _).mono ?_
  rintro e w2 ⟨rfl, hb⟩
  replace K := keep3 K hb
  clear hb
  go_wp2_with fail
  refine (HT.out _ (HTab.out.keep K.1.1)).mono ?_
  rintro e w3 ⟨rfl, hb⟩
  replace K := keep3 K hb
  clear hb
  go_wp2_with fail
  refine (HB.out _ (HF.out.keep K.1.1 (Nat.le_refl _))).mono ?_
  rintro e w4 ⟨rfl, hb⟩
  replace K := keep3 K hb
  clear hb
  have N := start3 w4 (.int .i64 k) (.int .i64 n) (.string s) 24
  replace K := keep3 K ((Below.refl _ w4).alloc (Nat.le_refl _) (.cells #[.int .i64 k, .int .i64 n, .string s] 24))
  go_wp2_with fail
  refine (HR.out _).mono ?_
  rintro e w6 ⟨rfl, hb⟩
  replace K := keep3 K hb
  replace N := keep3 N hb
  clear hb
  go_wp2_with fail
  go_ret
  exact ⟨rfl, K.1.1⟩

theorem ValueTexts_any (k n : Int) (s : ByteArray) (w : World) (_ : s.size ≤ maxLen) (hn : inI n = true) (tab : Tab10 w) (hf : Far w) :
    Calls Tryd.prog 7 #[.agg #[.int .i64 k, .int .i64 n, .string s]] w fun e w' => e = .returned (.bool true) ∧ Below w.heap.size w w' := by
  cases h : goodB k n s
  · exact texts_bad k n s w h
  · exact texts_good k n s w h hn tab hf
end Go.Proofs.YthdofhicccabiaaDoor
