/- The law ValueReads walked: true at any text. -/
import Derived.Test.YthdofhicccabiaaDoorRefReadAll
import Derived.Test.YthdofhicccabiaaDoorTexts
namespace Go.Proofs.YthdofhicccabiaaDoor
open Go.RowKit

theorem size_arr (s : ByteArray) : (⟨s.data.toList.toArray⟩ : ByteArray) = s := rfl
/-- What is read without an error is a good value, and the text is its text. -/
theorem readV_back {l : List UInt8} {k n : Int} {t : ByteArray} (h : readV l = .tuple #[.agg #[.int .i64 k, .int .i64 n, .string t], .int .i64 0]) : goodB k n t = true ∧ inI n = true ∧ textL k n t = l := by
  unfold readV at h
  split at h
  · rename_i e
    simp only [vz, Value.tuple.injEq, Array.mk.injEq, List.cons.injEq, Value.agg.injEq, Value.int.injEq, Value.string.injEq, true_and, and_true] at h
    obtain ⟨rfl, rfl, rfl⟩ := h
    rw [e]; exact ⟨by simp [goodB], rfl, rfl⟩
  · split at h
    · rename_i e
      simp only [Value.tuple.injEq, Array.mk.injEq, List.cons.injEq, Value.agg.injEq, Value.int.injEq, Value.string.injEq, true_and, and_true] at h
      obtain ⟨rfl, rfl, rfl⟩ := h
      rw [e]; exact ⟨by simp [goodB], rfl, rfl⟩
    · split at h
      · rename_i e
        simp only [Value.tuple.injEq, Array.mk.injEq, List.cons.injEq, Value.agg.injEq, Value.int.injEq, Value.string.injEq, true_and, and_true] at h
        obtain ⟨rfl, rfl, rfl⟩ := h
        rw [e]; exact ⟨by simp [goodB], rfl, rfl⟩
      · have hint : ∀ l, intRes l = .tuple #[.agg #[.int .i64 k, .int .i64 n, .string t], .int .i64 0] → goodB k n t = true ∧ inI n = true ∧ textL k n t = l := by
          intro l h
          unfold intRes at h
          split at h
          · rename_i hw
            split at h
            · rename_i hi
              simp only [vi, Value.tuple.injEq, Array.mk.injEq, List.cons.injEq, Value.agg.injEq, Value.int.injEq, Value.string.injEq, true_and, and_true] at h
              obtain ⟨rfl, rfl, rfl⟩ := h
              exact ⟨by simp [goodB], hi, itoa_ival hw⟩
            · simp [vz] at h
          · simp [vz] at h
        split at h
        · rename_i c r _ _ _
          split at h
          · rename_i hc
            subst hc
            cases hr : readB r with
            | none => rw [hr] at h; simp [textRes, vz] at h
            | some u =>
              rw [hr] at h
              unfold textRes at h
              simp only at h
              split at h
              · rename_i hu
                simp only [Value.tuple.injEq, Array.mk.injEq, List.cons.injEq, Value.agg.injEq, Value.int.injEq, Value.string.injEq, true_and, and_true] at h
                obtain ⟨rfl, rfl, rfl⟩ := h
                refine ⟨?_, by decide, ?_⟩
                · have : (⟨u.toArray⟩ : ByteArray).size = u.length := size_list (by simp)
                  simp [goodB, this, hu]
                · have e : textL 3 0 ⟨u.toArray⟩ = 39 :: (qs u ++ [39]) := by simp [textL]
                  rw [e, ← qs_of_readB _ _ _ (Nat.le_refl _) hr]
              · simp [vz] at h
          · exact hint _ h
        · exact hint _ h
theorem readV_form (l : List UInt8) : ∃ k n t e, readV l = .tuple #[.agg #[.int .i64 k, .int .i64 n, .string t], .int .i64 e] := by
  unfold readV
  split
  · exact ⟨_, _, _, _, rfl⟩
  · split
    · exact ⟨_, _, _, _, rfl⟩
    · split
      · exact ⟨_, _, _, _, rfl⟩
      · split
        · split
          · exact textRes_form _
          · exact intRes_form _
        · exact intRes_form _

set_option maxHeartbeats 800000 in
theorem reads_long (s : ByteArray) (w : World) (h : 1000 < s.size) :
    Calls Tryd.prog 8 #[.string s] w fun e w' => e = .returned (.bool true) ∧ Below w.heap.size w w' := by
  have h' : (1000 : Int) < s.size := by omega
  go_enter Tryd.func8, Tryd.ntmps8
  go_wp2_with fail
  refine (awake_any _).mono ?_
  rintro e w1 ⟨rfl, hb⟩
  go_wp2_with fail
  refine (awake_any _).mono ?_
  rintro e w2 ⟨rfl, hb2⟩
  go_wp2_with fail
  go_ret
  exact ⟨rfl, hb.trans (hb2.mono hb.size)⟩

set_option maxHeartbeats 800000 in
theorem reads_short (s : ByteArray) (w : World) (h : ¬ 1000 < s.size) (tab : Tab10 w) (hf : Far w) :
    Calls Tryd.prog 8 #[.string s] w fun e w' => e = .returned (.bool true) ∧ Below w.heap.size w w' := by
  obtain ⟨k, n, t, c, hv⟩ := readV_form s.data.toList
  have HB : Hid (∀ w, Far w → Calls Tryd.prog 26 #[.string s] w fun e w' => e = .returned (.tuple #[.agg #[.int .i64 k, .int .i64 n, .string t], .int .i64 c]) ∧ Below w.heap.size w w') := Lib.hid fun w hf => hv ▸ Read_any s w (by omega) hf
  have HR : Hid (∀ w, Calls Tryd.prog 28 #[.string s] w fun e w' => e = .returned (.tuple #[.agg #[.int .i64 k, .int .i64 n, .string t], .int .i64 c]) ∧ Below w.heap.size w w') := Lib.hid fun w => hv ▸ refRead_any s w (by omega)
  have HT : Hid (c = 0 → ∀ w, Tab10 w → Calls Tryd.prog 25 #[.agg #[.int .i64 k, .int .i64 n, .string t]] w fun e w' => e = .returned (.string s) ∧ Below w.heap.size w w') := Lib.hid fun hc w ht => by
    subst hc
    obtain ⟨a, b, e⟩ := readV_back hv
    have := text_any k n t w a b ht
    rw [e] at this
    exact this
  have h' : ¬ (1000 : Int) < s.size := by omega
  have HTab := Lib.hid tab
  have HF := Lib.hid hf
  clear hv tab hf
  go_enter Tryd.func8, Tryd.ntmps8
  go_wp2_with fail
  refine (awake_any _).mono ?_
  rintro e w1 ⟨rfl, hb⟩
  have K : Ran w 0 w1 := ⟨hb, by have := hb.size; omega⟩
  clear hb
  go_wp2_with fail
  refine (HB.out _ (HF.out.keep K.1 (Nat.le_refl _))).mono ?_
  rintro e w2 ⟨rfl, hb⟩
  replace K := K.step hb
  clear hb
  by_cases hc : c = 0
  · subst hc
    have N := start3 w2 (.int .i64 k) (.int .i64 n) (.string t) 24
    replace K := K.step ((Below.refl _ w2).alloc (Nat.le_refl _) (.cells #[.int .i64 k, .int .i64 n, .string t] 24))
    go_wp2_with fail
    refine (HR.out _).mono ?_
    rintro e w3 ⟨rfl, hb⟩
    replace K := K.step hb
    replace N := keep3 N hb
    clear hb
    have M := start3 w3 (.int .i64 k) (.int .i64 n) (.string t) 24
    replace K := K.step ((Below.refl _ w3).alloc (Nat.le_refl _) (.cells #[.int .i64 k, .int .i64 n, .string t] 24))
    replace N := keep3 N ((Below.refl _ w3).alloc (Nat.le_refl _) (.cells #[.int .i64 k, .int .i64 n, .string t] 24))
    go_wp2_with fail
    refine (HT.out trivial _ (HTab.out.keep K.1)).mono ?_
    rintro e w4 ⟨rfl, hb⟩
    replace K := K.step hb
    go_wp2_with fail
    go_ret
    exact ⟨rfl, K.1⟩
  · have hc' : (c != 0) = true := by rw [bne_iff_ne]; exact hc
    have N := start3 w2 (.int .i64 k) (.int .i64 n) (.string t) 24
    replace K := K.step ((Below.refl _ w2).alloc (Nat.le_refl _) (.cells #[.int .i64 k, .int .i64 n, .string t] 24))
    go_wp2_with fail
    refine (HR.out _).mono ?_
    rintro e w3 ⟨rfl, hb⟩
    replace K := K.step hb
    replace N := keep3 N hb
    clear hb
    have M := start3 w3 (.int .i64 k) (.int .i64 n) (.string t) 24
    replace K := K.step ((Below.refl _ w3).alloc (Nat.le_refl _) (.cells #[.int .i64 k, .int .i64 n, .string t] 24))
    replace N := keep3 N ((Below.refl _ w3).alloc (Nat.le_refl _) (.cells #[.int .i64 k, .int .i64 n, .string t] 24))
    go_wp2_with fail
    go_ret
    exact ⟨rfl, K.1⟩

theorem ValueReads_any (s : ByteArray) (w : World) (_ : s.size ≤ maxLen) (tab : Tab10 w) (hf : Far w) :
    Calls Tryd.prog 8 #[.string s] w fun e w' => e = .returned (.bool true) ∧ Below w.heap.size w w' := by
  by_cases h : 1000 < s.size
  · exact reads_long s w h
  · exact reads_short s w h tab hf
end Go.Proofs.YthdofhicccabiaaDoor
