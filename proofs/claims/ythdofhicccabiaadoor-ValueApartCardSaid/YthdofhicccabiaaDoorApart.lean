/- The law ValueApart walked: true at any two values. -/
import Derived.Test.YthdofhicccabiaaDoorRuns
import Derived.Test.YthdofhicccabiaaDoorApartMath
namespace Go.Proofs.YthdofhicccabiaaDoor
open Go.RowKit

set_option maxHeartbeats 800000 in
theorem apart_bad (ak an : Int) (sa : ByteArray) (bk bn : Int) (sb : ByteArray) (w : World) (h : ¬ (goodB ak an sa = true ∧ goodB bk bn sb = true)) :
    Calls Tryd.prog 9 #[.agg #[.int .i64 ak, .int .i64 an, .string sa], .agg #[.int .i64 bk, .int .i64 bn, .string sb]] w fun e w' => e = .returned (.bool true) ∧ Below w.heap.size w w' := by
  have HA := Lib.hid (refGood_any ak an sa)
  have HB := Lib.hid (refGood_any bk bn sb)
  generalize goodB ak an sa = ga at *
  generalize goodB bk bn sb = gb at *
  go_enter Tryd.func9, Tryd.ntmps9
  go_wp2_with fail
  have K := start6 w (.int .i64 ak) (.int .i64 an) (.string sa) (.int .i64 bk) (.int .i64 bn) (.string sb) 24
  refine (awake_any _).mono ?_
  rintro e w1 ⟨rfl, hb⟩
  replace K := keep6 K hb
  clear hb
  go_wp2_with fail
  refine (HA.out _).mono ?_
  rintro e w2 ⟨rfl, hb⟩
  replace K := keep6 K hb
  clear hb
  cases ga
  · go_wp2_with fail
    refine (awake_any _).mono ?_
    rintro e w3 ⟨rfl, hb⟩
    replace K := keep6 K hb
    clear hb
    go_wp2_with fail
    go_ret
    exact ⟨rfl, K.1.1⟩
  · go_wp2_with fail
    refine (HB.out _).mono ?_
    rintro e w3 ⟨rfl, hb⟩
    replace K := keep6 K hb
    clear hb
    cases gb
    · go_wp2_with fail
      refine (awake_any _).mono ?_
      rintro e w4 ⟨rfl, hb⟩
      replace K := keep6 K hb
      clear hb
      go_wp2_with fail
      go_ret
      exact ⟨rfl, K.1.1⟩
    · exact absurd (by simp) h

set_option maxHeartbeats 800000 in
theorem apart_good (ak an : Int) (sa : ByteArray) (bk bn : Int) (sb : ByteArray) (w : World) (ha : goodB ak an sa = true) (hb : goodB bk bn sb = true) (ian : inI an = true) (ibn : inI bn = true) (tab : Tab10 w) :
    Calls Tryd.prog 9 #[.agg #[.int .i64 ak, .int .i64 an, .string sa], .agg #[.int .i64 bk, .int .i64 bn, .string sb]] w fun e w' => e = .returned (.bool true) ∧ Below w.heap.size w w' := by
  have HA : Hid (∀ w, Calls Tryd.prog 12 #[.agg #[.int .i64 ak, .int .i64 an, .string sa]] w fun e w' => e = .returned (.bool true) ∧ Below w.heap.size w w') := Lib.hid fun w => ha ▸ refGood_any ak an sa w
  have HB : Hid (∀ w, Calls Tryd.prog 12 #[.agg #[.int .i64 bk, .int .i64 bn, .string sb]] w fun e w' => e = .returned (.bool true) ∧ Below w.heap.size w w') := Lib.hid fun w => hb ▸ refGood_any bk bn sb w
  have TA := Lib.hid fun w => text_any ak an sa w ha ian
  have TB := Lib.hid fun w => text_any bk bn sb w hb ibn
  have hinj : (⟨(textL ak an sa).toArray⟩ : ByteArray) = ⟨(textL bk bn sb).toArray⟩ ↔ (ak = bk ∧ an = bn ∧ sa = sb) := by
    constructor
    · intro h
      have h2 : (textL ak an sa).toArray = (textL bk bn sb).toArray := congrArg ByteArray.data h
      have h3 := textL_inj ha hb (by simpa using congrArg Array.toList h2)
      exact ⟨h3.1, h3.2.1, bytes_ext h3.2.2⟩
    · rintro ⟨rfl, rfl, rfl⟩
      rfl
  have HTab := Lib.hid tab
  clear ha hb ian ibn tab
  generalize (⟨(textL ak an sa).toArray⟩ : ByteArray) = ta at *
  generalize (⟨(textL bk bn sb).toArray⟩ : ByteArray) = tb at *
  go_enter Tryd.func9, Tryd.ntmps9
  have HI := Lib.hid hinj
  clear hinj
  go_wp2_with fail
  have K := start6 w (.int .i64 ak) (.int .i64 an) (.string sa) (.int .i64 bk) (.int .i64 bn) (.string sb) 24
  refine (awake_any _).mono ?_
  rintro e w1 ⟨rfl, hb⟩
  replace K := keep6 K hb
  clear hb
  go_wp2_with fail
  refine (HA.out _).mono ?_
  rintro e w2 ⟨rfl, hb⟩
  replace K := keep6 K hb
  clear hb
  go_wp2_with fail
  refine (HB.out _).mono ?_
  rintro e w3 ⟨rfl, hb⟩
  replace K := keep6 K hb
  clear hb
  go_wp2_with fail
  replace K := keep6 K ((Below.refl _ w3).drew)
  by_cases he : ak = bk ∧ an = bn ∧ sa = sb
  · have ht := HI.out.2 he
    obtain ⟨rfl, rfl, rfl⟩ := he
    subst ht
    clear HI TB
    go_region_held3 (fun w' => w'.cell? ⟨w.heap.size, 0, none⟩ = some (.int .i64 ak) ∧ w'.cell? ⟨w.heap.size, 1, none⟩ = some (.int .i64 an) ∧ w'.cell? ⟨w.heap.size, 2, none⟩ = some (.string sa) ∧ w'.cell? ⟨w.heap.size + 1, 0, none⟩ = some (.int .i64 ak) ∧ w'.cell? ⟨w.heap.size + 1, 1, none⟩ = some (.int .i64 an) ∧ w'.cell? ⟨w.heap.size + 1, 2, none⟩ = some (.string sa)) (first | go_keep | exact K.2) ((go_at_call 25; (with_reducible refine (TA.out _ ?_).mono ?_); exact HTab.out.keep K.1.1; rintro e w5 ⟨rfl, hb⟩; replace K := keep6 K hb; clear hb))
    go_wp2
    go_ret
    exact ⟨rfl, K.1.1⟩
  · have ht : (ta.toList == tb.toList) = false := by
      rw [beq_eq_false_iff_ne]
      exact fun h => he (HI.out.1 (bytes_ext (by rw [← Lib.toList_data, ← Lib.toList_data, h])))
    clear HI
    by_cases h1 : ak = bk
    · subst h1
      by_cases h2 : an = bn
      · subst h2
        have h3 : ¬ sa.toList = sb.toList := fun h => he ⟨rfl, rfl, bytes_ext (by rw [← Lib.toList_data, ← Lib.toList_data, h])⟩
        clear he
        go_region_held3 (fun w' => w'.cell? ⟨w.heap.size, 0, none⟩ = some (.int .i64 ak) ∧ w'.cell? ⟨w.heap.size, 1, none⟩ = some (.int .i64 an) ∧ w'.cell? ⟨w.heap.size, 2, none⟩ = some (.string sa) ∧ w'.cell? ⟨w.heap.size + 1, 0, none⟩ = some (.int .i64 ak) ∧ w'.cell? ⟨w.heap.size + 1, 1, none⟩ = some (.int .i64 an) ∧ w'.cell? ⟨w.heap.size + 1, 2, none⟩ = some (.string sb)) (first | go_keep | exact K.2) (first | (go_at_call 25; (with_reducible refine (TA.out _ ?_).mono ?_); exact HTab.out.keep K.1.1; rintro e w5 ⟨rfl, hb⟩; replace K := keep6 K hb; clear hb) | (go_at_call 25; (with_reducible refine (TB.out _ ?_).mono ?_); exact HTab.out.keep K.1.1; rintro e w5 ⟨rfl, hb⟩; replace K := keep6 K hb; clear hb))
        go_wp2
        go_ret
        exact ⟨rfl, K.1.1⟩
      · clear he
        go_region_held3 (fun w' => w'.cell? ⟨w.heap.size, 0, none⟩ = some (.int .i64 ak) ∧ w'.cell? ⟨w.heap.size, 1, none⟩ = some (.int .i64 an) ∧ w'.cell? ⟨w.heap.size, 2, none⟩ = some (.string sa) ∧ w'.cell? ⟨w.heap.size + 1, 0, none⟩ = some (.int .i64 ak) ∧ w'.cell? ⟨w.heap.size + 1, 1, none⟩ = some (.int .i64 bn) ∧ w'.cell? ⟨w.heap.size + 1, 2, none⟩ = some (.string sb)) (first | go_keep | exact K.2) (first | (go_at_call 25; (with_reducible refine (TA.out _ ?_).mono ?_); exact HTab.out.keep K.1.1; rintro e w5 ⟨rfl, hb⟩; replace K := keep6 K hb; clear hb) | (go_at_call 25; (with_reducible refine (TB.out _ ?_).mono ?_); exact HTab.out.keep K.1.1; rintro e w5 ⟨rfl, hb⟩; replace K := keep6 K hb; clear hb))
        go_wp2
        go_ret
        exact ⟨rfl, K.1.1⟩
    · clear he
      go_region_held3 (fun w' => w'.cell? ⟨w.heap.size, 0, none⟩ = some (.int .i64 ak) ∧ w'.cell? ⟨w.heap.size, 1, none⟩ = some (.int .i64 an) ∧ w'.cell? ⟨w.heap.size, 2, none⟩ = some (.string sa) ∧ w'.cell? ⟨w.heap.size + 1, 0, none⟩ = some (.int .i64 bk) ∧ w'.cell? ⟨w.heap.size + 1, 1, none⟩ = some (.int .i64 bn) ∧ w'.cell? ⟨w.heap.size + 1, 2, none⟩ = some (.string sb)) (first | go_keep | exact K.2) (first | (go_at_call 25; (with_reducible refine (TA.out _ ?_).mono ?_); exact HTab.out.keep K.1.1; rintro e w5 ⟨rfl, hb⟩; replace K := keep6 K hb; clear hb) | (go_at_call 25; (with_reducible refine (TB.out _ ?_).mono ?_); exact HTab.out.keep K.1.1; rintro e w5 ⟨rfl, hb⟩; replace K := keep6 K hb; clear hb))
      go_wp2
      go_ret
      exact ⟨rfl, K.1.1⟩

theorem ValueApart_any (ak an : Int) (sa : ByteArray) (bk bn : Int) (sb : ByteArray) (w : World) (_ : sa.size ≤ maxLen) (_ : sb.size ≤ maxLen) (ian : inI an = true) (ibn : inI bn = true) (tab : Tab10 w) :
    Calls Tryd.prog 9 #[.agg #[.int .i64 ak, .int .i64 an, .string sa], .agg #[.int .i64 bk, .int .i64 bn, .string sb]] w fun e w' => e = .returned (.bool true) ∧ Below w.heap.size w w' := by
  by_cases h : goodB ak an sa = true ∧ goodB bk bn sb = true
  · exact apart_good ak an sa bk bn sb w h.1 h.2 ian ibn tab
  · exact apart_bad ak an sa bk bn sb w h
end Go.Proofs.YthdofhicccabiaaDoor
