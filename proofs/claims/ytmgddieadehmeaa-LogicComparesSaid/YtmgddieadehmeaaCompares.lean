/- The law LogicCompares walked: true at any number and any two values. -/
import Derived.Test.YtmgddieadehmeaaIn
namespace Go.Proofs.Ytmgddieadehmeaa
open Go.RowKit

set_option maxHeartbeats 1600000 in
theorem compares_walk (r : Int) (ak an : Int) (sa : ByteArray) (bk bn : Int) (sb : ByteArray) (w : World) (ga gb rb : Bool) (t er : Int) (he : (rb = true ∧ er = 0) ∨ (rb = false ∧ er = 1))
    (HA : Hid (∀ w, Calls Try.prog 17 #[.agg #[.int .i64 ak, .int .i64 an, .string sa]] w fun e w' => e = .returned (.bool ga) ∧ Below w.heap.size w w'))
    (HB : Hid (∀ w, Calls Try.prog 17 #[.agg #[.int .i64 bk, .int .i64 bn, .string sb]] w fun e w' => e = .returned (.bool gb) ∧ Below w.heap.size w w'))
    (HO : Hid (∀ w, Calls Try.prog 18 #[.int .i64 r, .agg #[.int .i64 ak, .int .i64 an, .string sa], .agg #[.int .i64 bk, .int .i64 bn, .string sb]] w fun e w' => e = .returned (.tuple #[.int .i64 t, .int .i64 er]) ∧ Below w.heap.size w w'))
    (HR : Hid (∀ w, ga = true → gb = true → Calls Try.prog 19 #[.int .i64 r, .agg #[.int .i64 ak, .int .i64 an, .string sa], .agg #[.int .i64 bk, .int .i64 bn, .string sb]] w fun e w' => e = .returned (.tuple #[.int .i64 t, .bool rb]) ∧ Below w.heap.size w w')) :
    Calls Try.prog 5 #[.int .i64 r, .agg #[.int .i64 ak, .int .i64 an, .string sa], .agg #[.int .i64 bk, .int .i64 bn, .string sb]] w fun e w' => e = .returned (.bool true) ∧ Below w.heap.size w w' := by
  go_enter Try.func5, Try.ntmps5
  go_wp2_with fail
  have K := start6 w (.int .i64 ak) (.int .i64 an) (.string sa) (.int .i64 bk) (.int .i64 bn) (.string sb) 36
  refine (awake_any _).mono ?_
  rintro e w1 ⟨rfl, hb⟩
  replace K := keep6 K hb
  clear hb
  go_wp2_with fail
  refine (HA.out _).mono ?_
  rintro e w2 ⟨rfl, hb⟩
  replace K := keep6 K hb
  clear hb
  cases ga
  · go_wp2_with fail
    refine (awake_any _).mono ?_
    rintro e w3 ⟨rfl, hb⟩
    replace K := keep6 K hb
    clear hb
    go_wp2_with fail
    go_ret
    exact ⟨rfl, K.1.1⟩
  go_wp2_with fail
  refine (HB.out _).mono ?_
  rintro e w3 ⟨rfl, hb⟩
  replace K := keep6 K hb
  clear hb
  cases gb
  · go_wp2_with fail
    refine (awake_any _).mono ?_
    rintro e w4 ⟨rfl, hb⟩
    replace K := keep6 K hb
    clear hb
    go_wp2_with fail
    go_ret
    exact ⟨rfl, K.1.1⟩
  go_wp2_with fail
  refine (HO.out _).mono ?_
  rintro e w4 ⟨rfl, hb⟩
  replace K := keep6 K hb
  clear hb
  go_wp2_with fail
  refine (HR.out _ (by first | rfl | trivial) (by first | rfl | trivial)).mono ?_
  rintro e w5 ⟨rfl, hb⟩
  replace K := keep6 K hb
  clear hb
  rcases he with ⟨rfl, rfl⟩ | ⟨rfl, rfl⟩
  all_goals
    go_wp2_with fail
    go_ret
    exact ⟨ret_bool (by simp), K.1.1⟩

theorem LogicCompares_any (r : Int) (ak an : Int) (sa : ByteArray) (bk bn : Int) (sb : ByteArray) (w : World) (hsa : sa.size ≤ maxLen) :
    Calls Try.prog 5 #[.int .i64 r, .agg #[.int .i64 ak, .int .i64 an, .string sa], .agg #[.int .i64 bk, .int .i64 bn, .string sb]] w fun e w' => e = .returned (.bool true) ∧ Below w.heap.size w w' :=
  compares_walk r ak an sa bk bn sb w (goodB ak an sa) (goodB bk bn sb) (relB r) (ofT r ⟨ak, an, sa⟩ ⟨bk, bn, sb⟩) (relE r)
    (by cases h : relB r <;> simp [relE, h])
    (Lib.hid (refGood_any ak an sa)) (Lib.hid (refGood_any bk bn sb)) (Lib.hid (of_any r ⟨ak, an, sa⟩ ⟨bk, bn, sb⟩)) (Lib.hid fun w ga gb => refOf_any r ⟨ak, an, sa⟩ ⟨bk, bn, sb⟩ w ga gb hsa)
end Go.Proofs.Ytmgddieadehmeaa
