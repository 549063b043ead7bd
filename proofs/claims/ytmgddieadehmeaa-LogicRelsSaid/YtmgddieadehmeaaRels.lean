/- The law LogicRels walked: true at any number. -/
import Derived.Test.YtmgddieadehmeaaIn
namespace Go.Proofs.Ytmgddieadehmeaa
open Go.RowKit

set_option maxHeartbeats 1600000 in
theorem rels_walk (r x y er : Int) (s : ByteArray) (w : World) (hr : (r < 1 ∧ er = 1) ∨ (6 < r ∧ er = 1) ∨ (1 ≤ r ∧ r ≤ 6 ∧ er = 0))
    (HO : Hid (∀ w, Calls Try.prog 20 #[.int .i64 r] w fun e w' => e = .returned (.tuple #[.int .i64 x, .int .i64 er]) ∧ Below w.heap.size w w'))
    (HT : Hid (∀ w, Calls Try.prog 21 #[.int .i64 r] w fun e w' => e = .returned (.tuple #[.int .i64 y, .int .i64 er]) ∧ Below w.heap.size w w'))
    (HO' : Hid (∀ w, Calls Try.prog 22 #[.int .i64 r] w fun e w' => e = .returned (.int .i64 x) ∧ w = w'))
    (HT' : Hid (∀ w, Calls Try.prog 23 #[.int .i64 r] w fun e w' => e = .returned (.int .i64 y) ∧ w = w'))
    (HS : Hid (∀ w, Calls Try.prog 24 #[.int .i64 r] w fun e w' => e = .returned (.string s) ∧ w = w'))
    (HS' : Hid (∀ w, Calls Try.prog 25 #[.int .i64 r] w fun e w' => e = .returned (.string s) ∧ w = w')) :
    Calls Try.prog 6 #[.int .i64 r] w fun e w' => e = .returned (.bool true) ∧ Below w.heap.size w w' := by
  rcases hr with ⟨hr, rfl⟩ | ⟨hr, rfl⟩ | ⟨h1, h6, rfl⟩
  all_goals
    go_enter Try.func6, Try.ntmps6
    go_wp2_with fail
    refine (awake_any _).mono ?_
    rintro e w1 ⟨rfl, hb1⟩
    go_wp2_with fail
    refine (HO.out _).mono ?_
    rintro e w2 ⟨rfl, hb2⟩
    go_wp2_with fail
    refine (HT.out _).mono ?_
    rintro e w3 ⟨rfl, hb3⟩
    go_wp2_with fail
    refine (HO'.out _).mono ?_
    rintro e w4 ⟨rfl, rfl⟩
    go_wp2_with fail
    refine (HT'.out _).mono ?_
    rintro e w4 ⟨rfl, rfl⟩
    go_wp2_with fail
    refine (HS.out _).mono ?_
    rintro e w4 ⟨rfl, rfl⟩
    go_wp2_with fail
    refine (HS'.out _).mono ?_
    rintro e w4 ⟨rfl, rfl⟩
    go_wp2_with fail
    go_ret
    exact ⟨ret_bool (by first | (simp; done) | (simp; omega)), (hb1.trans (hb2.mono hb1.size)).trans (hb3.mono (Nat.le_trans hb1.size hb2.size))⟩

theorem LogicRels_any (r : Int) (w : World) :
    Calls Try.prog 6 #[.int .i64 r] w fun e w' => e = .returned (.bool true) ∧ Below w.heap.size w w' :=
  rels_walk r (oppT r) (turnT r) (relE r) (signS r) w
    (by
      rcases (show (r < 1 ∨ 6 < r) ∨ (1 ≤ r ∧ r ≤ 6) by omega) with h | ⟨h1, h2⟩
      · have e : relE r = 1 := by unfold relE; rw [relB_false h]; rfl
        rcases h with h | h
        · exact .inl ⟨h, e⟩
        · exact .inr (.inl ⟨h, e⟩)
      · exact .inr (.inr ⟨h1, h2, by unfold relE; rw [if_pos]; simp [relB]; omega⟩))
    (Lib.hid (opposite_any r)) (Lib.hid (turned_any r)) (Lib.hid (refOpposite_any r)) (Lib.hid (refTurned_any r)) (Lib.hid (sign_any r)) (Lib.hid (refSign_any r))
end Go.Proofs.Ytmgddieadehmeaa
