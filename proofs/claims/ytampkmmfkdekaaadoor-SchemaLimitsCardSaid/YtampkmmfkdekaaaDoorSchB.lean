/- Layer 6's fixed fact walked. -/
import Derived.Test.YtampkmmfkdekaaaDoorSchA
namespace Go.Proofs.YtampkmmfkdekaaaDoor
open Go.RowKit

set_option maxHeartbeats 1600000 in
theorem refInt6_any (n : Int) (w : World) :
    Calls Tryd.prog 10 #[.int .i64 n] w fun e w' => e = .returned (.agg #[.int .i64 2, .int .i64 n, .string ⟨#[]⟩]) ∧ w.alloc (.cells #[.int .i64 2, .int .i64 n, .string ⟨#[]⟩] 29) = w' := by
  go_enter Tryd.func10, Tryd.ntmps10
  go_wp2
  exact bodyPost_ret (v := .agg #[.int .i64 2, .int .i64 n, .string ⟨#[]⟩]) (by simp [results, Tryd.results10, go_sem]) rfl ⟨rfl, rfl⟩
theorem ex_tabs (w : World) : TabsAt (((w.alloc (.cells #[.string ⟨#[97]⟩, .int .i64 2, .bool false, .string ⟨#[98]⟩, .int .i64 3, .bool true] 39)).alloc (.cells #[.string ⟨#[116]⟩, .slice (some ⟨w.heap.size, 0, none⟩) 2 2, .int .i64 1] 24)).alloc (.cells #[.string ⟨#[116]⟩, .slice (some ⟨w.heap.size, 0, none⟩) 2 2, .int .i64 1] 24)).heap.size (((w.alloc (.cells #[.string ⟨#[97]⟩, .int .i64 2, .bool false, .string ⟨#[98]⟩, .int .i64 3, .bool true] 39)).alloc (.cells #[.string ⟨#[116]⟩, .slice (some ⟨w.heap.size, 0, none⟩) 2 2, .int .i64 1] 24)).alloc (.cells #[.string ⟨#[116]⟩, .slice (some ⟨w.heap.size, 0, none⟩) 2 2, .int .i64 1] 24)) (some ⟨w.heap.size + 1 + 1, 0, none⟩) [exTab (some ⟨w.heap.size, 0, none⟩)] := by
  have h0 := ex_cols w 39
  have ea : (w.alloc (.cells #[.string ⟨#[97]⟩, .int .i64 2, .bool false, .string ⟨#[98]⟩, .int .i64 3, .bool true] 39)).heap.size = w.heap.size + 1 := by simp
  generalize w.alloc (.cells #[.string ⟨#[97]⟩, .int .i64 2, .bool false, .string ⟨#[98]⟩, .int .i64 3, .bool true] 39) = wa at *
  have h1 := (h0.keep (World.grownBy_alloc wa (.cells #[.string ⟨#[116]⟩, .slice (some ⟨w.heap.size, 0, none⟩) 2 2, .int .i64 1] 24) none) (by simp)).mono (B' := (wa.alloc (.cells #[.string ⟨#[116]⟩, .slice (some ⟨w.heap.size, 0, none⟩) 2 2, .int .i64 1] 24)).heap.size) (by simp)
  have eb : (wa.alloc (.cells #[.string ⟨#[116]⟩, .slice (some ⟨w.heap.size, 0, none⟩) 2 2, .int .i64 1] 24)).heap.size = w.heap.size + 1 + 1 := by simp [ea]
  generalize wa.alloc (.cells #[.string ⟨#[116]⟩, .slice (some ⟨w.heap.size, 0, none⟩) 2 2, .int .i64 1] 24) = wb at *
  have h2 := (h1.keep (World.grownBy_alloc wb (.cells #[.string ⟨#[116]⟩, .slice (some ⟨w.heap.size, 0, none⟩) 2 2, .int .i64 1] 24) none) (by simp)).mono (B' := (wb.alloc (.cells #[.string ⟨#[116]⟩, .slice (some ⟨w.heap.size, 0, none⟩) 2 2, .int .i64 1] 24)).heap.size) (by simp)
  have e := heap_alloc_new wb (.cells #[.string ⟨#[116]⟩, .slice (some ⟨w.heap.size, 0, none⟩) 2 2, .int .i64 1] 24)
  rw [eb] at e
  refine ⟨by simp, fun t ht => ?_, .inr ⟨w.heap.size + 1 + 1, 0, rfl, by simp [eb], fun i hi => ?_⟩⟩
  · simp only [List.mem_cons, List.not_mem_nil, or_false] at ht
    subst ht
    exact h2
  · have hi' : i = 0 := by simpa using hi
    subst hi'
    rw [cell_of_row _ _ (0 + 0 * 3) _ _ _ e, cell_of_row _ _ (0 + 0 * 3 + 1) _ _ _ e, cell_of_row _ _ (0 + 0 * 3 + 2) _ _ _ e]
    exact ⟨rfl, rfl, rfl⟩
theorem ex_box (w : World) : (((w.alloc (.cells #[.string ⟨#[97]⟩, .int .i64 2, .bool false, .string ⟨#[98]⟩, .int .i64 3, .bool true] 39)).alloc (.cells #[.string ⟨#[116]⟩, .slice (some ⟨w.heap.size, 0, none⟩) 2 2, .int .i64 1] 24)).alloc (.cells #[.string ⟨#[116]⟩, .slice (some ⟨w.heap.size, 0, none⟩) 2 2, .int .i64 1] 24)).cell? ⟨w.heap.size + 1, 0, none⟩ = some (.string ⟨#[116]⟩) ∧ (((w.alloc (.cells #[.string ⟨#[97]⟩, .int .i64 2, .bool false, .string ⟨#[98]⟩, .int .i64 3, .bool true] 39)).alloc (.cells #[.string ⟨#[116]⟩, .slice (some ⟨w.heap.size, 0, none⟩) 2 2, .int .i64 1] 24)).alloc (.cells #[.string ⟨#[116]⟩, .slice (some ⟨w.heap.size, 0, none⟩) 2 2, .int .i64 1] 24)).cell? ⟨w.heap.size + 1, 1, none⟩ = some (.slice (some ⟨w.heap.size, 0, none⟩) 2 2) ∧ (((w.alloc (.cells #[.string ⟨#[97]⟩, .int .i64 2, .bool false, .string ⟨#[98]⟩, .int .i64 3, .bool true] 39)).alloc (.cells #[.string ⟨#[116]⟩, .slice (some ⟨w.heap.size, 0, none⟩) 2 2, .int .i64 1] 24)).alloc (.cells #[.string ⟨#[116]⟩, .slice (some ⟨w.heap.size, 0, none⟩) 2 2, .int .i64 1] 24)).cell? ⟨w.heap.size + 1, 2, none⟩ = some (.int .i64 1) := by
  have ea : (w.alloc (.cells #[.string ⟨#[97]⟩, .int .i64 2, .bool false, .string ⟨#[98]⟩, .int .i64 3, .bool true] 39)).heap.size = w.heap.size + 1 := by simp
  generalize w.alloc (.cells #[.string ⟨#[97]⟩, .int .i64 2, .bool false, .string ⟨#[98]⟩, .int .i64 3, .bool true] 39) = wa at *
  have h := box3_new6 wa (.string ⟨#[116]⟩) (.slice (some ⟨w.heap.size, 0, none⟩) 2 2) (.int .i64 1) 24
  rw [ea] at h
  have g := World.grownBy_alloc (wa.alloc (.cells #[.string ⟨#[116]⟩, .slice (some ⟨w.heap.size, 0, none⟩) 2 2, .int .i64 1] 24)) (.cells #[.string ⟨#[116]⟩, .slice (some ⟨w.heap.size, 0, none⟩) 2 2, .int .i64 1] 24) none
  exact ⟨g.cell h.1 (by simp), g.cell h.2.1 (by simp), g.cell h.2.2 (by simp)⟩
set_option maxRecDepth 100000 in
set_option maxHeartbeats 6400000 in
theorem awake6_any (w : World) :
    Calls Tryd.prog 5 #[] w fun e w' => e = .returned (.bool true) ∧ w.grownBy w' none := by
  have HK := Lib.hid (check_ok (some ⟨w.heap.size + 1 + 1, 0, none⟩) 1 [exTab (some ⟨w.heap.size, 0, none⟩)] (((w.alloc (.cells #[.string ⟨#[97]⟩, .int .i64 2, .bool false, .string ⟨#[98]⟩, .int .i64 3, .bool true] 39)).alloc (.cells #[.string ⟨#[116]⟩, .slice (some ⟨w.heap.size, 0, none⟩) 2 2, .int .i64 1] 24)).alloc (.cells #[.string ⟨#[116]⟩, .slice (some ⟨w.heap.size, 0, none⟩) 2 2, .int .i64 1] 24)) (ex_tabs w) (by simp) (ex_good _))
  have K0 : Hid (w.grownBy (((w.alloc (.cells #[.string ⟨#[97]⟩, .int .i64 2, .bool false, .string ⟨#[98]⟩, .int .i64 3, .bool true] 39)).alloc (.cells #[.string ⟨#[116]⟩, .slice (some ⟨w.heap.size, 0, none⟩) 2 2, .int .i64 1] 24)).alloc (.cells #[.string ⟨#[116]⟩, .slice (some ⟨w.heap.size, 0, none⟩) 2 2, .int .i64 1] 24)) none) := Lib.hid (((World.grownBy_alloc w _ none).trans (World.grownBy_alloc _ _ none)).trans (World.grownBy_alloc _ _ none))
  have HC0 := Lib.hid ((ex_tabs w).2.1 (exTab (some ⟨w.heap.size, 0, none⟩)) (by simp))
  have HB0 := Lib.hid (ex_box w)
  go_enter Tryd.func5, Tryd.ntmps5
  go_wp2_with fail
  refine HK.out.mono ?_
  rintro e w1 ⟨rfl, hg⟩
  have K1 := Lib.hid (K0.out.trans hg)
  have HC1 : Hid (∀ X, w1.grownBy X none → ColsAt X.heap.size X (some ⟨w.heap.size, 0, none⟩) exCols) := Lib.hid fun X hX => ((HC0.out.keep (hg.trans hX) (by simp)).mono (hg.trans hX).size)
  have HB1 : Hid (∀ X, w1.grownBy X none → X.cell? ⟨w.heap.size + 1, 0, none⟩ = some (.string ⟨#[116]⟩) ∧ X.cell? ⟨w.heap.size + 1, 1, none⟩ = some (.slice (some ⟨w.heap.size, 0, none⟩) 2 2) ∧ X.cell? ⟨w.heap.size + 1, 2, none⟩ = some (.int .i64 1)) := Lib.hid fun X hX => ⟨(hg.trans hX).cell HB0.out.1 (by simp), (hg.trans hX).cell HB0.out.2.1 (by simp), (hg.trans hX).cell HB0.out.2.2 (by simp)⟩
  have RA : Hid (∀ X, w1.grownBy X none → Calls Tryd.prog 7 #[.agg #[.string ⟨#[116]⟩, .slice (some ⟨w.heap.size, 0, none⟩) 2 2, .int .i64 1], .slice (some ⟨X.heap.size, 0, none⟩) 2 2] (X.alloc (.cells #[.int .i64 2, .int .i64 1, .string ⟨#[]⟩, .int .i64 0, .int .i64 0, .string ⟨#[]⟩] 29)).drew fun e w' => e = .returned (.int .i64 0) ∧ (X.alloc (.cells #[.int .i64 2, .int .i64 1, .string ⟨#[]⟩, .int .i64 0, .int .i64 0, .string ⟨#[]⟩] 29)).drew.grownBy w' none) := Lib.hid fun X hX => by
    have gX := grown_drew6 (World.grownBy_alloc X (.cells #[.int .i64 2, .int .i64 1, .string ⟨#[]⟩, .int .i64 0, .int .i64 0, .string ⟨#[]⟩] 29) none)
    have hv : VvAt (X.alloc (.cells #[.int .i64 2, .int .i64 1, .string ⟨#[]⟩, .int .i64 0, .int .i64 0, .string ⟨#[]⟩] 29)).drew.heap.size (X.alloc (.cells #[.int .i64 2, .int .i64 1, .string ⟨#[]⟩, .int .i64 0, .int .i64 0, .string ⟨#[]⟩] 29)).drew (some ⟨X.heap.size, 0, none⟩) [⟨2, 1, ⟨#[]⟩⟩, ⟨0, 0, ⟨#[]⟩⟩] := row2_at X 29 ⟨2, 1, ⟨#[]⟩⟩ ⟨0, 0, ⟨#[]⟩⟩
    refine (row_any6 ⟨#[116]⟩ 1 (some ⟨w.heap.size, 0, none⟩) (some ⟨X.heap.size, 0, none⟩) 2 2 exCols [⟨2, 1, ⟨#[]⟩⟩, ⟨0, 0, ⟨#[]⟩⟩] _ (HC1.out _ (hX.trans gX)) hv).mono ?_
    rintro e w' ⟨⟨h, _⟩, hg⟩
    exact ⟨h ex_fits.1, hg⟩
  have RB : Hid (∀ X, w1.grownBy X none → Calls Tryd.prog 7 #[.agg #[.string ⟨#[116]⟩, .slice (some ⟨w.heap.size, 0, none⟩) 2 2, .int .i64 1], .slice (some ⟨X.heap.size, 0, none⟩) 2 2] (X.alloc (.cells #[.int .i64 0, .int .i64 0, .string ⟨#[]⟩, .int .i64 0, .int .i64 0, .string ⟨#[]⟩] 29)) fun e w' => e = .returned (.int .i64 20) ∧ (X.alloc (.cells #[.int .i64 0, .int .i64 0, .string ⟨#[]⟩, .int .i64 0, .int .i64 0, .string ⟨#[]⟩] 29)).grownBy w' none) := Lib.hid fun X hX => by
    have gX := World.grownBy_alloc X (.cells #[.int .i64 0, .int .i64 0, .string ⟨#[]⟩, .int .i64 0, .int .i64 0, .string ⟨#[]⟩] 29) none
    have hv : VvAt (X.alloc (.cells #[.int .i64 0, .int .i64 0, .string ⟨#[]⟩, .int .i64 0, .int .i64 0, .string ⟨#[]⟩] 29)).heap.size (X.alloc (.cells #[.int .i64 0, .int .i64 0, .string ⟨#[]⟩, .int .i64 0, .int .i64 0, .string ⟨#[]⟩] 29)) (some ⟨X.heap.size, 0, none⟩) [⟨0, 0, ⟨#[]⟩⟩, ⟨0, 0, ⟨#[]⟩⟩] := row2_at X 29 ⟨0, 0, ⟨#[]⟩⟩ ⟨0, 0, ⟨#[]⟩⟩
    refine (row_any6 ⟨#[116]⟩ 1 (some ⟨w.heap.size, 0, none⟩) (some ⟨X.heap.size, 0, none⟩) 2 2 exCols [⟨0, 0, ⟨#[]⟩⟩, ⟨0, 0, ⟨#[]⟩⟩] _ (HC1.out _ (hX.trans gX)) hv).mono ?_
    rintro e w' ⟨⟨_, h⟩, hg⟩
    exact ⟨h ex_fits.2, hg⟩
  have RA1 := Lib.hid (RA.out (w1.alloc (.cells #[.int .i64 2, .int .i64 1, .string ⟨#[]⟩] 29)) (World.grownBy_alloc _ _ _))
  rw [show (w1.alloc (.cells #[.int .i64 2, .int .i64 1, .string ⟨#[]⟩] 29)).heap.size = w1.heap.size + 1 by simp] at RA1
  have GA : Hid (w1.grownBy ((w1.alloc (.cells #[.int .i64 2, .int .i64 1, .string ⟨#[]⟩] 29)).alloc (.cells #[.int .i64 2, .int .i64 1, .string ⟨#[]⟩, .int .i64 0, .int .i64 0, .string ⟨#[]⟩] 29)).drew none) := Lib.hid (grown_drew6 ((World.grownBy_alloc _ _ none).trans (World.grownBy_alloc _ _ none)))
  obtain ⟨b0, b1, b2⟩ := HB1.out w1 (grown_refl6 _ _)
  have m0 : ∀ o, (w1.alloc o).cell? ⟨w.heap.size + 1, 0, none⟩ = some (.string ⟨#[116]⟩) := fun o => (HB1.out _ (World.grownBy_alloc w1 o none)).1
  have m1 : ∀ o, (w1.alloc o).cell? ⟨w.heap.size + 1, 1, none⟩ = some (.slice (some ⟨w.heap.size, 0, none⟩) 2 2) := fun o => (HB1.out _ (World.grownBy_alloc w1 o none)).2.1
  have m2 : ∀ o, (w1.alloc o).cell? ⟨w.heap.size + 1, 2, none⟩ = some (.int .i64 1) := fun o => (HB1.out _ (World.grownBy_alloc w1 o none)).2.2
  have n0 : ∀ o o', ((w1.alloc o).alloc o').cell? ⟨w.heap.size + 1, 0, none⟩ = some (.string ⟨#[116]⟩) := fun o o' => (HB1.out _ ((World.grownBy_alloc w1 o none).trans (World.grownBy_alloc _ o' none))).1
  have n1 : ∀ o o', ((w1.alloc o).alloc o').cell? ⟨w.heap.size + 1, 1, none⟩ = some (.slice (some ⟨w.heap.size, 0, none⟩) 2 2) := fun o o' => (HB1.out _ ((World.grownBy_alloc w1 o none).trans (World.grownBy_alloc _ o' none))).2.1
  have n2 : ∀ o o', ((w1.alloc o).alloc o').cell? ⟨w.heap.size + 1, 2, none⟩ = some (.int .i64 1) := fun o o' => (HB1.out _ ((World.grownBy_alloc w1 o none).trans (World.grownBy_alloc _ o' none))).2.2
  clear hg
  go_wp2_with fail
  go_region_with (first | (go_at_call 10; refine (refInt6_any _ _).mono ?_; rintro e w2 ⟨rfl, rfl⟩) | (go_at_call 7; (with_reducible refine RA1.out.mono ?_); rintro e w3 ⟨rfl, hg3⟩; have K3 := Lib.hid (GA.out.trans hg3); obtain ⟨x0, x1, x2⟩ := HB1.out _ K3.out; have y0 := fun o => (HB1.out _ (K3.out.trans (World.grownBy_alloc w3 o none))).1; have y1 := fun o => (HB1.out _ (K3.out.trans (World.grownBy_alloc w3 o none))).2.1; have y2 := fun o => (HB1.out _ (K3.out.trans (World.grownBy_alloc w3 o none))).2.2) | (go_at_call 7; (with_reducible refine (RB.out _ K3.out).mono ?_); rintro e w4 ⟨rfl, hg4⟩; have K4 := Lib.hid ((K3.out.trans (World.grownBy_alloc _ _ none)).trans hg4)))
  all_goals
    go_wp2_with fail
    go_ret
    exact ⟨rfl, K1.out.trans K4.out⟩
end Go.Proofs.YtampkmmfkdekaaaDoor
