/- Contracts of the program's Compare and Int. -/
import Derived.Test.YtiahfdlmjfpglaaDoorAddSub
import Derived.Test.YtiahfdlmjfpglaaDoorIntM
import Derived.Deep.RegionHeld3
import Derived.Deep.RegionWith
import Derived.Deep.QuietTactic
import Derived.BigQuiet
import Derived.WalkSmall
import Derived.StillTailTactics
namespace Go.Proofs.YtiahfdlmjfpglaaDoor
open Go.RowKit

theorem cmpInt_any (a b : Int) (w : World) :
    Calls Tryd.prog 28 #[.int .i64 a, .int .i64 b] w fun e w' => e = .returned (.int .i64 (cmpI a b)) ∧ w = w' := by
  go_enter Tryd.func28, Tryd.ntmps28
  go_wp2
  all_goals
    go_ret
    exact ⟨ret_int (by unfold cmpI; repeat' split
                       all_goals omega), rfl⟩
theorem cmpU_any (a b : Nat) (w : World) :
    Calls Tryd.prog 29 #[.int .u64 a, .int .u64 b] w fun e w' => e = .returned (.int .i64 (cmpI a b)) ∧ w = w' := by
  go_enter Tryd.func29, Tryd.ntmps29
  go_wp2
  all_goals
    go_ret
    exact ⟨ret_int (by unfold cmpI; repeat' split
                       all_goals omega), rfl⟩
/-- The first that isn't 0. -/
def orI (x y : Int) : Int := if x = 0 then y else x
theorem or_any (x y : Int) (g : Nat) (w : World) (c0 : w.cell? ⟨g, 0, none⟩ = some (.int .i64 x)) (c1 : w.cell? ⟨g, 1, none⟩ = some (.int .i64 y)) :
    Calls Tryd.prog 27 #[.slice (some ⟨g, 0, none⟩) 2 2] w fun e w' => e = .returned (.int .i64 (orI x y)) ∧ w = w' := by
  by_cases hx : x = 0
  · have hr : orI x y = y := by unfold orI; rw [if_pos hx]
    rw [hr]
    subst hx
    by_cases hy : y = 0
    · subst hy
      go_enter Tryd.func27, Tryd.ntmps27
      go_wp2_with fail
      go_loop [8] (fun i => ∃ k : Nat, k ≤ 2 ∧ i = .int .i64 k) (fun i => 2 - (intOf i).toNat)
      case atStart => exact ⟨0, by omega, rfl⟩
      case round =>
        obtain ⟨k, hk, rfl⟩ := hrel
        obtain rfl | rfl | rfl : k = 0 ∨ k = 1 ∨ k = 2 := by omega
        · go_wp2_with fail
          go_round
          case rel => exact ⟨1, by omega, rfl⟩
          case measure => simp [intOf]
        · go_wp2_with fail
          go_round
          case rel => exact ⟨2, by omega, rfl⟩
          case measure => simp [intOf]
        · go_wp2_with fail
          go_ret
          exact ⟨rfl, rfl⟩
    · have e1 : (y == 0) = false := by simpa using hy
      have e2 : (y != 0) = true := by simpa using hy
      have Hy := Lib.hid hy
      clear hy
      go_enter Tryd.func27, Tryd.ntmps27
      go_wp2_with fail
      go_loop [8] (fun i => ∃ k : Nat, k ≤ 1 ∧ i = .int .i64 k) (fun i => 2 - (intOf i).toNat)
      case atStart => exact ⟨0, by omega, rfl⟩
      case round =>
        obtain ⟨k, hk, rfl⟩ := hrel
        obtain rfl | rfl : k = 0 ∨ k = 1 := by omega
        · go_wp2_with fail
          go_round
          case rel => exact ⟨1, by omega, rfl⟩
          case measure => simp [intOf]
        · go_wp2_with fail
          go_ret
          exact ⟨rfl, rfl⟩
  · have hr : orI x y = x := by unfold orI; rw [if_neg hx]
    rw [hr]
    have e1 : (x == 0) = false := by simpa using hx
    have e2 : (x != 0) = true := by simpa using hx
    clear hx
    go_enter Tryd.func27, Tryd.ntmps27
    go_wp2_with fail
    go_loop [8] (fun i => i = .int .i64 0) (fun i => 2 - (intOf i).toNat)
    case atStart => rfl
    case round =>
      obtain rfl := hrel
      go_wp2_with fail
      go_ret
      exact ⟨rfl, rfl⟩

theorem or2_any (x y : Int) (w : World) :
    Calls Tryd.prog 27 #[.slice (some ⟨w.heap.size, 0, none⟩) 2 2] (w.alloc (.cells #[.int .i64 x, .int .i64 y] 3)).drew fun e w' => e = .returned (.int .i64 (orI x y)) ∧ (w.alloc (.cells #[.int .i64 x, .int .i64 y] 3)).drew = w' := by
  have e : (w.alloc (.cells #[.int .i64 x, .int .i64 y] 3)).heap[w.heap.size]? = some (.cells #[.int .i64 x, .int .i64 y] 3) := heap_alloc_new _ _
  refine or_any x y w.heap.size _ ?_ ?_
  · exact cell_of_row _ _ 0 _ _ _ e
  · exact cell_of_row _ _ 1 _ _ _ e
theorem box2_new (w : World) (v0 v1 : Value) (T : TypeId) : (w.alloc (.cells #[v0, v1] T)).cell? ⟨w.heap.size, 0, none⟩ = some v0 ∧ (w.alloc (.cells #[v0, v1] T)).cell? ⟨w.heap.size, 1, none⟩ = some v1 :=
  ⟨cell_of_row _ _ 0 _ _ _ (heap_alloc_new _ _), cell_of_row _ _ 1 _ _ _ (heap_alloc_new _ _)⟩
/-- Two cells stay. -/
theorem box2_keep {w w1 : World} {g : Nat} {v0 v1 : Value} (h : w.cell? ⟨g, 0, none⟩ = some v0 ∧ w.cell? ⟨g, 1, none⟩ = some v1) (hb : Below w.heap.size w w1) : w1.cell? ⟨g, 0, none⟩ = some v0 ∧ w1.cell? ⟨g, 1, none⟩ = some v1 :=
  ⟨(hb.cell (p := ⟨g, 0, none⟩) (block_lt_of_cell h.1)).trans h.1, (hb.cell (p := ⟨g, 1, none⟩) (block_lt_of_cell h.2)).trans h.2⟩
theorem region_tail {P : Program} {id : Nat} {Q : Exit → Act → World → Prop} {a : Act} {w : World} {l : List Oper} (n : Nat) (hm : P.follows .mixedOrders = true) (hB : Region.lexTailB .any l.toArray n = true)
    (h : wpStill P l.toArray w.drew (fun a' => wpList P l.toArray Q (l.drop n) a' w.drew) (l.take n) a) : (Code.region id l.toArray true).wp P Q a w := wp_region_still_tail n hm hB h
set_option maxRecDepth 100000 in
set_option maxHeartbeats 1600000 in
/-- Compare, whatever its callees answer. -/
theorem compare_gen (p q r hx hy : Int) (lx ly : Nat) (w : World)
    (H1 : Hid (∀ w, Calls Tryd.prog 28 #[.int .i64 hx, .int .i64 hy] w fun e w' => e = .returned (.int .i64 p) ∧ w = w'))
    (H2 : Hid (∀ w, Calls Tryd.prog 29 #[.int .u64 lx, .int .u64 ly] w fun e w' => e = .returned (.int .i64 q) ∧ w = w'))
    (H3 : Hid (∀ w : World, Calls Tryd.prog 27 #[.slice (some ⟨w.heap.size, 0, none⟩) 2 2] (w.alloc (.cells #[.int .i64 p, .int .i64 q] 3)).drew fun e w' => e = .returned (.int .i64 r) ∧ (w.alloc (.cells #[.int .i64 p, .int .i64 q] 3)).drew = w')) :
    Calls Tryd.prog 15 #[.agg #[.int .i64 hx, .int .u64 lx], .agg #[.int .i64 hy, .int .u64 ly]] w fun e w' => e = .returned (.int .i64 r) ∧ Below w.heap.size w w' := by
  have H3' := H3.out ((w.alloc (.cells #[.int .i64 hx, .int .u64 lx] 24)).alloc (.cells #[.int .i64 hy, .int .u64 ly] 24))
  simp only [World.size_alloc] at H3'
  have H4 := Lib.hid H3'
  clear H3' H3
  go_enter Tryd.func15, Tryd.ntmps15
  go_wp2_with fail
  refine region_tail 10 (by kernel_rfl) (by kernel_rfl) ?_
  simp only [List.take_succ_cons, List.take_zero, List.drop_succ_cons, List.drop_zero]
  repeat still_step
  still_call ((H1.out _).mono fun e w'' h => ⟨h.1, h.2.symm⟩)
  repeat still_step
  still_call ((H2.out _).mono fun e w'' h => ⟨h.1, h.2.symm⟩)
  refine wpStill_nil ?_
  go_wp2_with fail
  refine H4.out.mono ?_
  rintro e w1 ⟨rfl, rfl⟩
  go_wp2_with fail
  go_ret
  exact ⟨rfl, ((((Below.refl _ _).alloc (Nat.le_refl _) _).alloc (by simp) _).alloc (by simp; omega) _).drew⟩

theorem compare_any (x y : BitVec 128) (w : World) :
    Calls Tryd.prog 15 #[.agg #[.int .i64 (hiB x), .int .u64 (loB x)], .agg #[.int .i64 (hiB y), .int .u64 (loB y)]] w fun e w' => e = .returned (.int .i64 (cmpI x.toInt y.toInt)) ∧ Below w.heap.size w w' := by
  have hr : cmpI x.toInt y.toInt = orI (cmpI (hiB x) (hiB y)) (cmpI (loB x) (loB y)) := cmp_halves x y
  rw [hr]
  exact compare_gen _ _ _ _ _ _ _ w (Lib.hid fun w => cmpInt_any _ _ w) (Lib.hid fun w => cmpU_any _ _ w) (Lib.hid fun w => or2_any _ _ w)

theorem sum_eq (a b c d : Int) (w : World) : (Op.equalIn 10000 24 (.agg #[.int .i64 a, .int .u64 b]) (.agg #[.int .i64 c, .int .u64 d])).run Tryd.prog w = .ok (a == c && b == d) w := by
  simp [go_sem]
  by_cases h1 : a = c <;> by_cases h2 : b = d <;> simp [h1, h2]
set_option maxHeartbeats 1600000 in
theorem int_any (x : BitVec 128) (w : World) (h : fitB x = true) :
    Calls Tryd.prog 17 #[.agg #[.int .i64 (hiB x), .int .u64 (loB x)]] w fun e w' => e = .returned (.tuple #[.int .i64 x.toInt, .int .i64 0]) ∧ Below w.heap.size w w' := by
  have HO := Lib.hid (fun w => of_any (w64 (loB x)) w (low_range x).1 (low_range x).2)
  rw [low_hi_fit x h, low_lo] at HO
  have e1 := fit_low x h
  rw [e1] at HO
  generalize x.toInt = n at *
  have e2 : wrap64 (loB x : Int) = n := by rw [← e1]; simp only [w64, wrap64]
  clear e1
  generalize hiB x = hx at *
  generalize loB x = lx at *
  go_enter Tryd.func17, Tryd.ntmps17
  go_wp2_with fail
  rw [e2]
  clear e2
  go_region_held3 (fun w' => w'.cell? ⟨w.heap.size, 0, none⟩ = some (.int .i64 hx) ∧ w'.cell? ⟨w.heap.size, 1, none⟩ = some (.int .u64 lx)) (first | go_keep | exact c1) ((go_at_call 18; refine (HO.out _).mono ?_; rintro e w1 ⟨rfl, hb1⟩; have c1 := box2_keep (box2_new w (.int .i64 hx) (.int .u64 lx) 24) ((Below.refl _ _).drew.trans hb1)))
  go_wp2_with fail
  go_ret2
  exact ⟨rfl, ((Below.refl _ _).alloc (Nat.le_refl _) _).trans (((Below.refl _ _).drew.trans hb1).mono (by simp))⟩

set_option maxHeartbeats 1600000 in
theorem int_none (x : BitVec 128) (w : World) (h : fitB x = false) :
    Calls Tryd.prog 17 #[.agg #[.int .i64 (hiB x), .int .u64 (loB x)]] w fun e w' => e = .returned (.tuple #[.int .i64 0, .int .i64 24]) ∧ Below w.heap.size w w' := by
  have HO := Lib.hid (fun w => of_any (w64 (loB x)) w (low_range x).1 (low_range x).2)
  have hne := low_hi_not x h
  rw [low_lo] at HO
  have e2 : wrap64 (loB x : Int) = w64 (loB x) := by simp only [w64, wrap64]
  generalize hiB (BitVec.ofInt 128 (w64 (loB x))) = p at *
  generalize w64 (loB x) = n at *
  generalize hiB x = hx at *
  generalize loB x = lx at *
  go_enter Tryd.func17, Tryd.ntmps17
  go_wp2_with fail
  rw [e2]
  clear e2
  have HV : ∃ V : Value, V = .agg #[.int .i64 p, .int .u64 lx] := ⟨_, rfl⟩
  obtain ⟨V, hV⟩ := HV
  have HQ : ∀ W : World, (binOp .neq 24 V (.agg #[.int .i64 hx, .int .u64 lx])).run Tryd.prog W = .ok (.bool true) W := fun W => by
    rw [hV, run_neq_struct, sum_eq, hne]
    rfl
  have HG : ∀ (x y : Operand) (W : World), (eqGuard .neq 24 x y V (.agg #[.int .i64 hx, .int .u64 lx])).run Tryd.prog W = .ok () W := fun x y W => by
    rw [hV]
    exact run_eqGuard_agg _ _ _ _ _ _ _ (by kernel_rfl)
  rw [← hV] at HO
  clear hne hV
  go_region_held3 (fun w' => w'.cell? ⟨w.heap.size, 0, none⟩ = some (.int .i64 hx) ∧ w'.cell? ⟨w.heap.size, 1, none⟩ = some (.int .u64 lx)) (first | go_keep | exact c1) ((go_at_call 18; refine (HO.out _).mono ?_; rintro e w1 ⟨rfl, hb1⟩; have c1 := box2_keep (box2_new w (.int .i64 hx) (.int .u64 lx) 24) ((Below.refl _ _).drew.trans hb1)))
  go_wp2_with fail
  go_ret2
  exact ⟨rfl, ((Below.refl _ _).alloc (Nat.le_refl _) _).trans (((Below.refl _ _).drew.trans hb1).mono (by simp))⟩
end Go.Proofs.YtiahfdlmjfpglaaDoor
