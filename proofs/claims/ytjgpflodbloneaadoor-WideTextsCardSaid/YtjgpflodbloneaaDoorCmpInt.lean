/- Contracts of the program's Compare and Int. -/
import Derived.Test.YtjgpflodbloneaaDoorAddSub
import Derived.Test.YtjgpflodbloneaaDoorIntM
import Derived.Deep.RegionHeld3
import Derived.Deep.RegionWith
import Derived.Deep.QuietTactic
import Derived.BigQuiet
import Derived.WalkSmall
import Derived.StillTailTactics
namespace Go.Proofs.YtjgpflodbloneaaDoor
open Go.RowKit

/-- The first that isn't 0. -/
def orI (x y : Int) : Int := if x = 0 then y else x
theorem box2_new (w : World) (v0 v1 : Value) (T : TypeId) : (w.alloc (.cells #[v0, v1] T)).cell? ⟨w.heap.size, 0, none⟩ = some v0 ∧ (w.alloc (.cells #[v0, v1] T)).cell? ⟨w.heap.size, 1, none⟩ = some v1 :=
  ⟨cell_of_row _ _ 0 _ _ _ (heap_alloc_new _ _), cell_of_row _ _ 1 _ _ _ (heap_alloc_new _ _)⟩
/-- Two cells stay. -/
theorem box2_keep {w w1 : World} {g : Nat} {v0 v1 : Value} (h : w.cell? ⟨g, 0, none⟩ = some v0 ∧ w.cell? ⟨g, 1, none⟩ = some v1) (hb : Below w.heap.size w w1) : w1.cell? ⟨g, 0, none⟩ = some v0 ∧ w1.cell? ⟨g, 1, none⟩ = some v1 :=
  ⟨(hb.cell (p := ⟨g, 0, none⟩) (block_lt_of_cell h.1)).trans h.1, (hb.cell (p := ⟨g, 1, none⟩) (block_lt_of_cell h.2)).trans h.2⟩
theorem region_tail {P : Program} {id : Nat} {Q : Exit → Act → World → Prop} {a : Act} {w : World} {l : List Oper} (n : Nat) (hm : P.follows .mixedOrders = true) (hB : Region.lexTailB .any l.toArray n = true)
    (h : wpStill P l.toArray w.drew (fun a' => wpList P l.toArray Q (l.drop n) a' w.drew) (l.take n) a) : (Code.region id l.toArray true).wp P Q a w := wp_region_still_tail n hm hB h
theorem sum_eq (a b c d : Int) (w : World) : (Op.equalIn 10000 24 (.agg #[.int .i64 a, .int .u64 b]) (.agg #[.int .i64 c, .int .u64 d])).run Tryd.prog w = .ok (a == c && b == d) w := by
  simp [go_sem]
  by_cases h1 : a = c <;> by_cases h2 : b = d <;> simp [h1, h2]
set_option maxHeartbeats 1600000 in
theorem int_any (x : BitVec 128) (w : World) (h : fitB x = true) :
    Calls Tryd.prog 16 #[.agg #[.int .i64 (hiB x), .int .u64 (loB x)]] w fun e w' => e = .returned (.tuple #[.int .i64 x.toInt, .int .i64 0]) ∧ Below w.heap.size w w' := by
  have HO := Lib.hid (fun w => of_any (w64 (loB x)) w (low_range x).1 (low_range x).2)
  rw [low_hi_fit x h, low_lo] at HO
  have e1 := fit_low x h
  rw [e1] at HO
  generalize x.toInt = n at *
  have e2 : wrap64 (loB x : Int) = n := by rw [← e1]; simp only [w64, wrap64]
  clear e1
  generalize hiB x = hx at *
  generalize loB x = lx at *
  go_enter Tryd.func16, Tryd.ntmps16
  go_wp2_with fail
  rw [e2]
  clear e2
  go_region_held3 (fun w' => w'.cell? ⟨w.heap.size, 0, none⟩ = some (.int .i64 hx) ∧ w'.cell? ⟨w.heap.size, 1, none⟩ = some (.int .u64 lx)) (first | go_keep | exact c1) ((go_at_call 35; refine (HO.out _).mono ?_; rintro e w1 ⟨rfl, hb1⟩; have c1 := box2_keep (box2_new w (.int .i64 hx) (.int .u64 lx) 24) ((Below.refl _ _).drew.trans hb1)))
  go_wp2_with fail
  go_ret2
  exact ⟨rfl, ((Below.refl _ _).alloc (Nat.le_refl _) _).trans (((Below.refl _ _).drew.trans hb1).mono (by simp))⟩

set_option maxHeartbeats 1600000 in
theorem int_none (x : BitVec 128) (w : World) (h : fitB x = false) :
    Calls Tryd.prog 16 #[.agg #[.int .i64 (hiB x), .int .u64 (loB x)]] w fun e w' => e = .returned (.tuple #[.int .i64 0, .int .i64 24]) ∧ Below w.heap.size w w' := by
  have HO := Lib.hid (fun w => of_any (w64 (loB x)) w (low_range x).1 (low_range x).2)
  have hne := low_hi_not x h
  rw [low_lo] at HO
  have e2 : wrap64 (loB x : Int) = w64 (loB x) := by simp only [w64, wrap64]
  generalize hiB (BitVec.ofInt 128 (w64 (loB x))) = p at *
  generalize w64 (loB x) = n at *
  generalize hiB x = hx at *
  generalize loB x = lx at *
  go_enter Tryd.func16, Tryd.ntmps16
  go_wp2_with fail
  rw [e2]
  clear e2
  have HV : ∃ V : Value, V = .agg #[.int .i64 p, .int .u64 lx] := ⟨_, rfl⟩
  obtain ⟨V, hV⟩ := HV
  have HQ : ∀ W : World, (binOp .neq 24 V (.agg #[.int .i64 hx, .int .u64 lx])).run Tryd.prog W = .ok (.bool true) W := fun W => by
    rw [hV, run_neq_struct, sum_eq, hne]
    rfl
  have HG : ∀ (x y : Operand) (W : World), (eqGuard .neq 24 x y V (.agg #[.int .i64 hx, .int .u64 lx])).run Tryd.prog W = .ok () W := fun x y W => by
    rw [hV]
    exact run_eqGuard_agg _ _ _ _ _ _ _ (by kernel_rfl)
  rw [← hV] at HO
  clear hne hV
  go_region_held3 (fun w' => w'.cell? ⟨w.heap.size, 0, none⟩ = some (.int .i64 hx) ∧ w'.cell? ⟨w.heap.size, 1, none⟩ = some (.int .u64 lx)) (first | go_keep | exact c1) ((go_at_call 35; refine (HO.out _).mono ?_; rintro e w1 ⟨rfl, hb1⟩; have c1 := box2_keep (box2_new w (.int .i64 hx) (.int .u64 lx) 24) ((Below.refl _ _).drew.trans hb1)))
  go_wp2_with fail
  go_ret2
  exact ⟨rfl, ((Below.refl _ _).alloc (Nat.le_refl _) _).trans (((Below.refl _ _).drew.trans hb1).mono (by simp))⟩
end Go.Proofs.YtjgpflodbloneaaDoor
