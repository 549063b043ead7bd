/- The law ValueGood walked: true at every value, whatever its cells. -/
import Derived.Test.YthdofhicccabiaaDoorAwake
namespace Go.Proofs.YthdofhicccabiaaDoor
open Go.RowKit

theorem cells1 {w w1 : World} {v0 v1 v2 : Value} {T : TypeId} (hb : Below (w.alloc (.cells #[v0, v1, v2] T)).heap.size (w.alloc (.cells #[v0, v1, v2] T)) w1) :
    w1.cell? ⟨w.heap.size, 0, none⟩ = some v0 ∧ w1.cell? ⟨w.heap.size, 1, none⟩ = some v1 ∧ w1.cell? ⟨w.heap.size, 2, none⟩ = some v2 ∧ w.heap.size + 1 ≤ w1.heap.size ∧ Below w.heap.size w w1 := by
  obtain ⟨k0, k1, k2, _⟩ := kept3 (b := w.heap.size) hb (by simp) (heap_new _ _)
  have := hb.size
  simp only [World.size_alloc] at this
  exact ⟨k0, k1, k2, this, ((Below.refl _ _).alloc (Nat.le_refl _) _).trans (hb.mono (by simp))⟩

theorem cells1d {w w1 : World} {v0 v1 v2 : Value} {T : TypeId} (hb : Below (w.alloc (.cells #[v0, v1, v2] T)).drew.heap.size (w.alloc (.cells #[v0, v1, v2] T)).drew w1) :
    w1.cell? ⟨w.heap.size, 0, none⟩ = some v0 ∧ w1.cell? ⟨w.heap.size, 1, none⟩ = some v1 ∧ w1.cell? ⟨w.heap.size, 2, none⟩ = some v2 ∧ w.heap.size + 1 ≤ w1.heap.size ∧ Below w.heap.size w w1 :=
  cells1 (T := T) ((Below.refl _ _).drew.trans hb)

theorem cells2 {w w1 w2 : World} {b : Nat} {v0 v1 v2 : Value} (hs : b + 1 ≤ w1.heap.size) (h : w1.cell? ⟨b, 0, none⟩ = some v0 ∧ w1.cell? ⟨b, 1, none⟩ = some v1 ∧ w1.cell? ⟨b, 2, none⟩ = some v2) (hw : Below b w w1) (hb : Below w1.heap.size w1 w2) :
    w2.cell? ⟨b, 0, none⟩ = some v0 ∧ w2.cell? ⟨b, 1, none⟩ = some v1 ∧ w2.cell? ⟨b, 2, none⟩ = some v2 ∧ b + 1 ≤ w2.heap.size ∧ Below b w w2 := by
  have := hb.size
  exact ⟨(hb.cell (p := ⟨b, 0, none⟩) hs).trans h.1, (hb.cell (p := ⟨b, 1, none⟩) hs).trans h.2.1, (hb.cell (p := ⟨b, 2, none⟩) hs).trans h.2.2, by omega, hw.trans (hb.mono (by omega))⟩

set_option maxHeartbeats 400000 in
theorem ValueGood_any (k n : Int) (s : ByteArray) (w : World) :
    Calls Tryd.prog 3 #[.agg #[.int .i64 k, .int .i64 n, .string s]] w fun e w' => e = .returned (.bool true) ∧ Below w.heap.size w w' := by
  go_enter Tryd.func3, Tryd.ntmps3
  go_wp2_with fail
  go_region_held3 (fun w' => w'.cell? ⟨w.heap.size, 0, none⟩ = some (.int .i64 k) ∧ w'.cell? ⟨w.heap.size, 1, none⟩ = some (.int .i64 n) ∧ w'.cell? ⟨w.heap.size, 2, none⟩ = some (.string s)) (first | go_keep | exact ⟨m0, m1, m2⟩ | exact ⟨l0, l1, l2⟩ | exact ⟨k0, k1, k2⟩) (first | (go_at_call 10; refine (awake_any _).mono ?_; rintro e w1 ⟨rfl, hb1⟩; obtain ⟨k0, k1, k2, s1, b1⟩ := cells1d hb1) | (go_at_call 11; refine (good_any _ _ _ _).mono ?_; rintro e w2 ⟨rfl, hb2⟩; obtain ⟨l0, l1, l2, s2, b2⟩ := cells2 s1 ⟨k0, k1, k2⟩ b1 hb2) | (go_at_call 12; refine (refGood_any _ _ _ _).mono ?_; rintro e w3 ⟨rfl, hb3⟩; obtain ⟨m0, m1, m2, s3, b3⟩ := cells2 s2 ⟨l0, l1, l2⟩ b2 hb3))
  go_wp2
  go_ret
  exact ⟨rfl, b3⟩
end Go.Proofs.YthdofhicccabiaaDoor
