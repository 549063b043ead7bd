/- Contracts of Add, Sub, Mul and Neg at ints: what fits is told, and what is too much is told to be so. -/
import Derived.Test.YthdofhicccabiaaDoorReck
namespace Go.Proofs.YthdofhicccabiaaDoor
open Go.RowKit

/-- Three cells of a new block, behind a call that touched nothing old. -/
theorem kept3 {W w1 : World} {b : Nat} {v0 v1 v2 : Value} {T : TypeId} (hb : Below W.heap.size W w1) (hB : b < W.heap.size) (hcs : W.heap[b]? = some (.cells #[v0, v1, v2] T (0, 0))) :
    w1.cell? ⟨b, 0, none⟩ = some v0 ∧ w1.cell? ⟨b, 1, none⟩ = some v1 ∧ w1.cell? ⟨b, 2, none⟩ = some v2 ∧ w1.frozen? ⟨b, 0, none⟩ = false ∧ w1.frozen? ⟨b, 1, none⟩ = false ∧ w1.frozen? ⟨b, 2, none⟩ = false := by
  have e := (hb.block b hB).trans hcs
  simp [World.cell?, World.frozen?, e]
theorem heap_new (w : World) (o : Obj) : (w.alloc o).heap[w.heap.size]? = some o := by
  show (w.heap.push o)[w.heap.size]? = _
  simp
theorem heap_new3 (w : World) (o1 o2 o3 : Obj) : (((w.alloc o1).alloc o2).alloc o3).heap[w.heap.size + 1 + 1]? = some o3 := by
  simpa using heap_new ((w.alloc o1).alloc o2) o3

set_option maxHeartbeats 400000 in
theorem Add_ok (x y : Int) (w : World) (hx : inI x = true) (hy : inI y = true) (h : inI (x + y) = true) :
    Calls Tryd.prog 21 #[vi x, vi y] w fun e w' => e = .returned (.tuple #[vi (x + y), .int .i64 0]) ∧ Below w.heap.size w w' := by
  have H := Lib.hid (fun w => reckon_plus_ok x y w hx hy h)
  clear hx hy h
  unfold vi at *
  generalize x + y = r at *
  go_enter Tryd.func21, Tryd.ntmps21
  go_wp2_with (go_at_call 37; refine (H.out _).mono ?_)
  rintro e w1 ⟨rfl, hb⟩
  obtain ⟨c0, c1, c2, f0, f1, f2⟩ := kept3 (b := w.heap.size + 1 + 1) hb (by simp) (heap_new3 _ _ _ _)
  have hsz := hb.size
  simp only [World.size_alloc] at hsz
  go_wp2
  exact bodyPost_ret (v := .tuple #[vi r, .int .i64 0]) (by simp [results, Tryd.results21, go_sem, c0, c1, c2]) rfl ⟨rfl, below_store3 ((below3 w _ _ _).trans (hb.mono (by simp; omega))) (by omega) _ _ _⟩

set_option maxHeartbeats 400000 in
theorem Add_over (x y : Int) (w : World) (hx : inI x = true) (hy : inI y = true) (h : inI (x + y) = false) :
    Calls Tryd.prog 21 #[vi x, vi y] w fun e w' => e = .returned (.tuple #[vz, .int .i64 24]) ∧ Below w.heap.size w w' := by
  have H := Lib.hid (fun w => reckon_plus_over x y w hx hy h)
  clear hx hy h
  unfold vi at *
  go_enter Tryd.func21, Tryd.ntmps21
  go_wp2_with (go_at_call 37; refine (H.out _).mono ?_)
  rintro e w1 ⟨rfl, hb⟩
  obtain ⟨c0, c1, c2, f0, f1, f2⟩ := kept3 (b := w.heap.size + 1 + 1) hb (by simp) (heap_new3 _ _ _ _)
  have hsz := hb.size
  simp only [World.size_alloc] at hsz
  go_wp2
  exact bodyPost_ret (v := .tuple #[vz, .int .i64 24]) (by simp [results, Tryd.results21, go_sem, c0, c1, c2]) rfl ⟨rfl, below_store3 ((below3 w _ _ _).trans (hb.mono (by simp; omega))) (by omega) _ _ _⟩

set_option maxHeartbeats 400000 in
theorem Sub_ok (x y : Int) (w : World) (hx : inI x = true) (hy : inI y = true) (h : inI (x - y) = true) :
    Calls Tryd.prog 22 #[vi x, vi y] w fun e w' => e = .returned (.tuple #[vi (x - y), .int .i64 0]) ∧ Below w.heap.size w w' := by
  have H := Lib.hid (fun w => reckon_minus_ok x y w hx hy h)
  clear hx hy h
  unfold vi at *
  generalize x - y = r at *
  go_enter Tryd.func22, Tryd.ntmps22
  go_wp2_with (go_at_call 37; refine (H.out _).mono ?_)
  rintro e w1 ⟨rfl, hb⟩
  obtain ⟨c0, c1, c2, f0, f1, f2⟩ := kept3 (b := w.heap.size + 1 + 1) hb (by simp) (heap_new3 _ _ _ _)
  have hsz := hb.size
  simp only [World.size_alloc] at hsz
  go_wp2
  exact bodyPost_ret (v := .tuple #[vi r, .int .i64 0]) (by simp [results, Tryd.results22, go_sem, c0, c1, c2]) rfl ⟨rfl, below_store3 ((below3 w _ _ _).trans (hb.mono (by simp; omega))) (by omega) _ _ _⟩

set_option maxHeartbeats 400000 in
theorem Sub_over (x y : Int) (w : World) (hx : inI x = true) (hy : inI y = true) (h : inI (x - y) = false) :
    Calls Tryd.prog 22 #[vi x, vi y] w fun e w' => e = .returned (.tuple #[vz, .int .i64 24]) ∧ Below w.heap.size w w' := by
  have H := Lib.hid (fun w => reckon_minus_over x y w hx hy h)
  clear hx hy h
  unfold vi at *
  go_enter Tryd.func22, Tryd.ntmps22
  go_wp2_with (go_at_call 37; refine (H.out _).mono ?_)
  rintro e w1 ⟨rfl, hb⟩
  obtain ⟨c0, c1, c2, f0, f1, f2⟩ := kept3 (b := w.heap.size + 1 + 1) hb (by simp) (heap_new3 _ _ _ _)
  have hsz := hb.size
  simp only [World.size_alloc] at hsz
  go_wp2
  exact bodyPost_ret (v := .tuple #[vz, .int .i64 24]) (by simp [results, Tryd.results22, go_sem, c0, c1, c2]) rfl ⟨rfl, below_store3 ((below3 w _ _ _).trans (hb.mono (by simp; omega))) (by omega) _ _ _⟩

set_option maxHeartbeats 400000 in
theorem Mul_ok (x y : Int) (w : World) (hx : inI x = true) (hy : inI y = true) (h : inI (x * y) = true) :
    Calls Tryd.prog 23 #[vi x, vi y] w fun e w' => e = .returned (.tuple #[vi (x * y), .int .i64 0]) ∧ Below w.heap.size w w' := by
  have H := Lib.hid (fun w => reckon_times_ok x y w hx hy h)
  clear hx hy h
  unfold vi at *
  generalize x * y = r at *
  go_enter Tryd.func23, Tryd.ntmps23
  go_wp2_with (go_at_call 37; refine (H.out _).mono ?_)
  rintro e w1 ⟨rfl, hb⟩
  obtain ⟨c0, c1, c2, f0, f1, f2⟩ := kept3 (b := w.heap.size + 1 + 1) hb (by simp) (heap_new3 _ _ _ _)
  have hsz := hb.size
  simp only [World.size_alloc] at hsz
  go_wp2
  exact bodyPost_ret (v := .tuple #[vi r, .int .i64 0]) (by simp [results, Tryd.results23, go_sem, c0, c1, c2]) rfl ⟨rfl, below_store3 ((below3 w _ _ _).trans (hb.mono (by simp; omega))) (by omega) _ _ _⟩

set_option maxHeartbeats 400000 in
theorem Mul_over (x y : Int) (w : World) (hx : inI x = true) (hy : inI y = true) (h : inI (x * y) = false) :
    Calls Tryd.prog 23 #[vi x, vi y] w fun e w' => e = .returned (.tuple #[vz, .int .i64 24]) ∧ Below w.heap.size w w' := by
  have H := Lib.hid (fun w => reckon_times_over x y w hx hy h)
  clear hx hy h
  unfold vi at *
  go_enter Tryd.func23, Tryd.ntmps23
  go_wp2_with (go_at_call 37; refine (H.out _).mono ?_)
  rintro e w1 ⟨rfl, hb⟩
  obtain ⟨c0, c1, c2, f0, f1, f2⟩ := kept3 (b := w.heap.size + 1 + 1) hb (by simp) (heap_new3 _ _ _ _)
  have hsz := hb.size
  simp only [World.size_alloc] at hsz
  go_wp2
  exact bodyPost_ret (v := .tuple #[vz, .int .i64 24]) (by simp [results, Tryd.results23, go_sem, c0, c1, c2]) rfl ⟨rfl, below_store3 ((below3 w _ _ _).trans (hb.mono (by simp; omega))) (by omega) _ _ _⟩

theorem heap_new3a (w : World) (o1 o2 o3 : Obj) : (((w.alloc o1).alloc o2).alloc o3).heap[w.heap.size]? = some o1 := by
  rw [Below.heap_alloc _ _ _ (by simp; omega), Below.heap_alloc _ _ _ (by simp)]
  exact heap_new w o1
theorem heap_new3b (w : World) (o1 o2 o3 : Obj) : (((w.alloc o1).alloc o2).alloc o3).heap[w.heap.size + 1]? = some o2 := by
  rw [Below.heap_alloc _ _ _ (by simp)]
  simpa using heap_new (w.alloc o1) o2

set_option maxHeartbeats 400000 in
theorem Neg_ok (x : Int) (w : World) (hx : inI x = true) (h : inI (0 - x) = true) :
    Calls Tryd.prog 24 #[vi x] w fun e w' => e = .returned (.tuple #[vi (0 - x), .int .i64 0]) ∧ Below w.heap.size w w' := by
  have H := Lib.hid (fun w => reckon_minus_ok 0 x w (by decide) hx h)
  clear hx h
  unfold vi at *
  generalize 0 - x = r at *
  go_enter Tryd.func24, Tryd.ntmps24
  go_wp2_with fail
  go_region_held3 (fun w' => w'.cell? ⟨w.heap.size, 0, none⟩ = some (.int .i64 2) ∧ w'.cell? ⟨w.heap.size, 1, none⟩ = some (.int .i64 x) ∧ w'.cell? ⟨w.heap.size, 2, none⟩ = some (.string ⟨#[]⟩)) (first | go_keep | exact ⟨k0, k1, k2⟩) (first | (go_at_call 41; refine (number_any _ _).mono ?_; rintro e w' ⟨rfl, rfl⟩) | (go_at_call 37; refine (H.out _).mono ?_; rintro e w1 ⟨rfl, hb⟩; obtain ⟨k0, k1, k2, _, _, _⟩ := kept3 (b := w.heap.size) hb (by simp; omega) (heap_new3a _ _ _ _); obtain ⟨c0, c1, c2, f0, f1, f2⟩ := kept3 (b := w.heap.size + 1) hb (by simp) (heap_new3b _ _ _ _)))
  go_wp2
  exact bodyPost_ret (v := .tuple #[vi r, .int .i64 0]) (by simp [results, Tryd.results24, go_sem, c0, c1, c2]) rfl ⟨rfl, below_store3 ((below3 w _ _ _).drew.trans (hb.mono (by simp; omega))) (by omega) _ _ _⟩

set_option maxHeartbeats 400000 in
theorem Neg_over (x : Int) (w : World) (hx : inI x = true) (h : inI (0 - x) = false) :
    Calls Tryd.prog 24 #[vi x] w fun e w' => e = .returned (.tuple #[vz, .int .i64 24]) ∧ Below w.heap.size w w' := by
  have H := Lib.hid (fun w => reckon_minus_over 0 x w (by decide) hx h)
  clear hx h
  unfold vi at *
  go_enter Tryd.func24, Tryd.ntmps24
  go_wp2_with fail
  go_region_held3 (fun w' => w'.cell? ⟨w.heap.size, 0, none⟩ = some (.int .i64 2) ∧ w'.cell? ⟨w.heap.size, 1, none⟩ = some (.int .i64 x) ∧ w'.cell? ⟨w.heap.size, 2, none⟩ = some (.string ⟨#[]⟩)) (first | go_keep | exact ⟨k0, k1, k2⟩) (first | (go_at_call 41; refine (number_any _ _).mono ?_; rintro e w' ⟨rfl, rfl⟩) | (go_at_call 37; refine (H.out _).mono ?_; rintro e w1 ⟨rfl, hb⟩; obtain ⟨k0, k1, k2, _, _, _⟩ := kept3 (b := w.heap.size) hb (by simp; omega) (heap_new3a _ _ _ _); obtain ⟨c0, c1, c2, f0, f1, f2⟩ := kept3 (b := w.heap.size + 1) hb (by simp) (heap_new3b _ _ _ _)))
  go_wp2
  exact bodyPost_ret (v := .tuple #[vz, .int .i64 24]) (by simp [results, Tryd.results24, go_sem, c0, c1, c2]) rfl ⟨rfl, below_store3 ((below3 w _ _ _).drew.trans (hb.mono (by simp; omega))) (by omega) _ _ _⟩

end Go.Proofs.YthdofhicccabiaaDoor
