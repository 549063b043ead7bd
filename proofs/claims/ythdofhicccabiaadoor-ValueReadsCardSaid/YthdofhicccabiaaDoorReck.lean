/- Contracts of the reckoning with ints as values: sums, differences, products, the other sign. Asked: ints of 64 bits. -/
import Derived.Test.YthdofhicccabiaaDoorGood
import Derived.Test.YthdofhicccabiaaDoorBits
import Derived.Deep.QuietTactic
import Derived.BigQuiet
import Derived.Deep.RegionHeld3
import Derived.Deep.RegionWith
import Derived.Lib.Hide
namespace Go.Proofs.YthdofhicccabiaaDoor
open Go.RowKit

/-- But for draws the world is as it was. -/
def Drawn (w w' : World) : Prop := ∃ n, w' = w.drewN n

theorem ret_pair {a a' : Int} {b b' : Bool} (h : a = a') (h' : b = b') : Ending.returned (.tuple #[.int .i64 a, .bool b]) = .returned (.tuple #[.int .i64 a', .bool b']) := by rw [h, h']

set_option maxHeartbeats 400000 in
theorem plus_any (x y : Int) (w : World) (hx : inI x = true) (hy : inI y = true) :
    Calls Tryd.prog 38 #[.int .i64 x, .int .i64 y] w fun e w' => e = .returned (.tuple #[.int .i64 (wrap64 (x + y)), .bool (inI (x + y))]) ∧ w = w' := by
  have H := Lib.hid (plus_fits x y hx hy)
  clear hx hy
  go_enter Tryd.func38, Tryd.ntmps38
  go_wp2
  go_ret2
  exact ⟨ret_pair rfl H.out, rfl⟩

set_option maxHeartbeats 400000 in
theorem minus_any (x y : Int) (w : World) (hx : inI x = true) (hy : inI y = true) :
    Calls Tryd.prog 39 #[.int .i64 x, .int .i64 y] w fun e w' => e = .returned (.tuple #[.int .i64 (wrap64 (x - y)), .bool (inI (x - y))]) ∧ w = w' := by
  have H := Lib.hid (minus_fits x y hx hy)
  clear hx hy
  go_enter Tryd.func39, Tryd.ntmps39
  go_wp2
  go_ret2
  exact ⟨ret_pair rfl H.out, rfl⟩

set_option maxHeartbeats 400000 in
theorem times_any (x y : Int) (w : World) (hx : inI x = true) (hy : inI y = true) :
    Calls Tryd.prog 40 #[.int .i64 x, .int .i64 y] w fun e w' => e = .returned (.tuple #[.int .i64 (wrap64 (x * y)), .bool (inI (x * y))]) ∧ Drawn w w' := by
  by_cases h0 : y = 0
  · subst h0
    clear hx hy
    go_enter Tryd.func40, Tryd.ntmps40
    go_wp2
    go_ret2
    exact ⟨ret_pair (by simp [wrap64]) (by simp [inI]), 0, rfl⟩
  · by_cases h1 : y = -1
    · subst h1
      have H := Lib.hid hx
      clear hx hy
      go_enter Tryd.func40, Tryd.ntmps40
      go_wp2_with (go_at_call 39; refine (minus_any _ _ _ (by decide) H.out).mono ?_; rintro e w' ⟨rfl, rfl⟩)
      go_ret2
      exact ⟨ret_pair (congrArg wrap64 (by omega)) (congrArg inI (by omega)), 0, rfl⟩
    · have H := Lib.hid (times_fits x y hy h0 h1)
      clear hx hy
      go_enter Tryd.func40, Tryd.ntmps40
      go_wp2
      go_quiet (fail)
      go_wp2
      go_ret2
      exact ⟨ret_pair rfl H.out, _, rfl⟩

/-- An int as a value; what stands beside an error. -/
abbrev vi (n : Int) : Value := .agg #[.int .i64 2, .int .i64 n, .string ⟨#[]⟩]
abbrev vz : Value := .agg #[.int .i64 0, .int .i64 0, .string ⟨#[]⟩]

set_option maxHeartbeats 400000 in
theorem number_any (n : Int) (w : World) :
    Calls Tryd.prog 41 #[.int .i64 n] w fun e w' => e = .returned (vi n) ∧ w.alloc (.cells #[.int .i64 2, .int .i64 n, .string ⟨#[]⟩] 24) = w' := by
  go_enter Tryd.func41, Tryd.ntmps41
  go_wp2
  exact bodyPost_ret (v := vi n) (by simp [results, Tryd.results41, go_sem, vi]) rfl ⟨rfl, rfl⟩

set_option maxHeartbeats 400000 in
theorem refInt_any (n : Int) (w : World) :
    Calls Tryd.prog 20 #[.int .i64 n] w fun e w' => e = .returned (vi n) ∧ w.alloc (.cells #[.int .i64 2, .int .i64 n, .string ⟨#[]⟩] 24) = w' := by
  go_enter Tryd.func20, Tryd.ntmps20
  go_wp2
  exact bodyPost_ret (v := vi n) (by simp [results, Tryd.results20, go_sem, vi]) rfl ⟨rfl, rfl⟩

theorem reckoned_two (w : World) :
    Calls Tryd.prog 54 #[.int .i64 2] w fun e w' => e = .returned (.bool true) ∧ w = w' := by
  go_enter Tryd.func54, Tryd.ntmps54
  go_wp2
  go_ret
  exact ⟨rfl, rfl⟩

theorem below3 (w : World) (o1 o2 o3 : Obj) : Below w.heap.size w (((w.alloc o1).alloc o2).alloc o3) := (((Below.refl _ _).alloc (Nat.le_refl _) _).alloc (by simp) _).alloc (by simp; omega) _

theorem below_store3 {B b : Nat} {w w1 : World} (h : Below B w w1) (hb : B ≤ b) (u0 u1 u2 : Value) : Below B w (((w1.setCell ⟨b, 0, none⟩ u0).setCell ⟨b, 1, none⟩ u1).setCell ⟨b, 2, none⟩ u2) :=
  ((h.setCell (p := ⟨b, 0, none⟩) hb u0).setCell (p := ⟨b, 1, none⟩) hb u1).setCell (p := ⟨b, 2, none⟩) hb u2
theorem below_made (w : World) (o1 o2 o3 : Obj) (n : Nat) (u0 u1 u2 : Value) : Below w.heap.size w ((((((w.alloc o1).alloc o2).alloc o3).drewN n).setCell ⟨w.heap.size + 1 + 1, 0, none⟩ u0).setCell ⟨w.heap.size + 1 + 1, 1, none⟩ u1 |>.setCell ⟨w.heap.size + 1 + 1, 2, none⟩ u2) :=
  below_store3 (below_drewN (below3 w o1 o2 o3) n) (by omega) _ _ _

set_option maxHeartbeats 400000 in
theorem reckon_plus_ok (x y : Int) (w : World) (hx : inI x = true) (hy : inI y = true) (h : inI (x + y) = true) :
    Calls Tryd.prog 37 #[vi x, vi y, .func (.func 38) #[] #[]] w fun e w' => e = .returned (.tuple #[vi (x + y), .int .i64 0]) ∧ Below w.heap.size w w' := by
  rw [show vi (x + y) = vi (wrap64 (x + y)) by rw [wrap64_of h]]
  unfold vi
  have hc : ∀ w, Calls Tryd.prog 38 #[.int .i64 x, .int .i64 y] w fun e w' => e = .returned (.tuple #[.int .i64 (wrap64 (x + y)), .bool (inI (x + y))]) ∧ Drawn w w' := fun w => (plus_any x y w hx hy).mono fun _ _ ⟨he, hw⟩ => ⟨he, ⟨0, hw.symm⟩⟩
  generalize wrap64 (x + y) = r at *
  rw [h] at hc
  have H := Lib.hid hc
  clear hc hx hy h
  go_enter Tryd.func37, Tryd.ntmps37
  go_wp2_with (first | (go_at_call 54; refine (reckoned_two _).mono ?_; rintro e w' ⟨rfl, rfl⟩) | (go_at_call 38; refine (H.out _).mono ?_; rintro e w' ⟨rfl, nq, rfl⟩) | (go_at_call 41; refine (number_any _ _).mono ?_; rintro e w' ⟨rfl, rfl⟩))
  exact bodyPost_ret (v := .tuple #[vi r, .int .i64 0]) (by simp [results, Tryd.results37, go_sem]) rfl ⟨rfl, (below_made w _ _ _ nq _ _ _).alloc (by simp; omega) _⟩

set_option maxHeartbeats 400000 in
theorem reckon_plus_over (x y : Int) (w : World) (hx : inI x = true) (hy : inI y = true) (h : inI (x + y) = false) :
    Calls Tryd.prog 37 #[vi x, vi y, .func (.func 38) #[] #[]] w fun e w' => e = .returned (.tuple #[vz, .int .i64 24]) ∧ Below w.heap.size w w' := by
  unfold vi
  have hc : ∀ w, Calls Tryd.prog 38 #[.int .i64 x, .int .i64 y] w fun e w' => e = .returned (.tuple #[.int .i64 (wrap64 (x + y)), .bool (inI (x + y))]) ∧ Drawn w w' := fun w => (plus_any x y w hx hy).mono fun _ _ ⟨he, hw⟩ => ⟨he, ⟨0, hw.symm⟩⟩
  generalize wrap64 (x + y) = r at *
  rw [h] at hc
  have H := Lib.hid hc
  clear hc hx hy h
  go_enter Tryd.func37, Tryd.ntmps37
  go_wp2_with (first | (go_at_call 54; refine (reckoned_two _).mono ?_; rintro e w' ⟨rfl, rfl⟩) | (go_at_call 38; refine (H.out _).mono ?_; rintro e w' ⟨rfl, nq, rfl⟩) | (go_at_call 41; refine (number_any _ _).mono ?_; rintro e w' ⟨rfl, rfl⟩))
  exact bodyPost_ret (v := .tuple #[vz, .int .i64 24]) (by simp [results, Tryd.results37, go_sem]) rfl ⟨rfl, below_made w _ _ _ nq _ _ _⟩

set_option maxHeartbeats 400000 in
theorem reckon_minus_ok (x y : Int) (w : World) (hx : inI x = true) (hy : inI y = true) (h : inI (x - y) = true) :
    Calls Tryd.prog 37 #[vi x, vi y, .func (.func 39) #[] #[]] w fun e w' => e = .returned (.tuple #[vi (x - y), .int .i64 0]) ∧ Below w.heap.size w w' := by
  rw [show vi (x - y) = vi (wrap64 (x - y)) by rw [wrap64_of h]]
  unfold vi
  have hc : ∀ w, Calls Tryd.prog 39 #[.int .i64 x, .int .i64 y] w fun e w' => e = .returned (.tuple #[.int .i64 (wrap64 (x - y)), .bool (inI (x - y))]) ∧ Drawn w w' := fun w => (minus_any x y w hx hy).mono fun _ _ ⟨he, hw⟩ => ⟨he, ⟨0, hw.symm⟩⟩
  generalize wrap64 (x - y) = r at *
  rw [h] at hc
  have H := Lib.hid hc
  clear hc hx hy h
  go_enter Tryd.func37, Tryd.ntmps37
  go_wp2_with (first | (go_at_call 54; refine (reckoned_two _).mono ?_; rintro e w' ⟨rfl, rfl⟩) | (go_at_call 39; refine (H.out _).mono ?_; rintro e w' ⟨rfl, nq, rfl⟩) | (go_at_call 41; refine (number_any _ _).mono ?_; rintro e w' ⟨rfl, rfl⟩))
  exact bodyPost_ret (v := .tuple #[vi r, .int .i64 0]) (by simp [results, Tryd.results37, go_sem]) rfl ⟨rfl, (below_made w _ _ _ nq _ _ _).alloc (by simp; omega) _⟩

set_option maxHeartbeats 400000 in
theorem reckon_minus_over (x y : Int) (w : World) (hx : inI x = true) (hy : inI y = true) (h : inI (x - y) = false) :
    Calls Tryd.prog 37 #[vi x, vi y, .func (.func 39) #[] #[]] w fun e w' => e = .returned (.tuple #[vz, .int .i64 24]) ∧ Below w.heap.size w w' := by
  unfold vi
  have hc : ∀ w, Calls Tryd.prog 39 #[.int .i64 x, .int .i64 y] w fun e w' => e = .returned (.tuple #[.int .i64 (wrap64 (x - y)), .bool (inI (x - y))]) ∧ Drawn w w' := fun w => (minus_any x y w hx hy).mono fun _ _ ⟨he, hw⟩ => ⟨he, ⟨0, hw.symm⟩⟩
  generalize wrap64 (x - y) = r at *
  rw [h] at hc
  have H := Lib.hid hc
  clear hc hx hy h
  go_enter Tryd.func37, Tryd.ntmps37
  go_wp2_with (first | (go_at_call 54; refine (reckoned_two _).mono ?_; rintro e w' ⟨rfl, rfl⟩) | (go_at_call 39; refine (H.out _).mono ?_; rintro e w' ⟨rfl, nq, rfl⟩) | (go_at_call 41; refine (number_any _ _).mono ?_; rintro e w' ⟨rfl, rfl⟩))
  exact bodyPost_ret (v := .tuple #[vz, .int .i64 24]) (by simp [results, Tryd.results37, go_sem]) rfl ⟨rfl, below_made w _ _ _ nq _ _ _⟩

set_option maxHeartbeats 400000 in
theorem reckon_times_ok (x y : Int) (w : World) (hx : inI x = true) (hy : inI y = true) (h : inI (x * y) = true) :
    Calls Tryd.prog 37 #[vi x, vi y, .func (.func 40) #[] #[]] w fun e w' => e = .returned (.tuple #[vi (x * y), .int .i64 0]) ∧ Below w.heap.size w w' := by
  rw [show vi (x * y) = vi (wrap64 (x * y)) by rw [wrap64_of h]]
  unfold vi
  have hc : ∀ w, Calls Tryd.prog 40 #[.int .i64 x, .int .i64 y] w fun e w' => e = .returned (.tuple #[.int .i64 (wrap64 (x * y)), .bool (inI (x * y))]) ∧ Drawn w w' := fun w => (times_any x y w hx hy).mono fun _ _ ⟨he, hw⟩ => ⟨he, hw⟩
  generalize wrap64 (x * y) = r at *
  rw [h] at hc
  have H := Lib.hid hc
  clear hc hx hy h
  go_enter Tryd.func37, Tryd.ntmps37
  go_wp2_with (first | (go_at_call 54; refine (reckoned_two _).mono ?_; rintro e w' ⟨rfl, rfl⟩) | (go_at_call 40; refine (H.out _).mono ?_; rintro e w' ⟨rfl, nq, rfl⟩) | (go_at_call 41; refine (number_any _ _).mono ?_; rintro e w' ⟨rfl, rfl⟩))
  exact bodyPost_ret (v := .tuple #[vi r, .int .i64 0]) (by simp [results, Tryd.results37, go_sem]) rfl ⟨rfl, (below_made w _ _ _ nq _ _ _).alloc (by simp; omega) _⟩

set_option maxHeartbeats 400000 in
theorem reckon_times_over (x y : Int) (w : World) (hx : inI x = true) (hy : inI y = true) (h : inI (x * y) = false) :
    Calls Tryd.prog 37 #[vi x, vi y, .func (.func 40) #[] #[]] w fun e w' => e = .returned (.tuple #[vz, .int .i64 24]) ∧ Below w.heap.size w w' := by
  unfold vi
  have hc : ∀ w, Calls Tryd.prog 40 #[.int .i64 x, .int .i64 y] w fun e w' => e = .returned (.tuple #[.int .i64 (wrap64 (x * y)), .bool (inI (x * y))]) ∧ Drawn w w' := fun w => (times_any x y w hx hy).mono fun _ _ ⟨he, hw⟩ => ⟨he, hw⟩
  generalize wrap64 (x * y) = r at *
  rw [h] at hc
  have H := Lib.hid hc
  clear hc hx hy h
  go_enter Tryd.func37, Tryd.ntmps37
  go_wp2_with (first | (go_at_call 54; refine (reckoned_two _).mono ?_; rintro e w' ⟨rfl, rfl⟩) | (go_at_call 40; refine (H.out _).mono ?_; rintro e w' ⟨rfl, nq, rfl⟩) | (go_at_call 41; refine (number_any _ _).mono ?_; rintro e w' ⟨rfl, rfl⟩))
  exact bodyPost_ret (v := .tuple #[vz, .int .i64 24]) (by simp [results, Tryd.results37, go_sem]) rfl ⟨rfl, below_made w _ _ _ nq _ _ _⟩

end Go.Proofs.YthdofhicccabiaaDoor
