/- What a comparison says of two values: the program's and the document's. -/
import Derived.Test.YtmgddieadehmeaaMem
import Derived.Test.YtmgddieadehmeaaRel
namespace Go.Proofs.Ytmgddieadehmeaa
open Go.RowKit

/-- What r says of x and y. -/
def ofT (r : Int) (x y : Vl) : Int :=
  if relB r = false then 0 else if x.k = 0 then 2 else if y.k = 0 then 2 else if saysB r (x.ord y) = true then 1 else 0
theorem ofT_is (r : Int) (x y : Vl) : ofT r x y = 0 ∨ ofT r x y = 1 ∨ ofT r x y = 2 := by
  unfold ofT
  repeat' split
  all_goals simp

theorem cmpV_any (x y : Vl) (w : World) :
    Calls Try.prog 34 #[.agg #[.int .i64 x.k, .int .i64 x.n, .string x.s], .agg #[.int .i64 y.k, .int .i64 y.n, .string y.s]] w fun e w' => e = .returned (.int .i64 (x.ord y)) ∧ Below w.heap.size w w' := compare_any x.k x.n x.s y.k y.n y.s w

set_option maxHeartbeats 800000 in
theorem of_any (r : Int) (x y : Vl) (w : World) :
    Calls Try.prog 18 #[.int .i64 r, .agg #[.int .i64 x.k, .int .i64 x.n, .string x.s], .agg #[.int .i64 y.k, .int .i64 y.n, .string y.s]] w fun e w' => e = .returned (.tuple #[.int .i64 (ofT r x y), .int .i64 (relE r)]) ∧ Below w.heap.size w w' := by
  have HK := Lib.hid (known_any r)
  have HS := Lib.hid (says_any r (x.ord y))
  have HC := Lib.hid (cmpV_any x y)
  unfold relE ofT
  generalize relB r = rb at *
  generalize saysB r (x.ord y) = q at *
  generalize x.ord y = o at *
  obtain ⟨xk, xn, xs⟩ := x
  obtain ⟨yk, yn, ys⟩ := y
  simp only at *
  cases rb
  · go_enter Try.func18, Try.ntmps18
    go_wp2_with fail
    refine (HK.out _).mono ?_
    rintro e w1 ⟨rfl, rfl⟩
    go_wp2_with fail
    go_ret2
    exact ⟨by simp, below2 _ _ _⟩
  by_cases hx : xk = 0
  · have e1 : (xk == 0) = true := by simpa using hx
    subst hx
    go_enter Try.func18, Try.ntmps18
    go_wp2_with fail
    refine (HK.out _).mono ?_
    rintro e w1 ⟨rfl, rfl⟩
    go_wp2_with fail
    go_ret2
    exact ⟨by simp, below2 _ _ _⟩
  have e1 : (xk == 0) = false := by simpa using hx
  by_cases hy : yk = 0
  · have e2 : (yk == 0) = true := by simpa using hy
    subst hy
    have Hx := Lib.hid hx
    clear hx
    go_enter Try.func18, Try.ntmps18
    go_wp2_with fail
    refine (HK.out _).mono ?_
    rintro e w1 ⟨rfl, rfl⟩
    go_wp2_with fail
    go_ret2
    exact ⟨by simp, below2 _ _ _⟩
  have e2 : (yk == 0) = false := by simpa using hy
  have Hr : Hid ((if true = false then (0 : Int) else if xk = 0 then 2 else if yk = 0 then 2 else if q = true then 1 else 0) = if q = true then 1 else 0) := Lib.hid (by simp [hx, hy])
  cases q
  · go_enter Try.func18, Try.ntmps18
    go_wp2_with fail
    refine (HK.out _).mono ?_
    rintro e w1 ⟨rfl, rfl⟩
    go_wp2_with fail
    refine (HC.out _).mono ?_
    rintro e w2 ⟨rfl, hb⟩
    go_wp2_with fail
    refine (HS.out _).mono ?_
    rintro e w3 ⟨rfl, rfl⟩
    go_wp2_with fail
    go_ret2
    exact ⟨ret_iii (by first | rfl | (rw [Hr.out]; rfl)) (by simp), (below2 _ _ _).trans (hb.mono (by simp; omega))⟩
  · go_enter Try.func18, Try.ntmps18
    go_wp2_with fail
    refine (HK.out _).mono ?_
    rintro e w1 ⟨rfl, rfl⟩
    go_wp2_with fail
    refine (HC.out _).mono ?_
    rintro e w2 ⟨rfl, hb⟩
    go_wp2_with fail
    refine (HS.out _).mono ?_
    rintro e w3 ⟨rfl, rfl⟩
    go_wp2_with fail
    go_ret2
    exact ⟨ret_iii (by first | rfl | (rw [Hr.out]; rfl)) (by simp), (below2 _ _ _).trans (hb.mono (by simp; omega))⟩

/-- A truth of a bool. -/
def b01 (b : Bool) : Int := if b = true then 1 else 0
theorem bool01_any (b : Bool) (w : World) :
    Calls Try.prog 36 #[.bool b] w fun e w' => e = .returned (.int .i64 (b01 b)) ∧ w = w' := bool_any b w
theorem ret_ib {a a' : Int} {b b' : Bool} (h : a = a') (h' : b = b') : Ending.returned (.tuple #[.int .i64 a, .bool b]) = .returned (.tuple #[.int .i64 a', .bool b']) := by rw [h, h']

theorem refCmpV_any (x y : Vl) (w : World) (gx : x.good = true) (gy : y.good = true) (sx : x.s.size ≤ maxLen) :
    Calls Try.prog 35 #[.agg #[.int .i64 x.k, .int .i64 x.n, .string x.s], .agg #[.int .i64 y.k, .int .i64 y.n, .string y.s]] w fun e w' => e = .returned (.int .i64 (x.ord y)) ∧ Below w.heap.size w w' :=
  (refCompare_any x.k x.n x.s y.k y.n y.s w sx).mono fun _ _ ⟨he, hb⟩ => ⟨by rw [he, ordC_ordV gx gy]; rfl, hb⟩

set_option maxHeartbeats 3200000 in
theorem refOf_any (r : Int) (x y : Vl) (w : World) (gx : x.good = true) (gy : y.good = true) (sx : x.s.size ≤ maxLen) :
    Calls Try.prog 19 #[.int .i64 r, .agg #[.int .i64 x.k, .int .i64 x.n, .string x.s], .agg #[.int .i64 y.k, .int .i64 y.n, .string y.s]] w fun e w' => e = .returned (.tuple #[.int .i64 (ofT r x y), .bool (relB r)]) ∧ Below w.heap.size w w' := by
  have HC := Lib.hid (fun w => refCmpV_any x y w gx gy sx)
  clear gx gy sx
  have HT := Lib.hid (show ofT r x y = if relB r = false then 0 else if x.k = 0 then 2 else if y.k = 0 then 2 else if saysB r (x.ord y) = true then 1 else 0 from rfl)
  generalize x.ord y = o at *
  generalize ofT r x y = t at *
  obtain ⟨xk, xn, xs⟩ := x
  obtain ⟨yk, yn, ys⟩ := y
  simp only at *
  by_cases hr' : relB r = false
  · have hr : ¬ relB r = true := by simp [hr']
    have ht : t = 0 := by rw [HT.out, if_pos hr']
    rw [hr', ht]
    have hc : r < 1 ∨ 6 < r := by simp [relB] at hr; omega
    clear HT ht hr hr'
    go_enter Try.func19, Try.ntmps19
    rcases hc with hc | hc
    all_goals
      go_wp2_with fail
      go_ret2
      exact ⟨rfl, below2 _ _ _⟩
  have hr : relB r = true := by simpa using hr'
  clear hr'
  rw [hr]
  have h1 : 1 ≤ r := by simp [relB] at hr; omega
  have h6 : r ≤ 6 := by simp [relB] at hr; omega
  by_cases hx : xk = 0
  · have e1 : (xk == 0) = true := by simpa using hx
    have ht : t = 2 := by rw [HT.out, if_neg (by simp [hr]), if_pos hx]
    subst hx ht
    clear HT hr
    go_enter Try.func19, Try.ntmps19
    go_wp2_with fail
    go_ret2
    exact ⟨rfl, below2 _ _ _⟩
  have e1 : (xk == 0) = false := by simpa using hx
  by_cases hy : yk = 0
  · have e2 : (yk == 0) = true := by simpa using hy
    have ht : t = 2 := by rw [HT.out, if_neg (by simp [hr]), if_neg hx, if_pos hy]
    subst hy ht
    clear HT hr hx
    go_enter Try.func19, Try.ntmps19
    go_wp2_with fail
    go_ret2
    exact ⟨rfl, below2 _ _ _⟩
  have e2 : (yk == 0) = false := by simpa using hy
  have ht : t = if saysB r o = true then 1 else 0 := by rw [HT.out, if_neg (by simp [hr]), if_neg hx, if_neg hy]
  have Ht := Lib.hid ht
  clear HT h1 h6 ht
  have HB := Lib.hid bool01_any
  rcases relB_cases hr with rfl | rfl | rfl | rfl | rfl | rfl
  all_goals clear hr
  all_goals
    go_enter Try.func19, Try.ntmps19
    go_wp2_with fail
    refine (HC.out _).mono ?_
    rintro e w2 ⟨rfl, hb⟩
    go_wp2_with fail
    refine (HB.out _ _).mono ?_
    rintro e w3 ⟨rfl, rfl⟩
    go_wp2_with fail
    go_ret2
    exact ⟨ret_ib (by rw [Ht.out]; simp [saysB, b01]) rfl, ((below2 _ _ _).trans (hb.mono (by simp; omega))).alloc (by have := hb.size; simp at this; omega) _⟩
end Go.Proofs.Ytmgddieadehmeaa
