/- The law ValueBack walked: true at any two ints. -/
import Derived.Test.YthdofhicccabiaaDoorRuns
import Derived.Deep.DeepCutAuto
namespace Go.Proofs.YthdofhicccabiaaDoor
open Go.RowKit

/-- The cells of what reckoning answers for r: an int, or nothing and an error. -/
def rk (r : Int) : Int := if inI r then 2 else 0
def rn (r : Int) : Int := if inI r then r else 0
def rc (r : Int) : Int := if inI r then 0 else 24

theorem rtuple (r : Int) : (inI r = true → (Value.tuple #[.agg #[.int .i64 (rk r), .int .i64 (rn r), .string ⟨#[]⟩], .int .i64 (rc r)]) = .tuple #[vi r, .int .i64 0]) ∧ (inI r = false → (Value.tuple #[.agg #[.int .i64 (rk r), .int .i64 (rn r), .string ⟨#[]⟩], .int .i64 (rc r)]) = .tuple #[vz, .int .i64 24]) := by
  refine ⟨fun h => by simp [rk, rn, rc, h], fun h => by simp [rk, rn, rc, h]⟩
theorem mul_any (x y : Int) (w : World) (hx : inI x = true) (hy : inI y = true) :
    Calls Tryd.prog 23 #[vi x, vi y] w fun e w' => e = .returned (.tuple #[.agg #[.int .i64 (rk (x * y)), .int .i64 (rn (x * y)), .string ⟨#[]⟩], .int .i64 (rc (x * y))]) ∧ Below w.heap.size w w' := by
  cases h : inI (x * y)
  · rw [(rtuple _).2 h]; exact Mul_over x y w hx hy h
  · rw [(rtuple _).1 h]; exact Mul_ok x y w hx hy h
theorem neg_any (x : Int) (w : World) (hx : inI x = true) :
    Calls Tryd.prog 24 #[vi x] w fun e w' => e = .returned (.tuple #[.agg #[.int .i64 (rk (0 - x)), .int .i64 (rn (0 - x)), .string ⟨#[]⟩], .int .i64 (rc (0 - x))]) ∧ Below w.heap.size w w' := by
  cases h : inI (0 - x)
  · rw [(rtuple _).2 h]; exact Neg_over x w hx h
  · rw [(rtuple _).1 h]; exact Neg_ok x w hx h

/-- A block of three cells. -/
theorem keepB {w1 w2 : World} {b : Nat} {v0 v1 v2 : Value} (K : b < w1.heap.size ∧ w1.cell? ⟨b, 0, none⟩ = some v0 ∧ w1.cell? ⟨b, 1, none⟩ = some v1 ∧ w1.cell? ⟨b, 2, none⟩ = some v2) (hb : Below w1.heap.size w1 w2) :
    b < w2.heap.size ∧ w2.cell? ⟨b, 0, none⟩ = some v0 ∧ w2.cell? ⟨b, 1, none⟩ = some v1 ∧ w2.cell? ⟨b, 2, none⟩ = some v2 := by
  have := hb.size
  exact ⟨by omega, (hb.cell (p := ⟨b, 0, none⟩) K.1).trans K.2.1, (hb.cell (p := ⟨b, 1, none⟩) K.1).trans K.2.2.1, (hb.cell (p := ⟨b, 2, none⟩) K.1).trans K.2.2.2⟩
theorem newB (w : World) (v0 v1 v2 : Value) (T : TypeId) :
    w.heap.size < (w.alloc (.cells #[v0, v1, v2] T)).heap.size ∧ (w.alloc (.cells #[v0, v1, v2] T)).cell? ⟨w.heap.size, 0, none⟩ = some v0 ∧ (w.alloc (.cells #[v0, v1, v2] T)).cell? ⟨w.heap.size, 1, none⟩ = some v1 ∧ (w.alloc (.cells #[v0, v1, v2] T)).cell? ⟨w.heap.size, 2, none⟩ = some v2 := by
  refine ⟨by simp, ?_⟩
  simp only [World.cell?, heap_new]
  simp
theorem belowA (w : World) (o : Obj) : Below w.heap.size w (w.alloc o) := (Below.refl _ _).alloc (Nat.le_refl _) _

/-- Block b holds a value without text. -/
def Blk (b : Nat) (k n : Int) (w : World) : Prop := b < w.heap.size ∧ w.cell? ⟨b, 0, none⟩ = some (.int .i64 k) ∧ w.cell? ⟨b, 1, none⟩ = some (.int .i64 n) ∧ w.cell? ⟨b, 2, none⟩ = some (.string ⟨#[]⟩)
theorem Blk.keep {b : Nat} {k n : Int} {w1 w2 : World} (h : Blk b k n w1) (hb : Below w1.heap.size w1 w2) : Blk b k n w2 := keepB h hb
theorem Blk.make (w : World) (k n : Int) (T : TypeId) : Blk w.heap.size k n (w.alloc (.cells #[.int .i64 k, .int .i64 n, .string ⟨#[]⟩] T)) := newB w _ _ _ T
/-- Where a run stands: what is old is as it was, and the two ints lie in two blocks. -/
def St (w : World) (b : Nat) (x y : Int) (W : World) : Prop := Ran w 0 W ∧ Blk b 2 x W ∧ Blk (b + 1) 2 y W
theorem St.step {w W W1 : World} {b : Nat} {x y : Int} (h : St w b x y W) (hb : Below W.heap.size W W1) : St w b x y W1 := ⟨h.1.step hb, h.2.1.keep hb, h.2.2.keep hb⟩
theorem bcell {W w1 : World} (hb : Below W.heap.size W w1) : (∀ b o, b < W.heap.size → w1.cell? ⟨b, o, none⟩ = W.cell? ⟨b, o, none⟩) ∧ (∀ b o, b < W.heap.size → w1.frozen? ⟨b, o, none⟩ = W.frozen? ⟨b, o, none⟩) :=
  ⟨fun b o h => hb.cell (p := ⟨b, o, none⟩) h, fun b o h => hb.frozen (p := ⟨b, o, none⟩) h⟩

theorem blk_store {w3 : World} {g : Nat} {v0 v1 v2 : Value} (k n : Int) (h0 : w3.cell? ⟨g, 0, none⟩ = some v0) (h1 : w3.cell? ⟨g, 1, none⟩ = some v1) (h2 : w3.cell? ⟨g, 2, none⟩ = some v2) :
    Blk g k n (((w3.setCell ⟨g, 0, none⟩ (.int .i64 k)).setCell ⟨g, 1, none⟩ (.int .i64 n)).setCell ⟨g, 2, none⟩ (.string ⟨#[]⟩)) := by
  have hlt := World.block_lt_of_cell? w3 ⟨g, 0, none⟩ h0
  refine ⟨by simpa using hlt, ?_, ?_, ?_⟩ <;> go_simp
/-- A new block behind a call, whatever the order in which it was made. -/
theorem fin1 {W w3 : World} {o : Obj} (k n : Int) (T : TypeId) (hb : Below (W.alloc o).drew.heap.size (W.alloc o).drew w3) :
    Below W.heap.size W (w3.alloc (.cells #[.int .i64 k, .int .i64 n, .string ⟨#[]⟩] T)) ∧ Blk w3.heap.size k n (w3.alloc (.cells #[.int .i64 k, .int .i64 n, .string ⟨#[]⟩] T)) := by
  have hs := hb.size
  simp only [World.size_alloc, World.size_drew] at hs
  exact ⟨((belowA W o).drew.trans (hb.mono (by simp))).alloc (by omega) _, Blk.make _ _ _ _⟩
theorem fin2 {W w3 : World} {o1 o2 : Obj} {g : Nat} {v0 v1 v2 : Value} {T : TypeId} (k n : Int) (hb : Below ((W.alloc o1).alloc o2).drew.heap.size ((W.alloc o1).alloc o2).drew w3) (hg : W.heap.size ≤ g) (hg' : g < W.heap.size + 1 + 1) (hh : ((W.alloc o1).alloc o2).heap[g]? = some (.cells #[v0, v1, v2] T (0, 0))) :
    Below W.heap.size W (((w3.setCell ⟨g, 0, none⟩ (.int .i64 k)).setCell ⟨g, 1, none⟩ (.int .i64 n)).setCell ⟨g, 2, none⟩ (.string ⟨#[]⟩)) ∧ Blk g k n (((w3.setCell ⟨g, 0, none⟩ (.int .i64 k)).setCell ⟨g, 1, none⟩ (.int .i64 n)).setCell ⟨g, 2, none⟩ (.string ⟨#[]⟩)) := by
  obtain ⟨h0, h1, h2, _⟩ := kept3 (b := g) hb (by simpa using hg') hh
  exact ⟨below_store3 ((below2 W o1 o2).drew.trans (hb.mono (by simp; omega))) hg _ _ _, blk_store _ _ h0 h1 h2⟩
theorem fin2a {W w3 : World} {o1 : Obj} {v0 v1 v2 : Value} {T : TypeId} (k n : Int) (hb : Below ((W.alloc o1).alloc (.cells #[v0, v1, v2] T)).drew.heap.size ((W.alloc o1).alloc (.cells #[v0, v1, v2] T)).drew w3) :
    Below W.heap.size W (((w3.setCell ⟨W.heap.size + 1, 0, none⟩ (.int .i64 k)).setCell ⟨W.heap.size + 1, 1, none⟩ (.int .i64 n)).setCell ⟨W.heap.size + 1, 2, none⟩ (.string ⟨#[]⟩)) ∧ Blk (W.heap.size + 1) k n (((w3.setCell ⟨W.heap.size + 1, 0, none⟩ (.int .i64 k)).setCell ⟨W.heap.size + 1, 1, none⟩ (.int .i64 n)).setCell ⟨W.heap.size + 1, 2, none⟩ (.string ⟨#[]⟩)) :=
  fin2 k n hb (by omega) (by omega) (by have := heap_new (W.alloc o1) (.cells #[v0, v1, v2] T); simpa only [World.size_alloc] using this)
theorem fin2b {W w3 : World} {o2 : Obj} {v0 v1 v2 : Value} {T : TypeId} (k n : Int) (hb : Below ((W.alloc (.cells #[v0, v1, v2] T)).alloc o2).drew.heap.size ((W.alloc (.cells #[v0, v1, v2] T)).alloc o2).drew w3) :
    Below W.heap.size W (((w3.setCell ⟨W.heap.size, 0, none⟩ (.int .i64 k)).setCell ⟨W.heap.size, 1, none⟩ (.int .i64 n)).setCell ⟨W.heap.size, 2, none⟩ (.string ⟨#[]⟩)) ∧ Blk W.heap.size k n (((w3.setCell ⟨W.heap.size, 0, none⟩ (.int .i64 k)).setCell ⟨W.heap.size, 1, none⟩ (.int .i64 n)).setCell ⟨W.heap.size, 2, none⟩ (.string ⟨#[]⟩)) :=
  fin2 k n hb (by omega) (by omega) (by rw [Below.heap_alloc _ _ _ (by simp)]; exact heap_new W _)

theorem rc_neg (x : Int) (hx : inI x = true) : ((rc (-x) == 0) == (x != -9223372036854775808)) = true := by
  rw [inI_iff] at hx
  unfold rc
  by_cases h : x = -9223372036854775808
  · subst h; decide
  · have : inI (-x) = true := by rw [inI_iff]; omega
    rw [this]
    simpa using h

theorem start_back (w w1 : World) (x y : Int) (hb : Below w.heap.size w w1) {W : World} (hW : W = (((w1.alloc (.cells #[.int .i64 2, .int .i64 x, .string ⟨#[]⟩] 24)).alloc (.cells #[.int .i64 2, .int .i64 y, .string ⟨#[]⟩] 24)).alloc (.cells #[.int .i64 2, .int .i64 x, .string ⟨#[]⟩] 24)).alloc (.cells #[.int .i64 2, .int .i64 y, .string ⟨#[]⟩] 24)) :
    Ran w 0 W ∧ (w1.heap.size + 1 + 1 < W.heap.size ∧ W.cell? ⟨w1.heap.size + 1 + 1, 0, none⟩ = some (.int .i64 2) ∧ W.cell? ⟨w1.heap.size + 1 + 1, 1, none⟩ = some (.int .i64 x) ∧ W.cell? ⟨w1.heap.size + 1 + 1, 2, none⟩ = some (.string ⟨#[]⟩)) ∧ (w1.heap.size + 1 + 1 + 1 < W.heap.size ∧ W.cell? ⟨w1.heap.size + 1 + 1 + 1, 0, none⟩ = some (.int .i64 2) ∧ W.cell? ⟨w1.heap.size + 1 + 1 + 1, 1, none⟩ = some (.int .i64 y) ∧ W.cell? ⟨w1.heap.size + 1 + 1 + 1, 2, none⟩ = some (.string ⟨#[]⟩)) := by
  subst hW
  have B : Ran w 0 w1 := ⟨hb, hb.size⟩
  refine ⟨(((B.step (belowA _ _)).step (belowA _ _)).step (belowA _ _)).step (belowA _ _), ?_, ?_⟩
  · have := keepB (newB ((w1.alloc (.cells #[.int .i64 2, .int .i64 x, .string ⟨#[]⟩] 24)).alloc (.cells #[.int .i64 2, .int .i64 y, .string ⟨#[]⟩] 24)) (.int .i64 2) (.int .i64 x) (.string ⟨#[]⟩) 24) (belowA _ (.cells #[.int .i64 2, .int .i64 y, .string ⟨#[]⟩] 24))
    simpa only [World.size_alloc] using this
  · have := newB (((w1.alloc (.cells #[.int .i64 2, .int .i64 x, .string ⟨#[]⟩] 24)).alloc (.cells #[.int .i64 2, .int .i64 y, .string ⟨#[]⟩] 24)).alloc (.cells #[.int .i64 2, .int .i64 x, .string ⟨#[]⟩] 24)) (.int .i64 2) (.int .i64 y) (.string ⟨#[]⟩) 24
    simpa only [World.size_alloc] using this

set_option maxRecDepth 100000 in
set_option maxHeartbeats 1600000 in
theorem back_over (x y : Int) (w : World) (hx : inI x = true) (hy : inI y = true) (hxy : inI (x + y) = false) :
    Calls Tryd.prog 6 #[.int .i64 x, .int .i64 y] w fun e w' => e = .returned (.bool true) ∧ Below w.heap.size w w' := by
  have HA := Lib.hid (fun w => Add_over x y w hx hy hxy)
  have HM1 : Hid (∀ w, Calls Tryd.prog 23 #[vi x, vi 1] w fun e w' => e = .returned (.tuple #[vi x, .int .i64 0]) ∧ Below w.heap.size w w') := Lib.hid (fun w => by have := Mul_ok x 1 w hx (by decide) (by rw [Int.mul_one]; exact hx); rwa [Int.mul_one] at this)
  have HM0 : Hid (∀ w, Calls Tryd.prog 23 #[vi 0, vi x] w fun e w' => e = .returned (.tuple #[vi 0, .int .i64 0]) ∧ Below w.heap.size w w') := Lib.hid (fun w => by have := Mul_ok 0 x w (by decide) hx (by rw [Int.zero_mul]; decide); rwa [Int.zero_mul] at this)
  have HMM : Hid (∀ w, Calls Tryd.prog 23 #[vi x, vi (-1)] w fun e w' => e = .returned (.tuple #[.agg #[.int .i64 (rk (-x)), .int .i64 (rn (-x)), .string ⟨#[]⟩], .int .i64 (rc (-x))]) ∧ Below w.heap.size w w') := Lib.hid (fun w => by have := mul_any x (-1) w hx (by decide); rwa [show x * -1 = -x by omega] at this)
  have HN : Hid (∀ w, Calls Tryd.prog 24 #[vi x] w fun e w' => e = .returned (.tuple #[.agg #[.int .i64 (rk (-x)), .int .i64 (rn (-x)), .string ⟨#[]⟩], .int .i64 (rc (-x))]) ∧ Below w.heap.size w w') := Lib.hid (fun w => by have := neg_any x w hx; rwa [show 0 - x = -x by omega] at this)
  have HAB : Hid (∀ w, Calls Tryd.prog 23 #[vi x, vi y] w fun e w' => e = .returned (.tuple #[.agg #[.int .i64 (rk (x * y)), .int .i64 (rn (x * y)), .string ⟨#[]⟩], .int .i64 (rc (x * y))]) ∧ Below w.heap.size w w') := Lib.hid (fun w => mul_any x y w hx hy)
  have HBA : Hid (∀ w, Calls Tryd.prog 23 #[vi y, vi x] w fun e w' => e = .returned (.tuple #[.agg #[.int .i64 (rk (x * y)), .int .i64 (rn (x * y)), .string ⟨#[]⟩], .int .i64 (rc (x * y))]) ∧ Below w.heap.size w w') := Lib.hid (fun w => by have := mul_any y x w hy hx; rwa [Int.mul_comm y x] at this)
  have hrc := rc_neg x hx
  generalize rk (-x) = kL at *
  generalize rn (-x) = nL at *
  generalize rc (-x) = cL at *
  generalize rk (x * y) = kP at *
  generalize rn (x * y) = nP at *
  generalize rc (x * y) = cP at *
  have Hrc := Lib.hid hrc
  clear hrc
  go_enter Tryd.func6, Tryd.ntmps6
  go_wp2_with fail
  refine (awake_any _).mono ?_
  rintro e w1 ⟨rfl, hb⟩
  go_wp2_with (go_at_call 20; refine (refInt_any _ _).mono ?_; rintro e w' ⟨rfl, rfl⟩)
  obtain ⟨B, K5, K6⟩ := start_back w w1 x y hb rfl
  clear hb
  refine (HA.out _).mono ?_
  rintro e w2 ⟨rfl, hb⟩
  have k5 : Blk (w1.heap.size + 1 + 1) 2 x w2 := keepB K5 hb
  have k6 : Blk (w1.heap.size + 1 + 1 + 1) 2 y w2 := keepB K6 hb
  replace B := B.step hb
  clear hb K5 K6
  generalize w1.heap.size + 1 + 1 = b5 at *
  have hsg : (decide (x < 0) == decide (y < 0)) = true := by
    have h2 : ¬ (-9223372036854775808 ≤ x + y ∧ x + y ≤ 9223372036854775807) := by rw [← inI_iff, hxy]; decide
    rw [inI_iff] at hx hy
    rw [beq_iff_eq, decide_eq_decide]
    omega
  clear hx hy hxy HA
  go_upto_region 11 with fail
  have st : St w b5 x y (w2.alloc (.cells #[.int .i64 0, .int .i64 0, .string ⟨#[]⟩] 24)) := St.step ⟨B, k5, k6⟩ (belowA _ _)
  clear B k5 k6
  generalize w2.alloc (.cells #[.int .i64 0, .int .i64 0, .string ⟨#[]⟩] 24) = W at *
  go_cut [11, 12] (fun s11 s12 wx => ∃ g : Nat, s11 = .pointer (some ⟨g, 0, none⟩) ∧ s12 = .int .i64 0 ∧ St w b5 x y wx ∧ Blk g 2 x wx)
  case first =>
    obtain ⟨q5, c0, c1, c2⟩ := st.2.1
    have n0 : W.heap.size ≠ b5 := by omega
    have n1 : W.heap.size + 1 ≠ b5 := by omega
    have n2 : W.heap.size + 1 + 1 ≠ b5 := by omega
    go_region_held3 (fun w' => w'.cell? ⟨b5, 0, none⟩ = some (.int .i64 2) ∧ w'.cell? ⟨b5, 1, none⟩ = some (.int .i64 x) ∧ w'.cell? ⟨b5, 2, none⟩ = some (.string ⟨#[]⟩)) (first | go_keep | exact k5) ((first | (go_at_call 20; refine (refInt_any _ _).mono ?_; rintro e w' ⟨rfl, rfl⟩) | (go_at_call 23; refine (HM1.out _).mono ?_; rintro e w3 ⟨rfl, hb⟩; obtain ⟨hc, hf⟩ := bcell hb; have hz := hb.size; simp only [World.size_alloc, World.size_drew] at hz; have hS := ‹World.cell? _ ⟨b5, 0, none⟩ = some (Value.int IntKind.i64 2) ∧ _ ∧ _›; have k5 : w3.cell? ⟨b5, 0, none⟩ = some (.int .i64 2) ∧ w3.cell? ⟨b5, 1, none⟩ = some (.int .i64 x) ∧ w3.cell? ⟨b5, 2, none⟩ = some (.string ⟨#[]⟩) := ⟨(hb.cell (p := ⟨b5, 0, none⟩) (by simp; omega)).trans hS.1, (hb.cell (p := ⟨b5, 1, none⟩) (by simp; omega)).trans hS.2.1, (hb.cell (p := ⟨b5, 2, none⟩) (by simp; omega)).trans hS.2.2⟩; have nn3 := World.new_ne w3 ⟨b5, 0, none⟩ k5.1)))
    · go_wp2_with fail
      go_meet
      exact ⟨_, rfl, rfl, st.step (fin1 2 x _ hb).1, (fin1 2 x _ hb).2⟩
    · go_wp2_with fail
      go_meet
      exact ⟨_, rfl, rfl, st.step (fin2a 2 x hb).1, (fin2a 2 x hb).2⟩
    · go_wp2_with fail
      go_meet
      exact ⟨_, rfl, rfl, st.step (fin2b 2 x hb).1, (fin2b 2 x hb).2⟩
  case rest =>
  obtain ⟨g11, rfl, rfl, st, kg11⟩ := hcut
  go_upto_region 12 with fail
  go_cut [13, 14] (fun s13 s14 wx => ∃ g : Nat, s13 = .pointer (some ⟨g, 0, none⟩) ∧ s14 = .int .i64 0 ∧ St w b5 x y wx ∧ Blk g11 2 x wx ∧ Blk g 2 0 wx)
  case first =>
    obtain ⟨q5, c0, c1, c2⟩ := st.2.1
    have n0 : wc.heap.size ≠ b5 := by omega
    have n1 : wc.heap.size + 1 ≠ b5 := by omega
    have n2 : wc.heap.size + 1 + 1 ≠ b5 := by omega
    go_region_held3 (fun w' => w'.cell? ⟨b5, 0, none⟩ = some (.int .i64 2) ∧ w'.cell? ⟨b5, 1, none⟩ = some (.int .i64 x) ∧ w'.cell? ⟨b5, 2, none⟩ = some (.string ⟨#[]⟩)) (first | go_keep | exact k5) ((first | (go_at_call 20; refine (refInt_any _ _).mono ?_; rintro e w' ⟨rfl, rfl⟩) | (go_at_call 23; refine (HM0.out _).mono ?_; rintro e w3 ⟨rfl, hb⟩; obtain ⟨hc, hf⟩ := bcell hb; have hz := hb.size; simp only [World.size_alloc, World.size_drew] at hz; have hS := ‹World.cell? _ ⟨b5, 0, none⟩ = some (Value.int IntKind.i64 2) ∧ _ ∧ _›; have k5 : w3.cell? ⟨b5, 0, none⟩ = some (.int .i64 2) ∧ w3.cell? ⟨b5, 1, none⟩ = some (.int .i64 x) ∧ w3.cell? ⟨b5, 2, none⟩ = some (.string ⟨#[]⟩) := ⟨(hb.cell (p := ⟨b5, 0, none⟩) (by simp; omega)).trans hS.1, (hb.cell (p := ⟨b5, 1, none⟩) (by simp; omega)).trans hS.2.1, (hb.cell (p := ⟨b5, 2, none⟩) (by simp; omega)).trans hS.2.2⟩; have nn3 := World.new_ne w3 ⟨b5, 0, none⟩ k5.1)))
    · go_wp2_with fail
      go_meet
      exact ⟨_, rfl, rfl, st.step (fin1 2 0 _ hb).1, kg11.keep (fin1 2 0 _ hb).1, (fin1 2 0 _ hb).2⟩
    · go_wp2_with fail
      go_meet
      exact ⟨_, rfl, rfl, st.step (fin2a 2 0 hb).1, kg11.keep (fin2a 2 0 hb).1, (fin2a 2 0 hb).2⟩
    · go_wp2_with fail
      go_meet
      exact ⟨_, rfl, rfl, st.step (fin2b 2 0 hb).1, kg11.keep (fin2b 2 0 hb).1, (fin2b 2 0 hb).2⟩
  case rest =>
  obtain ⟨g13, rfl, rfl, st, kg11, kg13⟩ := hcut
  go_upto_region 13 with fail
  go_cut [15, 16] (fun s15 s16 wx => ∃ g : Nat, s15 = .pointer (some ⟨g, 0, none⟩) ∧ s16 = .int .i64 cL ∧ St w b5 x y wx ∧ Blk g11 2 x wx ∧ Blk g13 2 0 wx ∧ Blk g kL nL wx)
  case first =>
    obtain ⟨q5, c0, c1, c2⟩ := st.2.1
    have n0 : wc.heap.size ≠ b5 := by omega
    have n1 : wc.heap.size + 1 ≠ b5 := by omega
    have n2 : wc.heap.size + 1 + 1 ≠ b5 := by omega
    go_region_held3 (fun w' => w'.cell? ⟨b5, 0, none⟩ = some (.int .i64 2) ∧ w'.cell? ⟨b5, 1, none⟩ = some (.int .i64 x) ∧ w'.cell? ⟨b5, 2, none⟩ = some (.string ⟨#[]⟩)) (first | go_keep | exact k5) ((first | (go_at_call 20; refine (refInt_any _ _).mono ?_; rintro e w' ⟨rfl, rfl⟩) | (go_at_call 23; refine (HMM.out _).mono ?_; rintro e w3 ⟨rfl, hb⟩; obtain ⟨hc, hf⟩ := bcell hb; have hz := hb.size; simp only [World.size_alloc, World.size_drew] at hz; have hS := ‹World.cell? _ ⟨b5, 0, none⟩ = some (Value.int IntKind.i64 2) ∧ _ ∧ _›; have k5 : w3.cell? ⟨b5, 0, none⟩ = some (.int .i64 2) ∧ w3.cell? ⟨b5, 1, none⟩ = some (.int .i64 x) ∧ w3.cell? ⟨b5, 2, none⟩ = some (.string ⟨#[]⟩) := ⟨(hb.cell (p := ⟨b5, 0, none⟩) (by simp; omega)).trans hS.1, (hb.cell (p := ⟨b5, 1, none⟩) (by simp; omega)).trans hS.2.1, (hb.cell (p := ⟨b5, 2, none⟩) (by simp; omega)).trans hS.2.2⟩; have nn3 := World.new_ne w3 ⟨b5, 0, none⟩ k5.1)))
    · go_wp2_with fail
      go_meet
      exact ⟨_, rfl, rfl, st.step (fin1 kL nL _ hb).1, kg11.keep (fin1 kL nL _ hb).1, kg13.keep (fin1 kL nL _ hb).1, (fin1 kL nL _ hb).2⟩
    · go_wp2_with fail
      go_meet
      exact ⟨_, rfl, rfl, st.step (fin2a kL nL hb).1, kg11.keep (fin2a kL nL hb).1, kg13.keep (fin2a kL nL hb).1, (fin2a kL nL hb).2⟩
    · go_wp2_with fail
      go_meet
      exact ⟨_, rfl, rfl, st.step (fin2b kL nL hb).1, kg11.keep (fin2b kL nL hb).1, kg13.keep (fin2b kL nL hb).1, (fin2b kL nL hb).2⟩
  case rest =>
  obtain ⟨g15, rfl, rfl, st, kg11, kg13, kg15⟩ := hcut
  obtain ⟨q5, c0, c1, c2⟩ := st.2.1
  obtain ⟨q6, d0, d1, d2⟩ := st.2.2
  go_wp2_with fail
  refine (HN.out _).mono ?_
  rintro e w14 ⟨rfl, hb⟩
  replace st := st.step hb
  replace kg11 := kg11.keep hb
  replace kg13 := kg13.keep hb
  replace kg15 := kg15.keep hb
  clear hb c0 c1 c2 d0 d1 d2 q5 q6
  obtain ⟨q5, c0, c1, c2⟩ := st.2.1
  obtain ⟨q6, d0, d1, d2⟩ := st.2.2
  go_wp2_with fail
  refine (HAB.out _).mono ?_
  rintro e w15 ⟨rfl, hb⟩
  have kg17 := (Blk.make w14 kL nL 24).keep hb
  replace hb := (belowA w14 (.cells #[.int .i64 kL, .int .i64 nL, .string ⟨#[]⟩] 24)).trans (hb.mono (by simp))
  replace st := st.step hb
  replace kg11 := kg11.keep hb
  replace kg13 := kg13.keep hb
  replace kg15 := kg15.keep hb
  clear hb c0 c1 c2 d0 d1 d2 q5 q6
  obtain ⟨q5, c0, c1, c2⟩ := st.2.1
  obtain ⟨q6, d0, d1, d2⟩ := st.2.2
  go_wp2_with fail
  refine (HBA.out _).mono ?_
  rintro e w16 ⟨rfl, hb⟩
  have kg19 := (Blk.make w15 kP nP 24).keep hb
  replace hb := (belowA w15 (.cells #[.int .i64 kP, .int .i64 nP, .string ⟨#[]⟩] 24)).trans (hb.mono (by simp))
  replace st := st.step hb
  replace kg11 := kg11.keep hb
  replace kg13 := kg13.keep hb
  replace kg15 := kg15.keep hb
  replace kg17 := kg17.keep hb
  clear hb c0 c1 c2 d0 d1 d2 q5 q6
  have hb := belowA w16 (.cells #[.int .i64 kP, .int .i64 nP, .string ⟨#[]⟩] 24)
  have kg21 := Blk.make w16 kP nP 24
  replace st := st.step hb
  replace kg11 := kg11.keep hb
  replace kg13 := kg13.keep hb
  replace kg15 := kg15.keep hb
  replace kg17 := kg17.keep hb
  replace kg19 := kg19.keep hb
  clear hb
  go_upto_region 17 with fail
  generalize w14.heap.size = g17 at *
  generalize w15.heap.size = g19 at *
  generalize w16.heap.size = g21 at *
  generalize w16.alloc (.cells #[.int .i64 kP, .int .i64 nP, .string ⟨#[]⟩] 24) = W at *
  obtain ⟨q5, a0, a1, a2⟩ := st.2.1
  obtain ⟨q11, b0, b1, b2⟩ := kg11
  obtain ⟨q13, c0, c1, c2⟩ := kg13
  obtain ⟨q15, d0, d1, d2⟩ := kg15
  obtain ⟨q17, e0, e1, e2⟩ := kg17
  obtain ⟨q19, f0, f1, f2⟩ := kg19
  obtain ⟨q21, h0, h1, h2⟩ := kg21
  have n5 : W.heap.size ≠ b5 := by omega
  have n11 : W.heap.size ≠ g11 := by omega
  have n13 : W.heap.size ≠ g13 := by omega
  have n15 : W.heap.size ≠ g15 := by omega
  have n17 : W.heap.size ≠ g17 := by omega
  have n19 : W.heap.size ≠ g19 := by omega
  have n21 : W.heap.size ≠ g21 := by omega
  have hrc := Hrc.out
  go_region_held3 (fun w' => w'.cell? ⟨b5, 0, none⟩ = some (.int .i64 2) ∧ w'.cell? ⟨b5, 1, none⟩ = some (.int .i64 x) ∧ w'.cell? ⟨b5, 2, none⟩ = some (.string ⟨#[]⟩) ∧ w'.cell? ⟨g11, 0, none⟩ = some (.int .i64 2) ∧ w'.cell? ⟨g11, 1, none⟩ = some (.int .i64 x) ∧ w'.cell? ⟨g11, 2, none⟩ = some (.string ⟨#[]⟩) ∧ w'.cell? ⟨g13, 0, none⟩ = some (.int .i64 2) ∧ w'.cell? ⟨g13, 1, none⟩ = some (.int .i64 0) ∧ w'.cell? ⟨g13, 2, none⟩ = some (.string ⟨#[]⟩) ∧ w'.cell? ⟨g15, 0, none⟩ = some (.int .i64 kL) ∧ w'.cell? ⟨g15, 1, none⟩ = some (.int .i64 nL) ∧ w'.cell? ⟨g15, 2, none⟩ = some (.string ⟨#[]⟩) ∧ w'.cell? ⟨g17, 0, none⟩ = some (.int .i64 kL) ∧ w'.cell? ⟨g17, 1, none⟩ = some (.int .i64 nL) ∧ w'.cell? ⟨g17, 2, none⟩ = some (.string ⟨#[]⟩) ∧ w'.cell? ⟨g19, 0, none⟩ = some (.int .i64 kP) ∧ w'.cell? ⟨g19, 1, none⟩ = some (.int .i64 nP) ∧ w'.cell? ⟨g19, 2, none⟩ = some (.string ⟨#[]⟩) ∧ w'.cell? ⟨g21, 0, none⟩ = some (.int .i64 kP) ∧ w'.cell? ⟨g21, 1, none⟩ = some (.int .i64 nP) ∧ w'.cell? ⟨g21, 2, none⟩ = some (.string ⟨#[]⟩)) (go_keep) ((go_at_call 20; refine (refInt_any _ _).mono ?_; rintro e w' ⟨rfl, rfl⟩))
  go_wp2
  go_ret
  exact ⟨rfl, (st.1.1.alloc (by have := st.1.2; omega) _).drew⟩

set_option maxRecDepth 100000 in
set_option maxHeartbeats 1600000 in
theorem back_ok (x y : Int) (w : World) (hx : inI x = true) (hy : inI y = true) (hxy : inI (x + y) = true) :
    Calls Tryd.prog 6 #[.int .i64 x, .int .i64 y] w fun e w' => e = .returned (.bool true) ∧ Below w.heap.size w w' := by
  have HA := Lib.hid (fun w => Add_ok x y w hx hy hxy)
  have HS : Hid (∀ w, Calls Tryd.prog 22 #[vi (x + y), vi y] w fun e w' => e = .returned (.tuple #[vi x, .int .i64 0]) ∧ Below w.heap.size w w') := Lib.hid (fun w => by have := Sub_ok (x + y) y w hxy hy (by rw [show x + y - y = x by omega]; exact hx); rwa [show x + y - y = x by omega] at this)
  have HM1 : Hid (∀ w, Calls Tryd.prog 23 #[vi x, vi 1] w fun e w' => e = .returned (.tuple #[vi x, .int .i64 0]) ∧ Below w.heap.size w w') := Lib.hid (fun w => by have := Mul_ok x 1 w hx (by decide) (by rw [Int.mul_one]; exact hx); rwa [Int.mul_one] at this)
  have HM0 : Hid (∀ w, Calls Tryd.prog 23 #[vi 0, vi x] w fun e w' => e = .returned (.tuple #[vi 0, .int .i64 0]) ∧ Below w.heap.size w w') := Lib.hid (fun w => by have := Mul_ok 0 x w (by decide) hx (by rw [Int.zero_mul]; decide); rwa [Int.zero_mul] at this)
  have HMM : Hid (∀ w, Calls Tryd.prog 23 #[vi x, vi (-1)] w fun e w' => e = .returned (.tuple #[.agg #[.int .i64 (rk (-x)), .int .i64 (rn (-x)), .string ⟨#[]⟩], .int .i64 (rc (-x))]) ∧ Below w.heap.size w w') := Lib.hid (fun w => by have := mul_any x (-1) w hx (by decide); rwa [show x * -1 = -x by omega] at this)
  have HN : Hid (∀ w, Calls Tryd.prog 24 #[vi x] w fun e w' => e = .returned (.tuple #[.agg #[.int .i64 (rk (-x)), .int .i64 (rn (-x)), .string ⟨#[]⟩], .int .i64 (rc (-x))]) ∧ Below w.heap.size w w') := Lib.hid (fun w => by have := neg_any x w hx; rwa [show 0 - x = -x by omega] at this)
  have HAB : Hid (∀ w, Calls Tryd.prog 23 #[vi x, vi y] w fun e w' => e = .returned (.tuple #[.agg #[.int .i64 (rk (x * y)), .int .i64 (rn (x * y)), .string ⟨#[]⟩], .int .i64 (rc (x * y))]) ∧ Below w.heap.size w w') := Lib.hid (fun w => mul_any x y w hx hy)
  have HBA : Hid (∀ w, Calls Tryd.prog 23 #[vi y, vi x] w fun e w' => e = .returned (.tuple #[.agg #[.int .i64 (rk (x * y)), .int .i64 (rn (x * y)), .string ⟨#[]⟩], .int .i64 (rc (x * y))]) ∧ Below w.heap.size w w') := Lib.hid (fun w => by have := mul_any y x w hy hx; rwa [Int.mul_comm y x] at this)
  have hrc := rc_neg x hx
  generalize rk (-x) = kL at *
  generalize rn (-x) = nL at *
  generalize rc (-x) = cL at *
  generalize rk (x * y) = kP at *
  generalize rn (x * y) = nP at *
  generalize rc (x * y) = cP at *
  have Hrc := Lib.hid hrc
  clear hrc
  go_enter Tryd.func6, Tryd.ntmps6
  go_wp2_with fail
  refine (awake_any _).mono ?_
  rintro e w1 ⟨rfl, hb⟩
  go_wp2_with (go_at_call 20; refine (refInt_any _ _).mono ?_; rintro e w' ⟨rfl, rfl⟩)
  obtain ⟨B, K5, K6⟩ := start_back w w1 x y hb rfl
  clear hb
  refine (HA.out _).mono ?_
  rintro e w2 ⟨rfl, hb⟩
  have k5 : Blk (w1.heap.size + 1 + 1) 2 x w2 := keepB K5 hb
  have k6 : Blk (w1.heap.size + 1 + 1 + 1) 2 y w2 := keepB K6 hb
  replace B := B.step hb
  clear hb K5 K6
  generalize w1.heap.size + 1 + 1 = b5 at *
  clear hx hy hxy HA
  have st : St w b5 x y w2 := ⟨B, k5, k6⟩
  clear B k5 k6
  generalize hr : x + y = r at *
  have Hr := Lib.hid hr
  clear hr
  have k7 := Blk.make w2 2 r 24
  replace st := st.step (belowA w2 (.cells #[.int .i64 2, .int .i64 r, .string ⟨#[]⟩] 24))
  obtain ⟨q5, c0, c1, c2⟩ := st.2.1
  obtain ⟨q6, d0, d1, d2⟩ := st.2.2
  go_wp2_with fail
  refine (HS.out _).mono ?_
  rintro e w3 ⟨rfl, hb⟩
  replace st := st.step hb
  clear hb c0 c1 c2 d0 d1 d2 q5 q6 k7
  replace st := st.step (belowA w3 (.cells #[.int .i64 2, .int .i64 x, .string ⟨#[]⟩] 24))
  obtain ⟨q5, c0, c1, c2⟩ := st.2.1
  go_upto_region 11 with fail
  clear q5 c0 c1 c2
  generalize w3.alloc (.cells #[.int .i64 2, .int .i64 x, .string ⟨#[]⟩] 24) = W at *
  go_cut [11, 12] (fun s11 s12 wx => ∃ g : Nat, s11 = .pointer (some ⟨g, 0, none⟩) ∧ s12 = .int .i64 0 ∧ St w b5 x y wx ∧ Blk g 2 x wx)
  case first =>
    obtain ⟨q5, c0, c1, c2⟩ := st.2.1
    have n0 : W.heap.size ≠ b5 := by omega
    have n1 : W.heap.size + 1 ≠ b5 := by omega
    have n2 : W.heap.size + 1 + 1 ≠ b5 := by omega
    go_region_held3 (fun w' => w'.cell? ⟨b5, 0, none⟩ = some (.int .i64 2) ∧ w'.cell? ⟨b5, 1, none⟩ = some (.int .i64 x) ∧ w'.cell? ⟨b5, 2, none⟩ = some (.string ⟨#[]⟩)) (first | go_keep | exact k5) ((first | (go_at_call 20; refine (refInt_any _ _).mono ?_; rintro e w' ⟨rfl, rfl⟩) | (go_at_call 23; refine (HM1.out _).mono ?_; rintro e w3 ⟨rfl, hb⟩; obtain ⟨hc, hf⟩ := bcell hb; have hz := hb.size; simp only [World.size_alloc, World.size_drew] at hz; have hS := ‹World.cell? _ ⟨b5, 0, none⟩ = some (Value.int IntKind.i64 2) ∧ _ ∧ _›; have k5 : w3.cell? ⟨b5, 0, none⟩ = some (.int .i64 2) ∧ w3.cell? ⟨b5, 1, none⟩ = some (.int .i64 x) ∧ w3.cell? ⟨b5, 2, none⟩ = some (.string ⟨#[]⟩) := ⟨(hb.cell (p := ⟨b5, 0, none⟩) (by simp; omega)).trans hS.1, (hb.cell (p := ⟨b5, 1, none⟩) (by simp; omega)).trans hS.2.1, (hb.cell (p := ⟨b5, 2, none⟩) (by simp; omega)).trans hS.2.2⟩; have nn3 := World.new_ne w3 ⟨b5, 0, none⟩ k5.1)))
    · go_wp2_with fail
      go_meet
      exact ⟨_, rfl, rfl, st.step (fin1 2 x _ hb).1, (fin1 2 x _ hb).2⟩
    · go_wp2_with fail
      go_meet
      exact ⟨_, rfl, rfl, st.step (fin2a 2 x hb).1, (fin2a 2 x hb).2⟩
    · go_wp2_with fail
      go_meet
      exact ⟨_, rfl, rfl, st.step (fin2b 2 x hb).1, (fin2b 2 x hb).2⟩
  case rest =>
  obtain ⟨g11, rfl, rfl, st, kg11⟩ := hcut
  go_upto_region 12 with fail
  go_cut [13, 14] (fun s13 s14 wx => ∃ g : Nat, s13 = .pointer (some ⟨g, 0, none⟩) ∧ s14 = .int .i64 0 ∧ St w b5 x y wx ∧ Blk g11 2 x wx ∧ Blk g 2 0 wx)
  case first =>
    obtain ⟨q5, c0, c1, c2⟩ := st.2.1
    have n0 : wc.heap.size ≠ b5 := by omega
    have n1 : wc.heap.size + 1 ≠ b5 := by omega
    have n2 : wc.heap.size + 1 + 1 ≠ b5 := by omega
    go_region_held3 (fun w' => w'.cell? ⟨b5, 0, none⟩ = some (.int .i64 2) ∧ w'.cell? ⟨b5, 1, none⟩ = some (.int .i64 x) ∧ w'.cell? ⟨b5, 2, none⟩ = some (.string ⟨#[]⟩)) (first | go_keep | exact k5) ((first | (go_at_call 20; refine (refInt_any _ _).mono ?_; rintro e w' ⟨rfl, rfl⟩) | (go_at_call 23; refine (HM0.out _).mono ?_; rintro e w3 ⟨rfl, hb⟩; obtain ⟨hc, hf⟩ := bcell hb; have hz := hb.size; simp only [World.size_alloc, World.size_drew] at hz; have hS := ‹World.cell? _ ⟨b5, 0, none⟩ = some (Value.int IntKind.i64 2) ∧ _ ∧ _›; have k5 : w3.cell? ⟨b5, 0, none⟩ = some (.int .i64 2) ∧ w3.cell? ⟨b5, 1, none⟩ = some (.int .i64 x) ∧ w3.cell? ⟨b5, 2, none⟩ = some (.string ⟨#[]⟩) := ⟨(hb.cell (p := ⟨b5, 0, none⟩) (by simp; omega)).trans hS.1, (hb.cell (p := ⟨b5, 1, none⟩) (by simp; omega)).trans hS.2.1, (hb.cell (p := ⟨b5, 2, none⟩) (by simp; omega)).trans hS.2.2⟩; have nn3 := World.new_ne w3 ⟨b5, 0, none⟩ k5.1)))
    · go_wp2_with fail
      go_meet
      exact ⟨_, rfl, rfl, st.step (fin1 2 0 _ hb).1, kg11.keep (fin1 2 0 _ hb).1, (fin1 2 0 _ hb).2⟩
    · go_wp2_with fail
      go_meet
      exact ⟨_, rfl, rfl, st.step (fin2a 2 0 hb).1, kg11.keep (fin2a 2 0 hb).1, (fin2a 2 0 hb).2⟩
    · go_wp2_with fail
      go_meet
      exact ⟨_, rfl, rfl, st.step (fin2b 2 0 hb).1, kg11.keep (fin2b 2 0 hb).1, (fin2b 2 0 hb).2⟩
  case rest =>
  obtain ⟨g13, rfl, rfl, st, kg11, kg13⟩ := hcut
  go_upto_region 13 with fail
  go_cut [15, 16] (fun s15 s16 wx => ∃ g : Nat, s15 = .pointer (some ⟨g, 0, none⟩) ∧ s16 = .int .i64 cL ∧ St w b5 x y wx ∧ Blk g11 2 x wx ∧ Blk g13 2 0 wx ∧ Blk g kL nL wx)
  case first =>
    obtain ⟨q5, c0, c1, c2⟩ := st.2.1
    have n0 : wc.heap.size ≠ b5 := by omega
    have n1 : wc.heap.size + 1 ≠ b5 := by omega
    have n2 : wc.heap.size + 1 + 1 ≠ b5 := by omega
    go_region_held3 (fun w' => w'.cell? ⟨b5, 0, none⟩ = some (.int .i64 2) ∧ w'.cell? ⟨b5, 1, none⟩ = some (.int .i64 x) ∧ w'.cell? ⟨b5, 2, none⟩ = some (.string ⟨#[]⟩)) (first | go_keep | exact k5) ((first | (go_at_call 20; refine (refInt_any _ _).mono ?_; rintro e w' ⟨rfl, rfl⟩) | (go_at_call 23; refine (HMM.out _).mono ?_; rintro e w3 ⟨rfl, hb⟩; obtain ⟨hc, hf⟩ := bcell hb; have hz := hb.size; simp only [World.size_alloc, World.size_drew] at hz; have hS := ‹World.cell? _ ⟨b5, 0, none⟩ = some (Value.int IntKind.i64 2) ∧ _ ∧ _›; have k5 : w3.cell? ⟨b5, 0, none⟩ = some (.int .i64 2) ∧ w3.cell? ⟨b5, 1, none⟩ = some (.int .i64 x) ∧ w3.cell? ⟨b5, 2, none⟩ = some (.string ⟨#[]⟩) := ⟨(hb.cell (p := ⟨b5, 0, none⟩) (by simp; omega)).trans hS.1, (hb.cell (p := ⟨b5, 1, none⟩) (by simp; omega)).trans hS.2.1, (hb.cell (p := ⟨b5, 2, none⟩) (by simp; omega)).trans hS.2.2⟩; have nn3 := World.new_ne w3 ⟨b5, 0, none⟩ k5.1)))
    · go_wp2_with fail
      go_meet
      exact ⟨_, rfl, rfl, st.step (fin1 kL nL _ hb).1, kg11.keep (fin1 kL nL _ hb).1, kg13.keep (fin1 kL nL _ hb).1, (fin1 kL nL _ hb).2⟩
    · go_wp2_with fail
      go_meet
      exact ⟨_, rfl, rfl, st.step (fin2a kL nL hb).1, kg11.keep (fin2a kL nL hb).1, kg13.keep (fin2a kL nL hb).1, (fin2a kL nL hb).2⟩
    · go_wp2_with fail
      go_meet
      exact ⟨_, rfl, rfl, st.step (fin2b kL nL hb).1, kg11.keep (fin2b kL nL hb).1, kg13.keep (fin2b kL nL hb).1, (fin2b kL nL hb).2⟩
  case rest =>
  obtain ⟨g15, rfl, rfl, st, kg11, kg13, kg15⟩ := hcut
  obtain ⟨q5, c0, c1, c2⟩ := st.2.1
  obtain ⟨q6, d0, d1, d2⟩ := st.2.2
  go_wp2_with fail
  refine (HN.out _).mono ?_
  rintro e w14 ⟨rfl, hb⟩
  replace st := st.step hb
  replace kg11 := kg11.keep hb
  replace kg13 := kg13.keep hb
  replace kg15 := kg15.keep hb
  clear hb c0 c1 c2 d0 d1 d2 q5 q6
  obtain ⟨q5, c0, c1, c2⟩ := st.2.1
  obtain ⟨q6, d0, d1, d2⟩ := st.2.2
  go_wp2_with fail
  refine (HAB.out _).mono ?_
  rintro e w15 ⟨rfl, hb⟩
  have kg17 := (Blk.make w14 kL nL 24).keep hb
  replace hb := (belowA w14 (.cells #[.int .i64 kL, .int .i64 nL, .string ⟨#[]⟩] 24)).trans (hb.mono (by simp))
  replace st := st.step hb
  replace kg11 := kg11.keep hb
  replace kg13 := kg13.keep hb
  replace kg15 := kg15.keep hb
  clear hb c0 c1 c2 d0 d1 d2 q5 q6
  obtain ⟨q5, c0, c1, c2⟩ := st.2.1
  obtain ⟨q6, d0, d1, d2⟩ := st.2.2
  go_wp2_with fail
  refine (HBA.out _).mono ?_
  rintro e w16 ⟨rfl, hb⟩
  have kg19 := (Blk.make w15 kP nP 24).keep hb
  replace hb := (belowA w15 (.cells #[.int .i64 kP, .int .i64 nP, .string ⟨#[]⟩] 24)).trans (hb.mono (by simp))
  replace st := st.step hb
  replace kg11 := kg11.keep hb
  replace kg13 := kg13.keep hb
  replace kg15 := kg15.keep hb
  replace kg17 := kg17.keep hb
  clear hb c0 c1 c2 d0 d1 d2 q5 q6
  have hb := belowA w16 (.cells #[.int .i64 kP, .int .i64 nP, .string ⟨#[]⟩] 24)
  have kg21 := Blk.make w16 kP nP 24
  replace st := st.step hb
  replace kg11 := kg11.keep hb
  replace kg13 := kg13.keep hb
  replace kg15 := kg15.keep hb
  replace kg17 := kg17.keep hb
  replace kg19 := kg19.keep hb
  clear hb
  go_upto_region 17 with fail
  generalize w14.heap.size = g17 at *
  generalize w15.heap.size = g19 at *
  generalize w16.heap.size = g21 at *
  generalize w16.alloc (.cells #[.int .i64 kP, .int .i64 nP, .string ⟨#[]⟩] 24) = W at *
  obtain ⟨q5, a0, a1, a2⟩ := st.2.1
  obtain ⟨q11, b0, b1, b2⟩ := kg11
  obtain ⟨q13, c0, c1, c2⟩ := kg13
  obtain ⟨q15, d0, d1, d2⟩ := kg15
  obtain ⟨q17, e0, e1, e2⟩ := kg17
  obtain ⟨q19, f0, f1, f2⟩ := kg19
  obtain ⟨q21, h0, h1, h2⟩ := kg21
  have n5 : W.heap.size ≠ b5 := by omega
  have n11 : W.heap.size ≠ g11 := by omega
  have n13 : W.heap.size ≠ g13 := by omega
  have n15 : W.heap.size ≠ g15 := by omega
  have n17 : W.heap.size ≠ g17 := by omega
  have n19 : W.heap.size ≠ g19 := by omega
  have n21 : W.heap.size ≠ g21 := by omega
  have hrc := Hrc.out
  go_region_held3 (fun w' => w'.cell? ⟨b5, 0, none⟩ = some (.int .i64 2) ∧ w'.cell? ⟨b5, 1, none⟩ = some (.int .i64 x) ∧ w'.cell? ⟨b5, 2, none⟩ = some (.string ⟨#[]⟩) ∧ w'.cell? ⟨g11, 0, none⟩ = some (.int .i64 2) ∧ w'.cell? ⟨g11, 1, none⟩ = some (.int .i64 x) ∧ w'.cell? ⟨g11, 2, none⟩ = some (.string ⟨#[]⟩) ∧ w'.cell? ⟨g13, 0, none⟩ = some (.int .i64 2) ∧ w'.cell? ⟨g13, 1, none⟩ = some (.int .i64 0) ∧ w'.cell? ⟨g13, 2, none⟩ = some (.string ⟨#[]⟩) ∧ w'.cell? ⟨g15, 0, none⟩ = some (.int .i64 kL) ∧ w'.cell? ⟨g15, 1, none⟩ = some (.int .i64 nL) ∧ w'.cell? ⟨g15, 2, none⟩ = some (.string ⟨#[]⟩) ∧ w'.cell? ⟨g17, 0, none⟩ = some (.int .i64 kL) ∧ w'.cell? ⟨g17, 1, none⟩ = some (.int .i64 nL) ∧ w'.cell? ⟨g17, 2, none⟩ = some (.string ⟨#[]⟩) ∧ w'.cell? ⟨g19, 0, none⟩ = some (.int .i64 kP) ∧ w'.cell? ⟨g19, 1, none⟩ = some (.int .i64 nP) ∧ w'.cell? ⟨g19, 2, none⟩ = some (.string ⟨#[]⟩) ∧ w'.cell? ⟨g21, 0, none⟩ = some (.int .i64 kP) ∧ w'.cell? ⟨g21, 1, none⟩ = some (.int .i64 nP) ∧ w'.cell? ⟨g21, 2, none⟩ = some (.string ⟨#[]⟩)) (go_keep) ((go_at_call 20; refine (refInt_any _ _).mono ?_; rintro e w' ⟨rfl, rfl⟩))
  go_wp2
  go_ret
  exact ⟨rfl, (st.1.1.alloc (by have := st.1.2; omega) _).drew⟩

theorem ValueBack_any (x y : Int) (w : World) (hx : inI x = true) (hy : inI y = true) :
    Calls Tryd.prog 6 #[.int .i64 x, .int .i64 y] w fun e w' => e = .returned (.bool true) ∧ Below w.heap.size w w' := by
  cases h : inI (x + y)
  · exact back_over x y w hx hy h
  · exact back_ok x y w hx hy h
end Go.Proofs.YthdofhicccabiaaDoor
