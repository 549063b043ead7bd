/- The texts of ParseBinds, as queries: by evaluation. The law ParseBinds, walked: true at any number. The texts that ParseTurns makes, and their conditions. The law ParseTurns, walked: true at any two values. The law ParseTurns at two good values: the six comparisons. -/
import Derived.Test.YtppigamibgefaaaGreatDoorZp14
import Derived.Test.YtppigamibgefaaaGreatDoorZp30
import Derived.Test.YtppigamibgefaaaGreatDoorPaVxZ
import Derived.Deep.RegionHeld
namespace Go.Proofs.YtppigamibgefaaaGreatDoor
open Go.RowKit

def preX (s : ByteArray) : ByteArray := ⟨#[83, 69, 76, 69, 67, 84, 32, 42, 32, 70, 82, 79, 77, 32, 116, 32, 87, 72, 69, 82, 69, 32]⟩ ++ s
/-- A comparison, with a NOT ahead or without. -/
def nw (b : Bool) (s : ByteArray) : ByteArray := if b then ⟨#[78, 79, 84, 32]⟩ ++ s else s
def wA : ByteArray := ⟨#[97, 32, 61, 32, 49]⟩
def wB : ByteArray := ⟨#[98, 32, 61, 32, 50]⟩
def wC : ByteArray := ⟨#[99, 32, 61, 32, 51]⟩
def bindX (a b c : Bool) : ByteArray := nw a wA ++ ⟨#[32, 79, 82, 32]⟩ ++ nw b wB ++ ⟨#[32, 65, 78, 68, 32]⟩ ++ nw c wC
def bindY (a b c : Bool) : ByteArray := ⟨#[40]⟩ ++ nw a wA ++ ⟨#[41, 32, 79, 82, 32, 40, 40]⟩ ++ nw b wB ++ ⟨#[41, 32, 65, 78, 68, 32, 40]⟩ ++ nw c wC ++ ⟨#[41, 41]⟩
def bindZ (a b c : Bool) : ByteArray := ⟨#[40]⟩ ++ nw a wA ++ ⟨#[32, 79, 82, 32]⟩ ++ nw b wB ++ ⟨#[41, 32, 65, 78, 68, 32]⟩ ++ nw c wC
def nP (b : Bool) (p : Prd) : Prd := if b then .mk 10 ⟨#[]⟩ 0 ⟨0, 0, ⟨#[]⟩⟩ ⟨#[]⟩ [] [p] 0 else p
def eqP (c : UInt8) (n : Int) : Prd := .mk 3 ⟨#[c]⟩ 1 ⟨2, n, ⟨#[]⟩⟩ ⟨#[]⟩ [] [] 0
def jP (k : Nat) (p q : Prd) : Prd := .mk k ⟨#[]⟩ 0 ⟨0, 0, ⟨#[]⟩⟩ ⟨#[]⟩ [] [p, q] 0
def prX (a b c : Bool) : Prd := jP 9 (nP a (eqP 97 1)) (jP 8 (nP b (eqP 98 2)) (nP c (eqP 99 3)))
def prZ (a b c : Bool) : Prd := jP 8 (jP 9 (nP a (eqP 97 1)) (nP b (eqP 98 2))) (nP c (eqP 99 3))
/-- A query's condition without places. -/
def condE : Except (Nat × Nat) Qry → Option Prd
  | .error _ => none
  | .ok q => some q.cond.e
theorem bind_x : ∀ a b c : Bool, condE (parseL (preX (bindX a b c))) = some (prX a b c)
  | false, false, false => by kernel_rfl
  | false, false, true => by kernel_rfl
  | false, true, false => by kernel_rfl
  | false, true, true => by kernel_rfl
  | true, false, false => by kernel_rfl
  | true, false, true => by kernel_rfl
  | true, true, false => by kernel_rfl
  | true, true, true => by kernel_rfl
theorem bind_y : ∀ a b c : Bool, condE (parseL (preX (bindY a b c))) = some (prX a b c)
  | false, false, false => by kernel_rfl
  | false, false, true => by kernel_rfl
  | false, true, false => by kernel_rfl
  | false, true, true => by kernel_rfl
  | true, false, false => by kernel_rfl
  | true, false, true => by kernel_rfl
  | true, true, false => by kernel_rfl
  | true, true, true => by kernel_rfl
theorem bind_z : ∀ a b c : Bool, condE (parseL (preX (bindZ a b c))) = some (prZ a b c)
  | false, false, false => by kernel_rfl
  | false, false, true => by kernel_rfl
  | false, true, false => by kernel_rfl
  | false, true, true => by kernel_rfl
  | true, false, false => by kernel_rfl
  | true, false, true => by kernel_rfl
  | true, true, false => by kernel_rfl
  | true, true, true => by kernel_rfl
theorem condE_ok {r : Except (Nat × Nat) Qry} {p : Prd} (h : condE r = some p) : ∃ q, r = .ok q ∧ q.cond.e = p := by
  cases r with
  | error e => cases h
  | ok q => exact ⟨q, rfl, by simpa [condE] using h⟩
mutual
theorem Prd.n_er : ∀ p : Prd, p.e.e = p.e
  | .mk _ _ _ _ _ _ ks _ => by simp only [Prd.e, Prd.ns_er ks]
theorem Prd.ns_er : ∀ l : List Prd, Prd.es (Prd.es l) = Prd.es l
  | [] => rfl
  | x :: r => by simp only [Prd.es, Prd.n_er x, Prd.ns_er r]
end
end Go.Proofs.YtppigamibgefaaaGreatDoor
namespace Go.Proofs.YtppigamibgefaaaGreatDoor
open Go.RowKit

/-- The three words in memory, and how. -/
def WdAt (n : Int) (g q : Nat) (w : World) : Prop := w.cell? ⟨g, 0, none⟩ = some (.int .u8 n) ∧ w.cell? ⟨q, 0, none⟩ = some (.string ⟨#[97, 32, 61, 32, 49]⟩) ∧ w.cell? ⟨q, 1, none⟩ = some (.string ⟨#[98, 32, 61, 32, 50]⟩) ∧ w.cell? ⟨q, 2, none⟩ = some (.string ⟨#[99, 32, 61, 32, 51]⟩)
theorem WdAt.keep {n : Int} {g q : Nat} {w w' : World} (h : WdAt n g q w) (hg : w.grownBy w' none) : WdAt n g q w' :=
  ⟨hg.cell h.1 (by simp), hg.cell h.2.1 (by simp), hg.cell h.2.2.1 (by simp), hg.cell h.2.2.2 (by simp)⟩
set_option maxHeartbeats 1600000 in
theorem not0_any (n : Int) (b : Bool) (hbit : (bits BinOp.and .u8 n 1 == 1) = b) (g q : Nat) (w : World) (h : WdAt n g q w) :
    Calls Tryz.prog 18 #[.int .i64 0, .pointer (some ⟨g, 0, none⟩), .pointer (some ⟨q, 0, none⟩)] w fun e w' => w = w' ∧ e = .returned (.string (nw b wA)) := by
  obtain ⟨hb, c0, c1, c2⟩ := h
  cases b with
  | true =>
    go_enter Tryz.func18, Tryz.ntmps18
    go_wp2_with fail
    go_ret
    exact ⟨rfl, rfl⟩
  | false =>
    go_enter Tryz.func18, Tryz.ntmps18
    go_wp2_with fail
    go_ret
    exact ⟨rfl, rfl⟩
set_option maxHeartbeats 1600000 in
theorem not1_any (n : Int) (b : Bool) (hbit : (bits BinOp.and .u8 (n / 2) 1 == 1) = b) (g q : Nat) (w : World) (h : WdAt n g q w) :
    Calls Tryz.prog 18 #[.int .i64 1, .pointer (some ⟨g, 0, none⟩), .pointer (some ⟨q, 0, none⟩)] w fun e w' => w = w' ∧ e = .returned (.string (nw b wB)) := by
  obtain ⟨hb, c0, c1, c2⟩ := h
  cases b with
  | true =>
    go_enter Tryz.func18, Tryz.ntmps18
    go_wp2_with fail
    go_ret
    exact ⟨rfl, rfl⟩
  | false =>
    go_enter Tryz.func18, Tryz.ntmps18
    go_wp2_with fail
    go_ret
    exact ⟨rfl, rfl⟩
set_option maxHeartbeats 1600000 in
theorem not2_any (n : Int) (b : Bool) (hbit : (bits BinOp.and .u8 (n / 4) 1 == 1) = b) (g q : Nat) (w : World) (h : WdAt n g q w) :
    Calls Tryz.prog 18 #[.int .i64 2, .pointer (some ⟨g, 0, none⟩), .pointer (some ⟨q, 0, none⟩)] w fun e w' => w = w' ∧ e = .returned (.string (nw b wC)) := by
  obtain ⟨hb, c0, c1, c2⟩ := h
  cases b with
  | true =>
    go_enter Tryz.func18, Tryz.ntmps18
    go_wp2_with fail
    go_ret
    exact ⟨rfl, rfl⟩
  | false =>
    go_enter Tryz.func18, Tryz.ntmps18
    go_wp2_with fail
    go_ret
    exact ⟨rfl, rfl⟩
/-- A predicate without places is what it is in memory. -/
theorem Pm.z_mk {x : Pm} {k : Nat} {c : ByteArray} {r : Nat} {v : Vl} {o : ByteArray} {l : List Vl} {ks : List Prd} (h : x.z false = .mk k c r v o l ks 0) : ∃ la lc ka kc kids p, x = .mk k c r v o la lc l ka kc kids p ∧ kids.map (Pm.z false) = ks := by
  obtain ⟨k', c', r', v', o', la, lc, l', ka, kc, ks', p'⟩ := x
  simp only [Pm.z, Bool.false_eq_true, if_false, Pm.e, Prd.e, Prd.mk.injEq, and_true] at h
  obtain ⟨rfl, rfl, rfl, rfl, rfl, rfl, h7⟩ := h
  refine ⟨la, lc, ka, kc, ks', p', rfl, ?_⟩
  rw [← h7, Pm.es_map, Prd.es_map, List.map_map]; rfl
theorem two_kids {kids : List Pm} {p q : Prd} (h : kids.map (Pm.z false) = [p, q]) : ∃ x y, kids = [x, y] ∧ x.z false = p ∧ y.z false = q := by
  match kids, h with
  | [x, y], h => simp only [List.map_cons, List.map_nil, List.cons.injEq, and_true] at h; exact ⟨x, y, rfl, h.1, h.2⟩
  | [], h => simp at h
  | [_], h => simp at h
  | _ :: _ :: _ :: _, h => simp at h
def Prd.kd : Prd → Nat | .mk k _ _ _ _ _ _ _ => k
theorem Pm.z_kd {x : Pm} {p : Prd} (h : x.z false = p) : x.c[0]? = some (.int .i64 p.kd) := by
  subst h
  obtain ⟨k', c', r', v', o', la, lc, l', ka, kc, ks', p'⟩ := x
  rfl
/-- One of two kids, in memory. -/
theorem pair_mem {S : Nat → Prop} {w : World} {x : Pm} {k : Nat} {p q : Prd} (hx : x.z false = jP k p q) (hS : PmS S w x) : ∃ b o kc la lc pp x1 x2, x = .mk k ⟨#[]⟩ 0 ⟨0, 0, ⟨#[]⟩⟩ ⟨#[]⟩ la lc [] (some ⟨b, o, none⟩) kc [x1, x2] pp ∧ 2 ≤ kc ∧ w.cell? ⟨b, o, none⟩ = some (.int .i64 p.kd) ∧ w.cell? ⟨b, o + 10, none⟩ = some (.int .i64 q.kd) := by
  obtain ⟨la, lc, ka, kc, kids, pp, rfl, hk⟩ := Pm.z_mk hx
  obtain ⟨x1, x2, rfl, h1, h2⟩ := two_kids hk
  obtain ⟨_, _, hK, hKl, _⟩ := hS
  obtain ⟨b, o, rfl, _, hc⟩ := kids_cells hK (by simp)
  refine ⟨b, o, kc, la, lc, pp, x1, x2, rfl, hKl, ?_, ?_⟩
  · have := hc 0 (by simp) 0 _ (Pm.z_kd h1); simpa using this
  · have := hc 1 (by simp) 0 _ (Pm.z_kd h2); simpa using this
mutual
theorem Prd.n_z : ∀ p : Prd, p.e.n = p.n
  | .mk _ _ _ _ _ _ ks _ => by rw [Prd.e, Prd.n, Prd.n, Prd.ns_z ks]
theorem Prd.ns_z : ∀ l : List Prd, Prd.ns (Prd.es l) = Prd.ns l
  | [] => rfl
  | x :: r => by rw [Prd.es, Prd.ns, Prd.ns, Prd.n_z x, Prd.ns_z r]
end
theorem Pm.n_zz (x : Pm) : x.n = (x.z false).n := by
  rw [Pm.n_e, Pm.z, if_neg (by decide), Prd.n_z]
/-- A predicate stored in a new variable. -/
def put10 (w : World) (x : Pm) : World := (w.alloc (.cells z10 31)).setRow w.heap.size x.c.toArray
theorem put10_grown (w : World) (x : Pm) : w.grownBy (put10 w x) none := grown_thenX (World.grownBy_alloc w (.cells z10 31) none) (grown_setRow _ w.heap.size x.c.toArray) (fun j e => by cases e; exact Nat.le_refl _)
theorem put10_blk (w : World) (x : Pm) : (put10 w x).heap[w.heap.size]? = some (.cells x.c.toArray 31 (0, 0)) := setRow_heap _ _ z10 _ _ _ (heap_alloc_new w (.cells z10 31))
theorem where_cond (G : Nat) (n g m l : Addr) (s : ByteArray) (w : World) (hE : LxEnv G n g m l w) (p : Prd) (hp : condE (parseL (preX s)) = some p) : Calls Tryz.prog 19 #[.string s] w fun e w' => ∃ x : Pm, e = .returned (.tuple #[x.v, .bool true]) ∧ x.z false = p ∧ PmS (fun j => w.heap.size ≤ j) w' x ∧ w.grownBy w' none := by
  obtain ⟨q, hq, hc⟩ := condE_ok hp
  refine (where_ok G n g m l s w hE q hq).mono ?_
  rintro e w' ⟨x, rfl, h1, h2, h3⟩
  exact ⟨x, rfl, by rw [Pm.z, if_neg (by decide), h1, hc], h2, h3⟩
set_option maxRecDepth 100000 in
set_option maxHeartbeats 6400000 in
theorem ParseBinds_walk (G : Nat) (n g m l : Addr) (x : Int) (w : World) (hE : LxEnv G n g m l w) :
    Calls Tryz.prog 4 #[.int .u8 x] w fun e w' => e = .returned (.bool true) ∧ w.grownBy w' none := by
  have HA := Lib.hid (fun W (hW : w.grownBy W none) => awake11_any G n g m l W (hE.keep hW))
  obtain ⟨b0, hb0⟩ : ∃ b, (bits BinOp.and .u8 x 1 == 1) = b := ⟨_, rfl⟩
  obtain ⟨b1, hb1⟩ : ∃ b, (bits BinOp.and .u8 (x / 2) 1 == 1) = b := ⟨_, rfl⟩
  obtain ⟨b2, hb2⟩ : ∃ b, (bits BinOp.and .u8 (x / 4) 1 == 1) = b := ⟨_, rfl⟩
  have HN0 := Lib.hid (not0_any x b0 hb0)
  have HN1 := Lib.hid (not1_any x b1 hb1)
  have HN2 := Lib.hid (not2_any x b2 hb2)
  have HX := Lib.hid (fun W (hW : w.grownBy W none) => where_cond G n g m l _ W (hE.keep hW) _ (bind_x b0 b1 b2))
  have HY := Lib.hid (fun W (hW : w.grownBy W none) => where_cond G n g m l _ W (hE.keep hW) _ (bind_y b0 b1 b2))
  have HZ := Lib.hid (fun W (hW : w.grownBy W none) => where_cond G n g m l _ W (hE.keep hW) _ (bind_z b0 b1 b2))
  unfold bindX at HX
  unfold bindY at HY
  unfold bindZ at HZ
  have s0 : (nw b0 wA).size ≤ 20 := by cases b0 <;> decide
  have s1 : (nw b1 wB).size ≤ 20 := by cases b1 <;> decide
  have s2 : (nw b2 wC).size ≤ 20 := by cases b2 <;> decide
  generalize nw b0 wA = tA at *
  generalize nw b1 wB = tB at *
  generalize nw b2 wC = tC at *
  have B0 := Lib.hid (heap_alloc_new w (.cells #[.int .u8 x] 5))
  have G0 := Lib.hid (World.grownBy_alloc w (.cells #[.int .u8 x] 5) none)
  clear hE
  go_enter Tryz.func4, Tryz.ntmps4
  go_wp2_with fail
  refine (HA.out _ G0.out).mono ?_
  rintro e w1 ⟨rfl, hg⟩
  have B1 := Lib.hid (blk_grown hg B0.out)
  have G1 := Lib.hid (G0.out.trans hg)
  clear hg
  go_upto_region 4 with fail
  go_cut [4] from 11 (fun s4 wx => s4 = .func (.func 18) #[] #[.pointer (some ⟨w.heap.size, 0, none⟩), .pointer (some ⟨w1.heap.size, 0, none⟩)] ∧ Hid (WdAt x w.heap.size w1.heap.size wx ∧ w.grownBy wx none))
  case first =>
    go_wp2_with fail
    go_meet
    refine ⟨rfl, Lib.hid ⟨?_, G1.out.trans (World.grownBy_alloc w1 _ none)⟩⟩
    have hb := World.grownBy_alloc w1 (.cells #[.string ⟨#[97, 32, 61, 32, 49]⟩, .string ⟨#[98, 32, 61, 32, 50]⟩, .string ⟨#[99, 32, 61, 32, 51]⟩] 43) none
    exact ⟨hb.cell (show w1.cell? ⟨w.heap.size, 0, none⟩ = _ from cell_of_row _ _ 0 _ _ _ B1.out) (by simp), cells3 (heap_alloc_new w1 _)⟩
  case rest =>
  obtain ⟨rfl, HW⟩ := hcut
  have HWd := Lib.hid HW.out.1
  have G2 := Lib.hid HW.out.2
  clear HW
  have L0 := Lib.hid (fun W (hW : wc.grownBy W none) => HN0.out _ _ W (HWd.out.keep hW))
  have L1 := Lib.hid (fun W (hW : wc.grownBy W none) => HN1.out _ _ W (HWd.out.keep hW))
  have L2 := Lib.hid (fun W (hW : wc.grownBy W none) => HN2.out _ _ W (HWd.out.keep hW))
  clear HN0 HN1 HN2
  go_wp2_with fail
  refine (L0.out _ (grown_reflX _ _)).mono ?_
  rintro e w2 ⟨rfl, rfl⟩
  go_wp2_with fail
  refine (L1.out _ (grown_reflX _ _)).mono ?_
  rintro e w2 ⟨rfl, rfl⟩
  go_wp2_with fail
  refine (L2.out _ (grown_reflX _ _)).mono ?_
  rintro e w2 ⟨rfl, rfl⟩
  go_wp2_with fail
  refine (HX.out _ G2.out).mono ?_
  rintro e w3 ⟨X, rfl, hX, hXS, hg⟩
  have HX1 := Lib.hid (And.intro hX hXS)
  have C3 := Lib.hid hg
  clear hX hXS hg
  go_upto_region 6 with (refine wpList_store_row rfl 31 (.tmp 5) (.tmp 27) rfl w3.heap.size X.c.toArray rfl rfl 31 z10 (heap_alloc_new w3 (.cells z10 31)) (by rw [Pm.c_size]; exact pred_size) (by rw [Pm.c_size]; rfl) (Pm.c_all _) ?_)
  obtain ⟨w4, hw4⟩ : ∃ w4, w4 = put10 w3 X := ⟨_, rfl⟩
  have P4 := Lib.hid (put10_blk w3 X)
  have C4 := Lib.hid (C3.out.trans (put10_grown w3 X))
  have D4 := Lib.hid (put10_grown w3 X)
  change Code.wp _ _ _ _ (put10 w3 X)
  rw [← hw4] at P4 C4 D4 ⊢
  clear hw4
  go_wp2_with fail
  refine (L0.out _ C4.out).mono ?_
  rintro e w2 ⟨rfl, rfl⟩
  go_wp2_with fail
  refine (L1.out _ C4.out).mono ?_
  rintro e w2 ⟨rfl, rfl⟩
  go_wp2_with fail
  refine (L2.out _ C4.out).mono ?_
  rintro e w2 ⟨rfl, rfl⟩
  go_wp2_with fail
  refine (HY.out _ (G2.out.trans C4.out)).mono ?_
  rintro e w5 ⟨Y, rfl, hY, hYS, hg⟩
  have HY1 := Lib.hid (And.intro hY hYS)
  have Ew5 := Lib.hid hg
  clear hY hYS hg
  go_upto_region 7 with (refine wpList_store_row rfl 31 (.tmp 7) (.tmp 43) rfl w5.heap.size Y.c.toArray rfl rfl 31 z10 (heap_alloc_new w5 (.cells z10 31)) (by rw [Pm.c_size]; exact pred_size) (by rw [Pm.c_size]; rfl) (Pm.c_all _) ?_)
  obtain ⟨w6, hw⟩ : ∃ w', w' = put10 w5 Y := ⟨_, rfl⟩
  have Pw6 := Lib.hid (put10_blk w5 Y)
  have Dw6 := Lib.hid (put10_grown w5 Y)
  change Code.wp _ _ _ _ (put10 w5 Y)
  rw [← hw] at Pw6 Dw6 ⊢
  clear hw
  have Cw6 := Lib.hid (C4.out.trans (Ew5.out.trans Dw6.out))
  go_wp2_with fail
  refine (L0.out _ Cw6.out).mono ?_
  rintro e w2 ⟨rfl, rfl⟩
  go_wp2_with fail
  refine (L1.out _ Cw6.out).mono ?_
  rintro e w2 ⟨rfl, rfl⟩
  go_wp2_with fail
  refine (L2.out _ Cw6.out).mono ?_
  rintro e w2 ⟨rfl, rfl⟩
  go_wp2_with fail
  refine (HZ.out _ (G2.out.trans Cw6.out)).mono ?_
  rintro e w7 ⟨Z, rfl, hZ, hZS, hg⟩
  have HZ1 := Lib.hid (And.intro hZ hZS)
  have Ew7 := Lib.hid hg
  clear hZ hZS hg
  go_upto_region 8 with (refine wpList_store_row rfl 31 (.tmp 9) (.tmp 58) rfl w7.heap.size Z.c.toArray rfl rfl 31 z10 (heap_alloc_new w7 (.cells z10 31)) (by rw [Pm.c_size]; exact pred_size) (by rw [Pm.c_size]; rfl) (Pm.c_all _) ?_)
  obtain ⟨w8, hw⟩ : ∃ w', w' = put10 w7 Z := ⟨_, rfl⟩
  have Pw8 := Lib.hid (put10_blk w7 Z)
  have Dw8 := Lib.hid (put10_grown w7 Z)
  change Code.wp _ _ _ _ (put10 w7 Z)
  rw [← hw] at Pw8 Dw8 ⊢
  clear hw
  have Cw8 := Lib.hid (Cw6.out.trans (Ew7.out.trans Dw8.out))
  have hX := HX1.out.1
  have hY := HY1.out.1
  have hZ := HZ1.out.1
  have g48 := Dw6.out
  have g4 : w4.grownBy w8 none := Ew5.out.trans (Dw6.out.trans (Ew7.out.trans Dw8.out))
  have g6 : w6.grownBy w8 none := Ew7.out.trans Dw8.out
  have sX := HX1.out.2.keep (.of (D4.out.trans g4))
  have sY := HY1.out.2.keep (.of (Dw6.out.trans g6))
  have sZ := HZ1.out.2.keep (.of Dw8.out)
  have PX := blk_grown g4 P4.out
  have PY := blk_grown g6 Pw6.out
  have PZ := Pw8.out
  have nX : X.n ≤ 1000 := by rw [Pm.n_zz, hX]; cases b0 <;> cases b1 <;> cases b2 <;> decide
  have HS1 := Lib.hid (fun W (hW : w8.grownBy W none) => samePred_any _ X Y W ((sX.mono (S' := fun _ => True) (fun _ _ _ => trivial)).keep (.of hW)) ((sY.mono (S' := fun _ => True) (fun _ _ _ => trivial)).keep (.of hW)) nX)
  have HS2 := Lib.hid (fun W (hW : w8.grownBy W none) => samePred_any _ X Z W ((sX.mono (S' := fun _ => True) (fun _ _ _ => trivial)).keep (.of hW)) ((sZ.mono (S' := fun _ => True) (fun _ _ _ => trivial)).keep (.of hW)) nX)
  have hxy : X.z false = Y.z false := hX.trans hY.symm
  have hxz : ¬ X.z false = Z.z false := by
    rw [hX, hZ]
    intro h
    have := congrArg Prd.kd h
    simp [prX, prZ, jP, Prd.kd] at this
  have HE := Lib.hid (And.intro hxy hxz)
  obtain ⟨bx, ox, kx, lax, lcx, px, x1, x2, rfl, hkx, cx1, cx2⟩ := pair_mem (show X.z false = jP 9 (nP b0 (eqP 97 1)) (jP 8 (nP b1 (eqP 98 2)) (nP b2 (eqP 99 3))) from hX) sX
  obtain ⟨by', oy, ky, lay, lcy, py, y1, y2, rfl, _, _, _⟩ := pair_mem (show Y.z false = jP 9 (nP b0 (eqP 97 1)) (jP 8 (nP b1 (eqP 98 2)) (nP b2 (eqP 99 3))) from hY) sY
  obtain ⟨bz, oz, kz, laz, lcz, pz, z1, z2, rfl, hkz, cz1, cz2⟩ := pair_mem (show Z.z false = jP 8 (jP 9 (nP b0 (eqP 97 1)) (nP b1 (eqP 98 2))) (nP b2 (eqP 99 3)) from hZ) sZ
  have GE := Lib.hid (G2.out.trans Cw8.out)
  have F1 : Hid (w8.cell? ⟨w.heap.size, 0, none⟩ = some (.int .u8 x)) := Lib.hid (Cw8.out.cell HWd.out.1 (by simp))
  have hk0 : (((nP b0 (eqP 97 1)).kd : Int) == 10) = b0 := by cases b0 <;> rfl
  have hk2 : (((nP b2 (eqP 99 3)).kd : Int) == 10) = b2 := by cases b2 <;> rfl
  generalize (nP b0 (eqP 97 1)).kd = kd0 at *
  generalize (nP b2 (eqP 99 3)).kd = kd2 at *
  clear hX hY hZ hxy hxz sX sY sZ HX1 HY1 HZ1 nX g48 P4 Pw6 Pw8 HX HY HZ L0 L1 L2 HA
  have PX : Hid (w8.heap[w3.heap.size]? = some (.cells #[.int .i64 9, .string ⟨#[]⟩, .int .i64 0, .int .i64 0, .int .i64 0, .string ⟨#[]⟩, .string ⟨#[]⟩, .slice lax 0 lcx, .slice (some ⟨bx, ox, none⟩) 2 kx, .int .i64 px] 31 (0, 0))) := Lib.hid PX
  have PY : Hid (w8.heap[w5.heap.size]? = some (.cells #[.int .i64 9, .string ⟨#[]⟩, .int .i64 0, .int .i64 0, .int .i64 0, .string ⟨#[]⟩, .string ⟨#[]⟩, .slice lay 0 lcy, .slice (some ⟨by', oy, none⟩) 2 ky, .int .i64 py] 31 (0, 0))) := Lib.hid PY
  have PZ : Hid (w8.heap[w7.heap.size]? = some (.cells #[.int .i64 8, .string ⟨#[]⟩, .int .i64 0, .int .i64 0, .int .i64 0, .string ⟨#[]⟩, .string ⟨#[]⟩, .slice laz 0 lcz, .slice (some ⟨bz, oz, none⟩) 2 kz, .int .i64 pz] 31 (0, 0))) := Lib.hid PZ
  have HS1 : Hid (∀ W, w8.grownBy W none → Calls Tryz.prog 16 #[.agg #[.int .i64 9, .string ⟨#[]⟩, .int .i64 0, .int .i64 0, .int .i64 0, .string ⟨#[]⟩, .string ⟨#[]⟩, .slice lax 0 lcx, .slice (some ⟨bx, ox, none⟩) 2 kx, .int .i64 px], .agg #[.int .i64 9, .string ⟨#[]⟩, .int .i64 0, .int .i64 0, .int .i64 0, .string ⟨#[]⟩, .string ⟨#[]⟩, .slice lay 0 lcy, .slice (some ⟨by', oy, none⟩) 2 ky, .int .i64 py]] W fun e w' => BoolIs _ e ∧ W.grownBy w' none) := HS1
  have HS2 : Hid (∀ W, w8.grownBy W none → Calls Tryz.prog 16 #[.agg #[.int .i64 9, .string ⟨#[]⟩, .int .i64 0, .int .i64 0, .int .i64 0, .string ⟨#[]⟩, .string ⟨#[]⟩, .slice lax 0 lcx, .slice (some ⟨bx, ox, none⟩) 2 kx, .int .i64 px], .agg #[.int .i64 8, .string ⟨#[]⟩, .int .i64 0, .int .i64 0, .int .i64 0, .string ⟨#[]⟩, .string ⟨#[]⟩, .slice laz 0 lcz, .slice (some ⟨bz, oz, none⟩) 2 kz, .int .i64 pz]] W fun e w' => BoolIs _ e ∧ W.grownBy w' none) := HS2
  have FK := Lib.hid (And.intro cx1 (And.intro cx2 (And.intro cz1 cz2)))
  clear cx1 cx2 cz1 cz2
  obtain ⟨a0, a1, a2, a3, a4, a5, a6, a7, a8, a9⟩ := cells10 PX.out
  obtain ⟨d0, d1, d2, d3, d4, d5, d6, d7, d8, d9⟩ := cells10 PY.out
  go_wp2_with fail
  refine (HS1.out _ (grown_reflX _ _)).mono ?_
  rintro e w9 ⟨⟨r, rfl, hr⟩, hg⟩
  obtain rfl : r = true := hr.2 HE.out.1
  have g89 := hg
  have QX := Lib.hid (blk_grown hg PX.out)
  have QZ := Lib.hid (blk_grown hg PZ.out)
  have G89 := Lib.hid hg
  clear hr hg a0 a1 a2 a3 a4 a5 a6 a7 a8 a9 d0 d1 d2 d3 d4 d5 d6 d7 d8 d9 g89
  obtain ⟨a0, a1, a2, a3, a4, a5, a6, a7, a8, a9⟩ := cells10 QX.out
  obtain ⟨d0, d1, d2, d3, d4, d5, d6, d7, d8, d9⟩ := cells10 QZ.out
  go_wp2_with fail
  refine (HS2.out _ G89.out).mono ?_
  rintro e w10 ⟨⟨r, rfl, hr⟩, hg⟩
  obtain rfl : r = false := by
    cases r with
    | false => rfl
    | true => exact absurd (hr.1 rfl) HE.out.2
  have G90 := Lib.hid (G89.out.trans hg)
  have RX := Lib.hid (blk_grown hg QX.out)
  have RZ := Lib.hid (blk_grown hg QZ.out)
  clear hr hg a0 a1 a2 a3 a4 a5 a6 a7 a8 a9 d0 d1 d2 d3 d4 d5 d6 d7 d8 d9
  obtain ⟨a0, _, _, _, _, _, _, _, a8, _⟩ := cells10 RX.out
  obtain ⟨d0, _, _, _, _, _, _, _, d8, _⟩ := cells10 RZ.out
  have f1 := G90.out.cell F1.out (by simp)
  have c1 := G90.out.cell FK.out.1 (by simp)
  have c2 := G90.out.cell FK.out.2.1 (by simp)
  have c3 := G90.out.cell FK.out.2.2.1 (by simp)
  have c4 := G90.out.cell FK.out.2.2.2 (by simp)
  simp only [jP, Prd.kd] at c1 c2 c3 c4
  have GF := Lib.hid (GE.out.trans G90.out)
  go_wp2_with fail
  go_quiet (fail)
  go_wp2_with fail
  go_ret
  exact ⟨rfl, grown_drewNT GF.out _⟩
end Go.Proofs.YtppigamibgefaaaGreatDoor
namespace Go.Proofs.YtppigamibgefaaaGreatDoor
open Go.RowKit

theorem cond_of {T : ByteArray} {p q : Prd} (h : ∃ y : Qry, parseL T = .ok y ∧ y.e = (whereY p).e) (hp : p.e = q) : condE (parseL T) = some q := by
  obtain ⟨y, h1, h2⟩ := h
  rw [h1]
  have := congrArg Qry.cond h2
  show some y.cond.e = some q
  rw [← hp]
  exact congrArg some this
theorem tm_lit {kd : Nat} {t : List UInt8} {v : Vl} (h : ValT t v kd) (r : Nat) (h1 : 1 ≤ r) (h6 : r ≤ 6) (p0 : ByteArray) (hp : p0.data.toList = sgB r) : condE (parseL (preX ((⟨t.toArray⟩ : ByteArray) ++ p0 ++ ⟨#[32, 120]⟩))) = some (pCmp (turnR r) v) :=
  cond_of (turn_lit _ kd t v h r h1 h6 (by simp [preX, preB, hp])) rfl
theorem tm_name {kd : Nat} {t : List UInt8} {v : Vl} (h : ValT t v kd) (r : Nat) (h1 : 1 ≤ r) (h6 : r ≤ 6) (p0 : ByteArray) (hp : p0.data.toList = sgB r) : condE (parseL (preX ((⟨#[120, 32]⟩ : ByteArray) ++ p0 ++ ⟨t.toArray⟩))) = some (pCmp r v) :=
  cond_of (turn_name _ kd t v h r h1 h6 (by simp [preX, preB, hp])) rfl
theorem tm_between {ka kb : Nat} {a b : List UInt8} {v w : Vl} (ha : ValT a v ka) (hb : ValT b w kb) : condE (parseL (preX ((⟨#[120, 32, 66, 69, 84, 87, 69, 69, 78, 32]⟩ : ByteArray) ++ ⟨a.toArray⟩ ++ ⟨#[32, 65, 78, 68, 32]⟩ ++ ⟨b.toArray⟩))) = some (pBoth (pCmp 6 v) (pCmp 4 w)) :=
  cond_of (turn_between _ ka kb a b v w ha hb (by simp [preX, preB])) rfl
theorem tm_both {ka kb : Nat} {a b : List UInt8} {v w : Vl} (ha : ValT a v ka) (hb : ValT b w kb) : condE (parseL (preX ((⟨#[120, 32, 62, 61, 32]⟩ : ByteArray) ++ ⟨a.toArray⟩ ++ ⟨#[32, 65, 78, 68, 32, 120, 32, 60, 61, 32]⟩ ++ ⟨b.toArray⟩))) = some (pBoth (pCmp 6 v) (pCmp 4 w)) :=
  cond_of (turn_both _ ka kb a b v w ha hb (by simp [preX, preB])) rfl
theorem tm_notin {ka kb : Nat} {a b : List UInt8} {v w : Vl} (ha : ValT a v ka) (hb : ValT b w kb) : condE (parseL (preX ((⟨#[120, 32, 78, 79, 84, 32, 73, 78, 32, 40]⟩ : ByteArray) ++ ⟨a.toArray⟩ ++ ⟨#[44, 32]⟩ ++ ⟨b.toArray⟩ ++ ⟨#[41]⟩))) = some (notP (pIn v w) 0) :=
  cond_of (turn_notin _ ka kb a b v w ha hb (by simp [preX, preB])) rfl
theorem tm_notin2 {ka kb : Nat} {a b : List UInt8} {v w : Vl} (ha : ValT a v ka) (hb : ValT b w kb) : condE (parseL (preX ((⟨#[78, 79, 84, 32, 120, 32, 73, 78, 40]⟩ : ByteArray) ++ ⟨a.toArray⟩ ++ ⟨#[44]⟩ ++ ⟨b.toArray⟩ ++ ⟨#[41]⟩))) = some (notP (pIn v w) 0) :=
  cond_of (turn_notin2 _ ka kb a b v w ha hb (by simp [preX, preB])) rfl
end Go.Proofs.YtppigamibgefaaaGreatDoor
namespace Go.Proofs.YtppigamibgefaaaGreatDoor
open Go.RowKit

/-- The two values in their boxes. -/
def BxAt (g : Nat) (k n : Int) (s : ByteArray) (w : World) : Prop := w.cell? ⟨g, 0, none⟩ = some (.int .i64 k) ∧ w.cell? ⟨g, 1, none⟩ = some (.int .i64 n) ∧ w.cell? ⟨g, 2, none⟩ = some (.string s)
theorem BxAt.keep {g : Nat} {k n : Int} {s : ByteArray} {w w' : World} (h : BxAt g k n s w) (hg : w.grownBy w' none) : BxAt g k n s w' := ⟨hg.cell h.1 (by simp), hg.cell h.2.1 (by simp), hg.cell h.2.2 (by simp)⟩
set_option maxRecDepth 100000 in
set_option maxHeartbeats 3200000 in
/-- Where one of the values isn't good. -/
theorem turns_bad (G : Nat) (n0 g m l : Addr) (k n k' n' : Int) (s s' : ByteArray) (w : World) (hE : LxEnv G n0 g m l w) (hb : goodB k n s = false ∨ goodB k' n' s' = false) :
    Calls Tryz.prog 5 #[.agg #[.int .i64 k, .int .i64 n, .string s], .agg #[.int .i64 k', .int .i64 n', .string s']] w fun e w' => e = .returned (.bool true) ∧ w.grownBy w' none := by
  have HA := Lib.hid (fun W (hW : w.grownBy W none) => awake11_any G n0 g m l W (hE.keep hW))
  have HG1 := Lib.hid (fun W => refGood_any k n s W)
  have HG2 := Lib.hid (fun W => refGood_any k' n' s' W)
  have G0 := Lib.hid ((World.grownBy_alloc w (.cells #[.int .i64 k, .int .i64 n, .string s] 27) none).trans (World.grownBy_alloc _ (.cells #[.int .i64 k', .int .i64 n', .string s'] 27) none))
  have b1 := cells3 (blk_grown (World.grownBy_alloc (w.alloc (.cells #[.int .i64 k, .int .i64 n, .string s] 27)) (.cells #[.int .i64 k', .int .i64 n', .string s'] 27) none) (heap_alloc_new w (.cells #[.int .i64 k, .int .i64 n, .string s] 27)))
  have b2 := cells3 (heap_alloc_new (w.alloc (.cells #[.int .i64 k, .int .i64 n, .string s] 27)) (.cells #[.int .i64 k', .int .i64 n', .string s'] 27))
  have hs : (w.alloc (.cells #[.int .i64 k, .int .i64 n, .string s] 27)).heap.size = w.heap.size + 1 := by simp
  rw [hs] at b2
  have B1 : Hid (BxAt w.heap.size k n s ((w.alloc (.cells #[.int .i64 k, .int .i64 n, .string s] 27)).alloc (.cells #[.int .i64 k', .int .i64 n', .string s'] 27))) := Lib.hid b1
  have B2 : Hid (BxAt (w.heap.size + 1) k' n' s' ((w.alloc (.cells #[.int .i64 k, .int .i64 n, .string s] 27)).alloc (.cells #[.int .i64 k', .int .i64 n', .string s'] 27))) := Lib.hid b2
  clear hE b1 b2 hs
  cases h1 : goodB k n s with
  | false =>
    rw [h1] at HG1
    clear hb h1
    go_enter Tryz.func5, Tryz.ntmps5
    go_wp2_with fail
    refine (HA.out _ G0.out).mono ?_
    rintro e w1 ⟨rfl, hg⟩
    have K1 := Lib.hid (G0.out.trans hg)
    obtain ⟨a0, a1, a2⟩ := B1.out.keep hg
    clear hg
    go_wp2_with fail
    refine (HG1.out _).mono ?_
    rintro e w2 ⟨rfl, hb⟩
    have K2 := Lib.hid (K1.out.trans (grown_belowX hb none))
    clear hb a0 a1 a2
    go_wp2_with fail
    refine (HA.out _ K2.out).mono ?_
    rintro e w3 ⟨rfl, hg⟩
    have K3 := Lib.hid (K2.out.trans hg)
    clear hg
    go_wp2_with fail
    go_ret
    exact ⟨rfl, K3.out⟩
  | true =>
    rw [h1] at HG1
    have h2 := hb.resolve_left (by rw [h1]; simp)
    rw [h2] at HG2
    clear hb h1 h2
    go_enter Tryz.func5, Tryz.ntmps5
    go_wp2_with fail
    refine (HA.out _ G0.out).mono ?_
    rintro e w1 ⟨rfl, hg⟩
    have K1 := Lib.hid (G0.out.trans hg)
    have C2 := Lib.hid (B2.out.keep hg)
    obtain ⟨a0, a1, a2⟩ := B1.out.keep hg
    clear hg
    go_wp2_with fail
    refine (HG1.out _).mono ?_
    rintro e w2 ⟨rfl, hb⟩
    have K2 := Lib.hid (K1.out.trans (grown_belowX hb none))
    clear a0 a1 a2
    obtain ⟨a0, a1, a2⟩ := C2.out.keep (grown_belowX hb none)
    clear hb
    go_wp2_with fail
    refine (HG2.out _).mono ?_
    rintro e w3 ⟨rfl, hb⟩
    have K3 := Lib.hid (K2.out.trans (grown_belowX hb none))
    clear hb a0 a1 a2
    go_wp2_with fail
    refine (HA.out _ K3.out).mono ?_
    rintro e w4 ⟨rfl, hg⟩
    have K4 := Lib.hid (K3.out.trans hg)
    clear hg
    go_wp2_with fail
    go_ret
    exact ⟨rfl, K4.out⟩
end Go.Proofs.YtppigamibgefaaaGreatDoor
namespace Go.Proofs.YtppigamibgefaaaGreatDoor
open Go.RowKit

theorem ix6s0 (w : World) : (Instr.index 52 (.agg #[.string ⟨#[61]⟩, .string ⟨#[61]⟩, .string ⟨#[60, 62]⟩, .string ⟨#[60, 62]⟩, .string ⟨#[60]⟩, .string ⟨#[62]⟩, .string ⟨#[60, 61]⟩, .string ⟨#[62, 61]⟩, .string ⟨#[62]⟩, .string ⟨#[60]⟩, .string ⟨#[62, 61]⟩, .string ⟨#[60, 61]⟩]) (.int .i64 0)).run Tryz.prog w = .ok (.agg #[.string ⟨#[61]⟩, .string ⟨#[61]⟩]) w := by kernel_rfl
theorem ix6s1 (w : World) : (Instr.index 52 (.agg #[.string ⟨#[61]⟩, .string ⟨#[61]⟩, .string ⟨#[60, 62]⟩, .string ⟨#[60, 62]⟩, .string ⟨#[60]⟩, .string ⟨#[62]⟩, .string ⟨#[60, 61]⟩, .string ⟨#[62, 61]⟩, .string ⟨#[62]⟩, .string ⟨#[60]⟩, .string ⟨#[62, 61]⟩, .string ⟨#[60, 61]⟩]) (.int .i64 1)).run Tryz.prog w = .ok (.agg #[.string ⟨#[60, 62]⟩, .string ⟨#[60, 62]⟩]) w := by kernel_rfl
theorem ix6s2 (w : World) : (Instr.index 52 (.agg #[.string ⟨#[61]⟩, .string ⟨#[61]⟩, .string ⟨#[60, 62]⟩, .string ⟨#[60, 62]⟩, .string ⟨#[60]⟩, .string ⟨#[62]⟩, .string ⟨#[60, 61]⟩, .string ⟨#[62, 61]⟩, .string ⟨#[62]⟩, .string ⟨#[60]⟩, .string ⟨#[62, 61]⟩, .string ⟨#[60, 61]⟩]) (.int .i64 2)).run Tryz.prog w = .ok (.agg #[.string ⟨#[60]⟩, .string ⟨#[62]⟩]) w := by kernel_rfl
theorem ix6s3 (w : World) : (Instr.index 52 (.agg #[.string ⟨#[61]⟩, .string ⟨#[61]⟩, .string ⟨#[60, 62]⟩, .string ⟨#[60, 62]⟩, .string ⟨#[60]⟩, .string ⟨#[62]⟩, .string ⟨#[60, 61]⟩, .string ⟨#[62, 61]⟩, .string ⟨#[62]⟩, .string ⟨#[60]⟩, .string ⟨#[62, 61]⟩, .string ⟨#[60, 61]⟩]) (.int .i64 3)).run Tryz.prog w = .ok (.agg #[.string ⟨#[60, 61]⟩, .string ⟨#[62, 61]⟩]) w := by kernel_rfl
theorem ix6s4 (w : World) : (Instr.index 52 (.agg #[.string ⟨#[61]⟩, .string ⟨#[61]⟩, .string ⟨#[60, 62]⟩, .string ⟨#[60, 62]⟩, .string ⟨#[60]⟩, .string ⟨#[62]⟩, .string ⟨#[60, 61]⟩, .string ⟨#[62, 61]⟩, .string ⟨#[62]⟩, .string ⟨#[60]⟩, .string ⟨#[62, 61]⟩, .string ⟨#[60, 61]⟩]) (.int .i64 4)).run Tryz.prog w = .ok (.agg #[.string ⟨#[62]⟩, .string ⟨#[60]⟩]) w := by kernel_rfl
theorem ix6s5 (w : World) : (Instr.index 52 (.agg #[.string ⟨#[61]⟩, .string ⟨#[61]⟩, .string ⟨#[60, 62]⟩, .string ⟨#[60, 62]⟩, .string ⟨#[60]⟩, .string ⟨#[62]⟩, .string ⟨#[60, 61]⟩, .string ⟨#[62, 61]⟩, .string ⟨#[62]⟩, .string ⟨#[60]⟩, .string ⟨#[62, 61]⟩, .string ⟨#[60, 61]⟩]) (.int .i64 5)).run Tryz.prog w = .ok (.agg #[.string ⟨#[62, 61]⟩, .string ⟨#[60, 61]⟩]) w := by kernel_rfl
theorem leaf_mem {x : Pm} {k : Nat} {c : ByteArray} {r : Nat} {v : Vl} (h : x.z false = .mk k c r v ⟨#[]⟩ [] [] 0) : ∃ la lc ka kc p, x = .mk k c r v ⟨#[]⟩ la lc [] ka kc [] p := by
  obtain ⟨la, lc, ka, kc, kids, p, rfl, hk⟩ := Pm.z_mk h
  have : kids = [] := by simpa using hk
  subst this
  exact ⟨la, lc, ka, kc, p, rfl⟩
/-- NOT IN of two literals, in memory. -/
theorem notin_mem {S : Nat → Prop} {w : World} {x : Pm} {v u : Vl} (hx : x.z false = notP (pIn v u) 0) (hS : PmS S w x) : ∃ b o kc la lc p zl zc zp zka zkc zks, x = .mk 10 ⟨#[]⟩ 0 ⟨0, 0, ⟨#[]⟩⟩ ⟨#[]⟩ la lc [] (some ⟨b, o, none⟩) kc [.mk 5 ⟨#[120]⟩ 0 ⟨0, 0, ⟨#[]⟩⟩ ⟨#[]⟩ zl zc [v, u] zka zkc zks zp] p ∧ 1 ≤ kc ∧ w.cell? ⟨b, o + 7, none⟩ = some (.slice zl 2 zc) ∧ RwS S w zl [v, u] := by
  obtain ⟨la, lc, ka, kc, kids, p, rfl, hk⟩ := Pm.z_mk hx
  obtain ⟨z1, rfl⟩ : ∃ z1, kids = [z1] := by
    match kids, hk with
    | [z1], _ => exact ⟨z1, rfl⟩
    | [], h => simp at h
    | _ :: _ :: _, h => simp at h
  have h1 : z1.z false = pIn v u := by simpa using hk
  obtain ⟨zl, zc, zka, zkc, zks, zp, rfl, _⟩ := Pm.z_mk (show z1.z false = .mk 5 ⟨#[120]⟩ 0 ⟨0, 0, ⟨#[]⟩⟩ ⟨#[]⟩ [v, u] [] 0 from h1)
  obtain ⟨_, _, hK, hKl, hKs⟩ := hS
  simp only [PmSs] at hKs
  obtain ⟨hz, _⟩ := hKs
  obtain ⟨b, o, rfl, _, hc⟩ := kids_cells hK (by simp)
  refine ⟨b, o, kc, la, lc, p, zl, zc, zp, zka, zkc, zks, rfl, hKl, ?_, hz.1⟩
  have := hc 0 (by simp) 7 _ rfl
  simpa using this
theorem two_row {W : World} {g : Nat} {k n k' n' : Int} {s s' : ByteArray} {T : TypeId} (hb : W.heap[g]? = some (.cells #[.int .i64 k, .int .i64 n, .string s, .int .i64 k', .int .i64 n', .string s'] T (0, 0))) (hs : ∀ x ∈ [(⟨k, n, s⟩ : Vl), ⟨k', n', s'⟩], x.s.size ≤ maxLen) : RowAt W (some ⟨g, 0, none⟩) [⟨k, n, s⟩, ⟨k', n', s'⟩] := by
  refine ⟨by simp, hs, .inr ⟨g, 0, rfl, (Array.getElem?_eq_some_iff.1 hb).1, fun i hi => ?_⟩⟩
  have c := fun j => cell_of_row W g j _ _ _ hb
  match i, hi with
  | 0, _ => exact ⟨c 0, c 1, c 2⟩
  | 1, _ => exact ⟨c 3, c 4, c 5⟩
/-- What the laws' where answers of a text, whatever the world. -/
def WhereIs (w : World) (T : ByteArray) (p : Prd) : Prop := ∀ W, w.grownBy W none → Calls Tryz.prog 19 #[.string T] W fun e w' => ∃ x : Pm, e = .returned (.tuple #[x.v, .bool true]) ∧ x.z false = p ∧ PmS (fun j => W.heap.size ≤ j) w' x ∧ W.grownBy w' none
set_option maxRecDepth 100000 in
set_option maxHeartbeats 12800000 in
/-- The six rounds, and what follows: at any strings that are the values' texts. -/
theorem turns_good (G : Nat) (n0 g m l : Addr) (k n k' n' : Int) (s s' : ByteArray) (w : World) (hE : LxEnv G n0 g m l w) (hg1 : goodB k n s = true) (hg2 : goodB k' n' s' = true) (hi1 : inI n = true) (hi2 : inI n' = true) (hs1 : s.size ≤ maxLen) (hs2 : s'.size ≤ maxLen) :
    Calls Tryz.prog 5 #[.agg #[.int .i64 k, .int .i64 n, .string s], .agg #[.int .i64 k', .int .i64 n', .string s']] w fun e w' => e = .returned (.bool true) ∧ w.grownBy w' none := by
  obtain ⟨kd1, hv1⟩ := valT_of hg1 hi1
  obtain ⟨kd2, hv2⟩ := valT_of hg2 hi2
  have HA := Lib.hid (fun W (hW : w.grownBy W none) => awake11_any G n0 g m l W (hE.keep hW))
  have HG1 := Lib.hid (fun W => refGood_any k n s W)
  have HG2 := Lib.hid (fun W => refGood_any k' n' s' W)
  have HT1 := Lib.hid (fun W => refText_any k n s W hg1 hi1)
  have HT2 := Lib.hid (fun W => refText_any k' n' s' W hg2 hi2)
  rw [hg1] at HG1
  rw [hg2] at HG2
  have HS := Lib.hid (And.intro hs1 hs2)
  have HL0 : Hid (WhereIs w ((⟨(textL k n s).toArray⟩ : ByteArray) ++ ⟨#[61]⟩ ++ ⟨#[32, 120]⟩) (pCmp 1 ⟨k, n, s⟩)) := Lib.hid (fun W hW => where_cond G n0 g m l _ W (hE.keep hW) _ (tm_lit hv1 1 (by decide) (by decide) ⟨#[61]⟩ rfl))
  have HM0 : Hid (WhereIs w ((⟨#[120, 32]⟩ : ByteArray) ++ ⟨#[61]⟩ ++ ⟨(textL k n s).toArray⟩) (pCmp 1 ⟨k, n, s⟩)) := Lib.hid (fun W hW => where_cond G n0 g m l _ W (hE.keep hW) _ (tm_name hv1 1 (by decide) (by decide) ⟨#[61]⟩ rfl))
  have HL1 : Hid (WhereIs w ((⟨(textL k n s).toArray⟩ : ByteArray) ++ ⟨#[60, 62]⟩ ++ ⟨#[32, 120]⟩) (pCmp 2 ⟨k, n, s⟩)) := Lib.hid (fun W hW => where_cond G n0 g m l _ W (hE.keep hW) _ (tm_lit hv1 2 (by decide) (by decide) ⟨#[60, 62]⟩ rfl))
  have HM1 : Hid (WhereIs w ((⟨#[120, 32]⟩ : ByteArray) ++ ⟨#[60, 62]⟩ ++ ⟨(textL k n s).toArray⟩) (pCmp 2 ⟨k, n, s⟩)) := Lib.hid (fun W hW => where_cond G n0 g m l _ W (hE.keep hW) _ (tm_name hv1 2 (by decide) (by decide) ⟨#[60, 62]⟩ rfl))
  have HL2 : Hid (WhereIs w ((⟨(textL k n s).toArray⟩ : ByteArray) ++ ⟨#[60]⟩ ++ ⟨#[32, 120]⟩) (pCmp 5 ⟨k, n, s⟩)) := Lib.hid (fun W hW => where_cond G n0 g m l _ W (hE.keep hW) _ (tm_lit hv1 3 (by decide) (by decide) ⟨#[60]⟩ rfl))
  have HM2 : Hid (WhereIs w ((⟨#[120, 32]⟩ : ByteArray) ++ ⟨#[62]⟩ ++ ⟨(textL k n s).toArray⟩) (pCmp 5 ⟨k, n, s⟩)) := Lib.hid (fun W hW => where_cond G n0 g m l _ W (hE.keep hW) _ (tm_name hv1 5 (by decide) (by decide) ⟨#[62]⟩ rfl))
  have HL3 : Hid (WhereIs w ((⟨(textL k n s).toArray⟩ : ByteArray) ++ ⟨#[60, 61]⟩ ++ ⟨#[32, 120]⟩) (pCmp 6 ⟨k, n, s⟩)) := Lib.hid (fun W hW => where_cond G n0 g m l _ W (hE.keep hW) _ (tm_lit hv1 4 (by decide) (by decide) ⟨#[60, 61]⟩ rfl))
  have HM3 : Hid (WhereIs w ((⟨#[120, 32]⟩ : ByteArray) ++ ⟨#[62, 61]⟩ ++ ⟨(textL k n s).toArray⟩) (pCmp 6 ⟨k, n, s⟩)) := Lib.hid (fun W hW => where_cond G n0 g m l _ W (hE.keep hW) _ (tm_name hv1 6 (by decide) (by decide) ⟨#[62, 61]⟩ rfl))
  have HL4 : Hid (WhereIs w ((⟨(textL k n s).toArray⟩ : ByteArray) ++ ⟨#[62]⟩ ++ ⟨#[32, 120]⟩) (pCmp 3 ⟨k, n, s⟩)) := Lib.hid (fun W hW => where_cond G n0 g m l _ W (hE.keep hW) _ (tm_lit hv1 5 (by decide) (by decide) ⟨#[62]⟩ rfl))
  have HM4 : Hid (WhereIs w ((⟨#[120, 32]⟩ : ByteArray) ++ ⟨#[60]⟩ ++ ⟨(textL k n s).toArray⟩) (pCmp 3 ⟨k, n, s⟩)) := Lib.hid (fun W hW => where_cond G n0 g m l _ W (hE.keep hW) _ (tm_name hv1 3 (by decide) (by decide) ⟨#[60]⟩ rfl))
  have HL5 : Hid (WhereIs w ((⟨(textL k n s).toArray⟩ : ByteArray) ++ ⟨#[62, 61]⟩ ++ ⟨#[32, 120]⟩) (pCmp 4 ⟨k, n, s⟩)) := Lib.hid (fun W hW => where_cond G n0 g m l _ W (hE.keep hW) _ (tm_lit hv1 6 (by decide) (by decide) ⟨#[62, 61]⟩ rfl))
  have HM5 : Hid (WhereIs w ((⟨#[120, 32]⟩ : ByteArray) ++ ⟨#[60, 61]⟩ ++ ⟨(textL k n s).toArray⟩) (pCmp 4 ⟨k, n, s⟩)) := Lib.hid (fun W hW => where_cond G n0 g m l _ W (hE.keep hW) _ (tm_name hv1 4 (by decide) (by decide) ⟨#[60, 61]⟩ rfl))
  have HB1 : Hid (WhereIs w ((⟨#[120, 32, 66, 69, 84, 87, 69, 69, 78, 32]⟩ : ByteArray) ++ ⟨(textL k n s).toArray⟩ ++ ⟨#[32, 65, 78, 68, 32]⟩ ++ ⟨(textL k' n' s').toArray⟩) (pBoth (pCmp 6 ⟨k, n, s⟩) (pCmp 4 ⟨k', n', s'⟩))) := Lib.hid (fun W hW => where_cond G n0 g m l _ W (hE.keep hW) _ (tm_between hv1 hv2))
  have HB2 : Hid (WhereIs w ((⟨#[120, 32, 62, 61, 32]⟩ : ByteArray) ++ ⟨(textL k n s).toArray⟩ ++ ⟨#[32, 65, 78, 68, 32, 120, 32, 60, 61, 32]⟩ ++ ⟨(textL k' n' s').toArray⟩) (pBoth (pCmp 6 ⟨k, n, s⟩) (pCmp 4 ⟨k', n', s'⟩))) := Lib.hid (fun W hW => where_cond G n0 g m l _ W (hE.keep hW) _ (tm_both hv1 hv2))
  have HB3 : Hid (WhereIs w ((⟨#[120, 32, 78, 79, 84, 32, 73, 78, 32, 40]⟩ : ByteArray) ++ ⟨(textL k n s).toArray⟩ ++ ⟨#[44, 32]⟩ ++ ⟨(textL k' n' s').toArray⟩ ++ ⟨#[41]⟩) (notP (pIn ⟨k, n, s⟩ ⟨k', n', s'⟩) 0)) := Lib.hid (fun W hW => where_cond G n0 g m l _ W (hE.keep hW) _ (tm_notin hv1 hv2))
  have HB4 : Hid (WhereIs w ((⟨#[78, 79, 84, 32, 120, 32, 73, 78, 40]⟩ : ByteArray) ++ ⟨(textL k n s).toArray⟩ ++ ⟨#[44]⟩ ++ ⟨(textL k' n' s').toArray⟩ ++ ⟨#[41]⟩) (notP (pIn ⟨k, n, s⟩ ⟨k', n', s'⟩) 0)) := Lib.hid (fun W hW => where_cond G n0 g m l _ W (hE.keep hW) _ (tm_notin2 hv1 hv2))
  have z1 : (⟨(textL k n s).toArray⟩ : ByteArray).size ≤ 250 := by
    have := hv1.few
    show (textL k n s).toArray.size ≤ 250
    simpa using this
  have z2 : (⟨(textL k' n' s').toArray⟩ : ByteArray).size ≤ 250 := by
    have := hv2.few
    show (textL k' n' s').toArray.size ≤ 250
    simpa using this
  generalize (⟨(textL k n s).toArray⟩ : ByteArray) = ta at *
  generalize (⟨(textL k' n' s').toArray⟩ : ByteArray) = tb at *
  have G0 := Lib.hid ((World.grownBy_alloc w (.cells #[.int .i64 k, .int .i64 n, .string s] 27) none).trans (World.grownBy_alloc _ (.cells #[.int .i64 k', .int .i64 n', .string s'] 27) none))
  have b1 := cells3 (blk_grown (World.grownBy_alloc (w.alloc (.cells #[.int .i64 k, .int .i64 n, .string s] 27)) (.cells #[.int .i64 k', .int .i64 n', .string s'] 27) none) (heap_alloc_new w (.cells #[.int .i64 k, .int .i64 n, .string s] 27)))
  have b2 := cells3 (heap_alloc_new (w.alloc (.cells #[.int .i64 k, .int .i64 n, .string s] 27)) (.cells #[.int .i64 k', .int .i64 n', .string s'] 27))
  have hs : (w.alloc (.cells #[.int .i64 k, .int .i64 n, .string s] 27)).heap.size = w.heap.size + 1 := by simp
  rw [hs] at b2
  have B1 : Hid (BxAt w.heap.size k n s ((w.alloc (.cells #[.int .i64 k, .int .i64 n, .string s] 27)).alloc (.cells #[.int .i64 k', .int .i64 n', .string s'] 27))) := Lib.hid b1
  have B2 : Hid (BxAt (w.heap.size + 1) k' n' s' ((w.alloc (.cells #[.int .i64 k, .int .i64 n, .string s] 27)).alloc (.cells #[.int .i64 k', .int .i64 n', .string s'] 27))) := Lib.hid b2
  clear hE b1 b2 hs hg1 hg2 hi1 hi2 hs1 hs2 hv1 hv2
  go_enter Tryz.func5, Tryz.ntmps5
  go_wp2_with fail
  refine (HA.out _ G0.out).mono ?_
  rintro e w1 ⟨rfl, hg⟩
  have K1 := Lib.hid (G0.out.trans hg)
  have C1 := Lib.hid (B1.out.keep hg)
  have C2 := Lib.hid (B2.out.keep hg)
  obtain ⟨a0, a1, a2⟩ := B1.out.keep hg
  clear hg B1 B2 G0
  go_wp2_with fail
  refine (HG1.out _).mono ?_
  rintro e w2 ⟨rfl, hb⟩
  have K2 := Lib.hid (K1.out.trans (grown_belowX hb none))
  have D1 := Lib.hid (C1.out.keep (grown_belowX hb none))
  have D2 := Lib.hid (C2.out.keep (grown_belowX hb none))
  clear a0 a1 a2 hb C1 C2
  obtain ⟨a0, a1, a2⟩ := D2.out
  go_wp2_with fail
  refine (HG2.out _).mono ?_
  rintro e w3 ⟨rfl, hb⟩
  have K3 := Lib.hid (K2.out.trans (grown_belowX hb none))
  have E1 := Lib.hid (D1.out.keep (grown_belowX hb none))
  have E2 := Lib.hid (D2.out.keep (grown_belowX hb none))
  clear a0 a1 a2 hb D1 D2
  obtain ⟨a0, a1, a2⟩ := E1.out
  obtain ⟨d0, d1, d2⟩ := E2.out
  have HX1 := Lib.hid (fun W (hW : w3.grownBy W none) => (HT1.out W).mono fun e w' h => And.intro h.1 (hW.trans (grown_belowX h.2 none)))
  have HX2 := Lib.hid (fun W (hW : w3.grownBy W none) => (HT2.out W).mono fun e w' h => And.intro h.1 (hW.trans (grown_belowX h.2 none)))
  go_upto_region 3 with fail
  go_cut [5, 6] from 21 (fun s5 s6 wx => s5 = .string ta ∧ s6 = .string tb ∧ Hid (w3.grownBy wx none))
  case first =>
    go_region_with (first
      | (go_at_call 21; (with_reducible refine (HX1.out _ (by first | exact grown_drewT (grown_reflX _ _) | exact GA.out | exact grown_drewT GA.out)).mono ?_); rintro e w4 ⟨rfl, hg⟩; obtain ⟨x0, x1, x2⟩ := E2.out.keep hg; have GA := Lib.hid hg; clear hg)
      | (go_at_call 21; (with_reducible refine (HX2.out _ (by first | exact grown_drewT (grown_reflX _ _) | exact GA.out | exact grown_drewT GA.out)).mono ?_); rintro e w4 ⟨rfl, hg⟩; obtain ⟨x0, x1, x2⟩ := E1.out.keep hg; have GA := Lib.hid hg; clear hg))
    all_goals
      go_wp2_with fail
      go_meet
      exact ⟨rfl, rfl, Lib.hid (by first | exact GA.out | exact grown_drewT GA.out)⟩
  case rest =>
  obtain ⟨rfl, rfl, HW⟩ := hcut
  have G3 := Lib.hid (K3.out.trans HW.out)
  have F1 := Lib.hid (E1.out.keep HW.out)
  have F2 := Lib.hid (E2.out.keep HW.out)
  clear a0 a1 a2 d0 d1 d2 E1 E2 HW K3 K2 K1 HX1 HX2 HT1 HT2 HG1 HG2 HA
  go_wp2_with fail
  go_loopw [45] (fun i wr => ∃ j : Nat, i = .int .i64 j ∧ j ≤ 6 ∧ Hid (wc.grownBy wr none)) (fun i _ => 6 - (intOf i).toNat)
  case atStart => exact ⟨0, rfl, by omega, Lib.hid (grown_reflX _ _)⟩
  case round =>
    obtain ⟨j, rfl, hj, KW⟩ := hrel
    by_cases hj0 : j = 0
    · subst hj0
      have ix := ix6s0
      have q0 := cell_of_row _ _ 0 _ _ _ (heap_alloc_new wr (.cells #[.string ⟨#[61]⟩, .string ⟨#[61]⟩] 51))
      have q1 := cell_of_row _ _ 1 _ _ _ (heap_alloc_new wr (.cells #[.string ⟨#[61]⟩, .string ⟨#[61]⟩] 51))
      simp only [List.getElem?_toArray, List.getElem?_cons_zero, List.getElem?_cons_succ] at q0 q1
      have C4 := Lib.hid ((G3.out.trans KW.out).trans (World.grownBy_alloc wr (.cells #[.string ⟨#[61]⟩, .string ⟨#[61]⟩] 51) none))
      have Q1 := Lib.hid q1
      go_wp2_with fail
      refine (HL0.out _ C4.out).mono ?_
      rintro e w5 ⟨X, rfl, hX, hXS, hg⟩
      have MX := Lib.hid (And.intro hX hXS)
      have Ew5 := Lib.hid hg
      clear hX hXS hg
      go_upto_region 8 with (refine wpList_store_row rfl 31 (.tmp 9) (.tmp 55) rfl w5.heap.size X.c.toArray rfl rfl 31 z10 (heap_alloc_new w5 (.cells z10 31)) (by rw [Pm.c_size]; exact pred_size) (by rw [Pm.c_size]; rfl) (Pm.c_all _) ?_)
      obtain ⟨w6, hw⟩ : ∃ w', w' = put10 w5 X := ⟨_, rfl⟩
      have Pw6 := Lib.hid (put10_blk w5 X)
      have Dw6 := Lib.hid (put10_grown w5 X)
      change Code.wp _ _ _ _ (put10 w5 X)
      rw [← hw] at Pw6 Dw6 ⊢
      clear hw
      have C6 := Lib.hid (C4.out.trans (Ew5.out.trans Dw6.out))
      have r1 := (Ew5.out.trans Dw6.out).cell Q1.out (by simp)
      clear q0 q1 ix
      go_wp2_with fail
      refine (HM0.out _ C6.out).mono ?_
      rintro e w7 ⟨Y, rfl, hY, hYS, hg⟩
      have MY := Lib.hid (And.intro hY hYS)
      have Ew7 := Lib.hid hg
      clear hY hYS hg
      go_upto_region 9 with (refine wpList_store_row rfl 31 (.tmp 11) (.tmp 64) rfl w7.heap.size Y.c.toArray rfl rfl 31 z10 (heap_alloc_new w7 (.cells z10 31)) (by rw [Pm.c_size]; exact pred_size) (by rw [Pm.c_size]; rfl) (Pm.c_all _) ?_)
      obtain ⟨w8, hw⟩ : ∃ w', w' = put10 w7 Y := ⟨_, rfl⟩
      have Pw8 := Lib.hid (put10_blk w7 Y)
      have Dw8 := Lib.hid (put10_grown w7 Y)
      change Code.wp _ _ _ _ (put10 w7 Y)
      rw [← hw] at Pw8 Dw8 ⊢
      clear hw
      have g6 : w6.grownBy w8 none := Ew7.out.trans Dw8.out
      have hX := MX.out.1
      have hY := MY.out.1
      have sX := MX.out.2.keep (.of (Dw6.out.trans g6))
      have sY := MY.out.2.keep (.of Dw8.out)
      have PX := blk_grown g6 Pw6.out
      have PY := Pw8.out
      have C8 := Lib.hid ((KW.out.trans (World.grownBy_alloc wr (.cells #[.string ⟨#[61]⟩, .string ⟨#[61]⟩] 51) none)).trans (Ew5.out.trans (Dw6.out.trans g6)))
      have nX : X.n ≤ 1000 := by rw [Pm.n_zz, hX]; simp [pCmp, Prd.n, Prd.ns]
      have HS1 := Lib.hid (fun W (hW : w8.grownBy W none) => samePred_any _ X Y W ((sX.mono (S' := fun _ => True) (fun _ _ _ => trivial)).keep (.of hW)) ((sY.mono (S' := fun _ => True) (fun _ _ _ => trivial)).keep (.of hW)) nX)
      have HE := Lib.hid (hX.trans hY.symm)
      obtain ⟨la1, lc1, ka1, kc1, p1, rfl⟩ := leaf_mem (show X.z false = .mk 3 ⟨#[120]⟩ 1 ⟨k, n, s⟩ ⟨#[]⟩ [] [] 0 from hX)
      obtain ⟨la2, lc2, ka2, kc2, p2, rfl⟩ := leaf_mem (show Y.z false = .mk 3 ⟨#[120]⟩ 1 ⟨k, n, s⟩ ⟨#[]⟩ [] [] 0 from hY)
      have PX : Hid (w8.heap[w5.heap.size]? = some (.cells #[.int .i64 3, .string ⟨#[120]⟩, .int .i64 1, .int .i64 k, .int .i64 n, .string s, .string ⟨#[]⟩, .slice la1 0 lc1, .slice ka1 0 kc1, .int .i64 p1] 31 (0, 0))) := Lib.hid PX
      have PY : Hid (w8.heap[w7.heap.size]? = some (.cells #[.int .i64 3, .string ⟨#[120]⟩, .int .i64 1, .int .i64 k, .int .i64 n, .string s, .string ⟨#[]⟩, .slice la2 0 lc2, .slice ka2 0 kc2, .int .i64 p2] 31 (0, 0))) := Lib.hid PY
      have HS1 : Hid (∀ W, w8.grownBy W none → Calls Tryz.prog 16 #[.agg #[.int .i64 3, .string ⟨#[120]⟩, .int .i64 1, .int .i64 k, .int .i64 n, .string s, .string ⟨#[]⟩, .slice la1 0 lc1, .slice ka1 0 kc1, .int .i64 p1], .agg #[.int .i64 3, .string ⟨#[120]⟩, .int .i64 1, .int .i64 k, .int .i64 n, .string s, .string ⟨#[]⟩, .slice la2 0 lc2, .slice ka2 0 kc2, .int .i64 p2]] W fun e w' => BoolIs _ e ∧ W.grownBy w' none) := HS1
      clear hX hY sX sY nX MX MY g6 Pw6 Pw8 Dw6 Dw8 Ew5 Ew7 C4 C6 Q1 r1
      obtain ⟨a0, a1, a2, a3, a4, a5, a6, a7, a8, a9⟩ := cells10 PX.out
      obtain ⟨d0, d1, d2, d3, d4, d5, d6, d7, d8, d9⟩ := cells10 PY.out
      go_wp2_with fail
      refine (HS1.out _ (grown_reflX _ _)).mono ?_
      rintro e w9 ⟨⟨b, rfl, hr⟩, hg⟩
      obtain rfl : b = true := hr.2 HE.out
      have QX := Lib.hid (blk_grown hg PX.out)
      have C9 := Lib.hid (C8.out.trans hg)
      clear hr hg a0 a1 a2 a3 a4 a5 a6 a7 a8 a9 d0 d1 d2 d3 d4 d5 d6 d7 d8 d9
      obtain ⟨a0, _, _, a3, a4, a5, _, _, _, _⟩ := cells10 QX.out
      obtain ⟨d0, d1, d2⟩ := F1.out.keep C9.out
      go_wp2_with fail
      go_roundw
      case rel => exact ⟨1, rfl, by omega, C9⟩
      case measure => simp [intOf]
    by_cases hj1 : j = 1
    · subst hj1
      have ix := ix6s1
      have q0 := cell_of_row _ _ 0 _ _ _ (heap_alloc_new wr (.cells #[.string ⟨#[60, 62]⟩, .string ⟨#[60, 62]⟩] 51))
      have q1 := cell_of_row _ _ 1 _ _ _ (heap_alloc_new wr (.cells #[.string ⟨#[60, 62]⟩, .string ⟨#[60, 62]⟩] 51))
      simp only [List.getElem?_toArray, List.getElem?_cons_zero, List.getElem?_cons_succ] at q0 q1
      have C4 := Lib.hid ((G3.out.trans KW.out).trans (World.grownBy_alloc wr (.cells #[.string ⟨#[60, 62]⟩, .string ⟨#[60, 62]⟩] 51) none))
      have Q1 := Lib.hid q1
      go_wp2_with fail
      refine (HL1.out _ C4.out).mono ?_
      rintro e w5 ⟨X, rfl, hX, hXS, hg⟩
      have MX := Lib.hid (And.intro hX hXS)
      have Ew5 := Lib.hid hg
      clear hX hXS hg
      go_upto_region 8 with (refine wpList_store_row rfl 31 (.tmp 9) (.tmp 55) rfl w5.heap.size X.c.toArray rfl rfl 31 z10 (heap_alloc_new w5 (.cells z10 31)) (by rw [Pm.c_size]; exact pred_size) (by rw [Pm.c_size]; rfl) (Pm.c_all _) ?_)
      obtain ⟨w6, hw⟩ : ∃ w', w' = put10 w5 X := ⟨_, rfl⟩
      have Pw6 := Lib.hid (put10_blk w5 X)
      have Dw6 := Lib.hid (put10_grown w5 X)
      change Code.wp _ _ _ _ (put10 w5 X)
      rw [← hw] at Pw6 Dw6 ⊢
      clear hw
      have C6 := Lib.hid (C4.out.trans (Ew5.out.trans Dw6.out))
      have r1 := (Ew5.out.trans Dw6.out).cell Q1.out (by simp)
      clear q0 q1 ix
      go_wp2_with fail
      refine (HM1.out _ C6.out).mono ?_
      rintro e w7 ⟨Y, rfl, hY, hYS, hg⟩
      have MY := Lib.hid (And.intro hY hYS)
      have Ew7 := Lib.hid hg
      clear hY hYS hg
      go_upto_region 9 with (refine wpList_store_row rfl 31 (.tmp 11) (.tmp 64) rfl w7.heap.size Y.c.toArray rfl rfl 31 z10 (heap_alloc_new w7 (.cells z10 31)) (by rw [Pm.c_size]; exact pred_size) (by rw [Pm.c_size]; rfl) (Pm.c_all _) ?_)
      obtain ⟨w8, hw⟩ : ∃ w', w' = put10 w7 Y := ⟨_, rfl⟩
      have Pw8 := Lib.hid (put10_blk w7 Y)
      have Dw8 := Lib.hid (put10_grown w7 Y)
      change Code.wp _ _ _ _ (put10 w7 Y)
      rw [← hw] at Pw8 Dw8 ⊢
      clear hw
      have g6 : w6.grownBy w8 none := Ew7.out.trans Dw8.out
      have hX := MX.out.1
      have hY := MY.out.1
      have sX := MX.out.2.keep (.of (Dw6.out.trans g6))
      have sY := MY.out.2.keep (.of Dw8.out)
      have PX := blk_grown g6 Pw6.out
      have PY := Pw8.out
      have C8 := Lib.hid ((KW.out.trans (World.grownBy_alloc wr (.cells #[.string ⟨#[60, 62]⟩, .string ⟨#[60, 62]⟩] 51) none)).trans (Ew5.out.trans (Dw6.out.trans g6)))
      have nX : X.n ≤ 1000 := by rw [Pm.n_zz, hX]; simp [pCmp, Prd.n, Prd.ns]
      have HS1 := Lib.hid (fun W (hW : w8.grownBy W none) => samePred_any _ X Y W ((sX.mono (S' := fun _ => True) (fun _ _ _ => trivial)).keep (.of hW)) ((sY.mono (S' := fun _ => True) (fun _ _ _ => trivial)).keep (.of hW)) nX)
      have HE := Lib.hid (hX.trans hY.symm)
      obtain ⟨la1, lc1, ka1, kc1, p1, rfl⟩ := leaf_mem (show X.z false = .mk 3 ⟨#[120]⟩ 2 ⟨k, n, s⟩ ⟨#[]⟩ [] [] 0 from hX)
      obtain ⟨la2, lc2, ka2, kc2, p2, rfl⟩ := leaf_mem (show Y.z false = .mk 3 ⟨#[120]⟩ 2 ⟨k, n, s⟩ ⟨#[]⟩ [] [] 0 from hY)
      have PX : Hid (w8.heap[w5.heap.size]? = some (.cells #[.int .i64 3, .string ⟨#[120]⟩, .int .i64 2, .int .i64 k, .int .i64 n, .string s, .string ⟨#[]⟩, .slice la1 0 lc1, .slice ka1 0 kc1, .int .i64 p1] 31 (0, 0))) := Lib.hid PX
      have PY : Hid (w8.heap[w7.heap.size]? = some (.cells #[.int .i64 3, .string ⟨#[120]⟩, .int .i64 2, .int .i64 k, .int .i64 n, .string s, .string ⟨#[]⟩, .slice la2 0 lc2, .slice ka2 0 kc2, .int .i64 p2] 31 (0, 0))) := Lib.hid PY
      have HS1 : Hid (∀ W, w8.grownBy W none → Calls Tryz.prog 16 #[.agg #[.int .i64 3, .string ⟨#[120]⟩, .int .i64 2, .int .i64 k, .int .i64 n, .string s, .string ⟨#[]⟩, .slice la1 0 lc1, .slice ka1 0 kc1, .int .i64 p1], .agg #[.int .i64 3, .string ⟨#[120]⟩, .int .i64 2, .int .i64 k, .int .i64 n, .string s, .string ⟨#[]⟩, .slice la2 0 lc2, .slice ka2 0 kc2, .int .i64 p2]] W fun e w' => BoolIs _ e ∧ W.grownBy w' none) := HS1
      clear hX hY sX sY nX MX MY g6 Pw6 Pw8 Dw6 Dw8 Ew5 Ew7 C4 C6 Q1 r1
      obtain ⟨a0, a1, a2, a3, a4, a5, a6, a7, a8, a9⟩ := cells10 PX.out
      obtain ⟨d0, d1, d2, d3, d4, d5, d6, d7, d8, d9⟩ := cells10 PY.out
      go_wp2_with fail
      refine (HS1.out _ (grown_reflX _ _)).mono ?_
      rintro e w9 ⟨⟨b, rfl, hr⟩, hg⟩
      obtain rfl : b = true := hr.2 HE.out
      have QX := Lib.hid (blk_grown hg PX.out)
      have C9 := Lib.hid (C8.out.trans hg)
      clear hr hg a0 a1 a2 a3 a4 a5 a6 a7 a8 a9 d0 d1 d2 d3 d4 d5 d6 d7 d8 d9
      obtain ⟨a0, _, _, a3, a4, a5, _, _, _, _⟩ := cells10 QX.out
      obtain ⟨d0, d1, d2⟩ := F1.out.keep C9.out
      go_wp2_with fail
      go_roundw
      case rel => exact ⟨2, rfl, by omega, C9⟩
      case measure => simp [intOf]
    by_cases hj2 : j = 2
    · subst hj2
      have ix := ix6s2
      have q0 := cell_of_row _ _ 0 _ _ _ (heap_alloc_new wr (.cells #[.string ⟨#[60]⟩, .string ⟨#[62]⟩] 51))
      have q1 := cell_of_row _ _ 1 _ _ _ (heap_alloc_new wr (.cells #[.string ⟨#[60]⟩, .string ⟨#[62]⟩] 51))
      simp only [List.getElem?_toArray, List.getElem?_cons_zero, List.getElem?_cons_succ] at q0 q1
      have C4 := Lib.hid ((G3.out.trans KW.out).trans (World.grownBy_alloc wr (.cells #[.string ⟨#[60]⟩, .string ⟨#[62]⟩] 51) none))
      have Q1 := Lib.hid q1
      go_wp2_with fail
      refine (HL2.out _ C4.out).mono ?_
      rintro e w5 ⟨X, rfl, hX, hXS, hg⟩
      have MX := Lib.hid (And.intro hX hXS)
      have Ew5 := Lib.hid hg
      clear hX hXS hg
      go_upto_region 8 with (refine wpList_store_row rfl 31 (.tmp 9) (.tmp 55) rfl w5.heap.size X.c.toArray rfl rfl 31 z10 (heap_alloc_new w5 (.cells z10 31)) (by rw [Pm.c_size]; exact pred_size) (by rw [Pm.c_size]; rfl) (Pm.c_all _) ?_)
      obtain ⟨w6, hw⟩ : ∃ w', w' = put10 w5 X := ⟨_, rfl⟩
      have Pw6 := Lib.hid (put10_blk w5 X)
      have Dw6 := Lib.hid (put10_grown w5 X)
      change Code.wp _ _ _ _ (put10 w5 X)
      rw [← hw] at Pw6 Dw6 ⊢
      clear hw
      have C6 := Lib.hid (C4.out.trans (Ew5.out.trans Dw6.out))
      have r1 := (Ew5.out.trans Dw6.out).cell Q1.out (by simp)
      clear q0 q1 ix
      go_wp2_with fail
      refine (HM2.out _ C6.out).mono ?_
      rintro e w7 ⟨Y, rfl, hY, hYS, hg⟩
      have MY := Lib.hid (And.intro hY hYS)
      have Ew7 := Lib.hid hg
      clear hY hYS hg
      go_upto_region 9 with (refine wpList_store_row rfl 31 (.tmp 11) (.tmp 64) rfl w7.heap.size Y.c.toArray rfl rfl 31 z10 (heap_alloc_new w7 (.cells z10 31)) (by rw [Pm.c_size]; exact pred_size) (by rw [Pm.c_size]; rfl) (Pm.c_all _) ?_)
      obtain ⟨w8, hw⟩ : ∃ w', w' = put10 w7 Y := ⟨_, rfl⟩
      have Pw8 := Lib.hid (put10_blk w7 Y)
      have Dw8 := Lib.hid (put10_grown w7 Y)
      change Code.wp _ _ _ _ (put10 w7 Y)
      rw [← hw] at Pw8 Dw8 ⊢
      clear hw
      have g6 : w6.grownBy w8 none := Ew7.out.trans Dw8.out
      have hX := MX.out.1
      have hY := MY.out.1
      have sX := MX.out.2.keep (.of (Dw6.out.trans g6))
      have sY := MY.out.2.keep (.of Dw8.out)
      have PX := blk_grown g6 Pw6.out
      have PY := Pw8.out
      have C8 := Lib.hid ((KW.out.trans (World.grownBy_alloc wr (.cells #[.string ⟨#[60]⟩, .string ⟨#[62]⟩] 51) none)).trans (Ew5.out.trans (Dw6.out.trans g6)))
      have nX : X.n ≤ 1000 := by rw [Pm.n_zz, hX]; simp [pCmp, Prd.n, Prd.ns]
      have HS1 := Lib.hid (fun W (hW : w8.grownBy W none) => samePred_any _ X Y W ((sX.mono (S' := fun _ => True) (fun _ _ _ => trivial)).keep (.of hW)) ((sY.mono (S' := fun _ => True) (fun _ _ _ => trivial)).keep (.of hW)) nX)
      have HE := Lib.hid (hX.trans hY.symm)
      obtain ⟨la1, lc1, ka1, kc1, p1, rfl⟩ := leaf_mem (show X.z false = .mk 3 ⟨#[120]⟩ 5 ⟨k, n, s⟩ ⟨#[]⟩ [] [] 0 from hX)
      obtain ⟨la2, lc2, ka2, kc2, p2, rfl⟩ := leaf_mem (show Y.z false = .mk 3 ⟨#[120]⟩ 5 ⟨k, n, s⟩ ⟨#[]⟩ [] [] 0 from hY)
      have PX : Hid (w8.heap[w5.heap.size]? = some (.cells #[.int .i64 3, .string ⟨#[120]⟩, .int .i64 5, .int .i64 k, .int .i64 n, .string s, .string ⟨#[]⟩, .slice la1 0 lc1, .slice ka1 0 kc1, .int .i64 p1] 31 (0, 0))) := Lib.hid PX
      have PY : Hid (w8.heap[w7.heap.size]? = some (.cells #[.int .i64 3, .string ⟨#[120]⟩, .int .i64 5, .int .i64 k, .int .i64 n, .string s, .string ⟨#[]⟩, .slice la2 0 lc2, .slice ka2 0 kc2, .int .i64 p2] 31 (0, 0))) := Lib.hid PY
      have HS1 : Hid (∀ W, w8.grownBy W none → Calls Tryz.prog 16 #[.agg #[.int .i64 3, .string ⟨#[120]⟩, .int .i64 5, .int .i64 k, .int .i64 n, .string s, .string ⟨#[]⟩, .slice la1 0 lc1, .slice ka1 0 kc1, .int .i64 p1], .agg #[.int .i64 3, .string ⟨#[120]⟩, .int .i64 5, .int .i64 k, .int .i64 n, .string s, .string ⟨#[]⟩, .slice la2 0 lc2, .slice ka2 0 kc2, .int .i64 p2]] W fun e w' => BoolIs _ e ∧ W.grownBy w' none) := HS1
      clear hX hY sX sY nX MX MY g6 Pw6 Pw8 Dw6 Dw8 Ew5 Ew7 C4 C6 Q1 r1
      obtain ⟨a0, a1, a2, a3, a4, a5, a6, a7, a8, a9⟩ := cells10 PX.out
      obtain ⟨d0, d1, d2, d3, d4, d5, d6, d7, d8, d9⟩ := cells10 PY.out
      go_wp2_with fail
      refine (HS1.out _ (grown_reflX _ _)).mono ?_
      rintro e w9 ⟨⟨b, rfl, hr⟩, hg⟩
      obtain rfl : b = true := hr.2 HE.out
      have QX := Lib.hid (blk_grown hg PX.out)
      have C9 := Lib.hid (C8.out.trans hg)
      clear hr hg a0 a1 a2 a3 a4 a5 a6 a7 a8 a9 d0 d1 d2 d3 d4 d5 d6 d7 d8 d9
      obtain ⟨a0, _, _, a3, a4, a5, _, _, _, _⟩ := cells10 QX.out
      obtain ⟨d0, d1, d2⟩ := F1.out.keep C9.out
      go_wp2_with fail
      go_roundw
      case rel => exact ⟨3, rfl, by omega, C9⟩
      case measure => simp [intOf]
    by_cases hj3 : j = 3
    · subst hj3
      have ix := ix6s3
      have q0 := cell_of_row _ _ 0 _ _ _ (heap_alloc_new wr (.cells #[.string ⟨#[60, 61]⟩, .string ⟨#[62, 61]⟩] 51))
      have q1 := cell_of_row _ _ 1 _ _ _ (heap_alloc_new wr (.cells #[.string ⟨#[60, 61]⟩, .string ⟨#[62, 61]⟩] 51))
      simp only [List.getElem?_toArray, List.getElem?_cons_zero, List.getElem?_cons_succ] at q0 q1
      have C4 := Lib.hid ((G3.out.trans KW.out).trans (World.grownBy_alloc wr (.cells #[.string ⟨#[60, 61]⟩, .string ⟨#[62, 61]⟩] 51) none))
      have Q1 := Lib.hid q1
      go_wp2_with fail
      refine (HL3.out _ C4.out).mono ?_
      rintro e w5 ⟨X, rfl, hX, hXS, hg⟩
      have MX := Lib.hid (And.intro hX hXS)
      have Ew5 := Lib.hid hg
      clear hX hXS hg
      go_upto_region 8 with (refine wpList_store_row rfl 31 (.tmp 9) (.tmp 55) rfl w5.heap.size X.c.toArray rfl rfl 31 z10 (heap_alloc_new w5 (.cells z10 31)) (by rw [Pm.c_size]; exact pred_size) (by rw [Pm.c_size]; rfl) (Pm.c_all _) ?_)
      obtain ⟨w6, hw⟩ : ∃ w', w' = put10 w5 X := ⟨_, rfl⟩
      have Pw6 := Lib.hid (put10_blk w5 X)
      have Dw6 := Lib.hid (put10_grown w5 X)
      change Code.wp _ _ _ _ (put10 w5 X)
      rw [← hw] at Pw6 Dw6 ⊢
      clear hw
      have C6 := Lib.hid (C4.out.trans (Ew5.out.trans Dw6.out))
      have r1 := (Ew5.out.trans Dw6.out).cell Q1.out (by simp)
      clear q0 q1 ix
      go_wp2_with fail
      refine (HM3.out _ C6.out).mono ?_
      rintro e w7 ⟨Y, rfl, hY, hYS, hg⟩
      have MY := Lib.hid (And.intro hY hYS)
      have Ew7 := Lib.hid hg
      clear hY hYS hg
      go_upto_region 9 with (refine wpList_store_row rfl 31 (.tmp 11) (.tmp 64) rfl w7.heap.size Y.c.toArray rfl rfl 31 z10 (heap_alloc_new w7 (.cells z10 31)) (by rw [Pm.c_size]; exact pred_size) (by rw [Pm.c_size]; rfl) (Pm.c_all _) ?_)
      obtain ⟨w8, hw⟩ : ∃ w', w' = put10 w7 Y := ⟨_, rfl⟩
      have Pw8 := Lib.hid (put10_blk w7 Y)
      have Dw8 := Lib.hid (put10_grown w7 Y)
      change Code.wp _ _ _ _ (put10 w7 Y)
      rw [← hw] at Pw8 Dw8 ⊢
      clear hw
      have g6 : w6.grownBy w8 none := Ew7.out.trans Dw8.out
      have hX := MX.out.1
      have hY := MY.out.1
      have sX := MX.out.2.keep (.of (Dw6.out.trans g6))
      have sY := MY.out.2.keep (.of Dw8.out)
      have PX := blk_grown g6 Pw6.out
      have PY := Pw8.out
      have C8 := Lib.hid ((KW.out.trans (World.grownBy_alloc wr (.cells #[.string ⟨#[60, 61]⟩, .string ⟨#[62, 61]⟩] 51) none)).trans (Ew5.out.trans (Dw6.out.trans g6)))
      have nX : X.n ≤ 1000 := by rw [Pm.n_zz, hX]; simp [pCmp, Prd.n, Prd.ns]
      have HS1 := Lib.hid (fun W (hW : w8.grownBy W none) => samePred_any _ X Y W ((sX.mono (S' := fun _ => True) (fun _ _ _ => trivial)).keep (.of hW)) ((sY.mono (S' := fun _ => True) (fun _ _ _ => trivial)).keep (.of hW)) nX)
      have HE := Lib.hid (hX.trans hY.symm)
      obtain ⟨la1, lc1, ka1, kc1, p1, rfl⟩ := leaf_mem (show X.z false = .mk 3 ⟨#[120]⟩ 6 ⟨k, n, s⟩ ⟨#[]⟩ [] [] 0 from hX)
      obtain ⟨la2, lc2, ka2, kc2, p2, rfl⟩ := leaf_mem (show Y.z false = .mk 3 ⟨#[120]⟩ 6 ⟨k, n, s⟩ ⟨#[]⟩ [] [] 0 from hY)
      have PX : Hid (w8.heap[w5.heap.size]? = some (.cells #[.int .i64 3, .string ⟨#[120]⟩, .int .i64 6, .int .i64 k, .int .i64 n, .string s, .string ⟨#[]⟩, .slice la1 0 lc1, .slice ka1 0 kc1, .int .i64 p1] 31 (0, 0))) := Lib.hid PX
      have PY : Hid (w8.heap[w7.heap.size]? = some (.cells #[.int .i64 3, .string ⟨#[120]⟩, .int .i64 6, .int .i64 k, .int .i64 n, .string s, .string ⟨#[]⟩, .slice la2 0 lc2, .slice ka2 0 kc2, .int .i64 p2] 31 (0, 0))) := Lib.hid PY
      have HS1 : Hid (∀ W, w8.grownBy W none → Calls Tryz.prog 16 #[.agg #[.int .i64 3, .string ⟨#[120]⟩, .int .i64 6, .int .i64 k, .int .i64 n, .string s, .string ⟨#[]⟩, .slice la1 0 lc1, .slice ka1 0 kc1, .int .i64 p1], .agg #[.int .i64 3, .string ⟨#[120]⟩, .int .i64 6, .int .i64 k, .int .i64 n, .string s, .string ⟨#[]⟩, .slice la2 0 lc2, .slice ka2 0 kc2, .int .i64 p2]] W fun e w' => BoolIs _ e ∧ W.grownBy w' none) := HS1
      clear hX hY sX sY nX MX MY g6 Pw6 Pw8 Dw6 Dw8 Ew5 Ew7 C4 C6 Q1 r1
      obtain ⟨a0, a1, a2, a3, a4, a5, a6, a7, a8, a9⟩ := cells10 PX.out
      obtain ⟨d0, d1, d2, d3, d4, d5, d6, d7, d8, d9⟩ := cells10 PY.out
      go_wp2_with fail
      refine (HS1.out _ (grown_reflX _ _)).mono ?_
      rintro e w9 ⟨⟨b, rfl, hr⟩, hg⟩
      obtain rfl : b = true := hr.2 HE.out
      have QX := Lib.hid (blk_grown hg PX.out)
      have C9 := Lib.hid (C8.out.trans hg)
      clear hr hg a0 a1 a2 a3 a4 a5 a6 a7 a8 a9 d0 d1 d2 d3 d4 d5 d6 d7 d8 d9
      obtain ⟨a0, _, _, a3, a4, a5, _, _, _, _⟩ := cells10 QX.out
      obtain ⟨d0, d1, d2⟩ := F1.out.keep C9.out
      go_wp2_with fail
      go_roundw
      case rel => exact ⟨4, rfl, by omega, C9⟩
      case measure => simp [intOf]
    by_cases hj4 : j = 4
    · subst hj4
      have ix := ix6s4
      have q0 := cell_of_row _ _ 0 _ _ _ (heap_alloc_new wr (.cells #[.string ⟨#[62]⟩, .string ⟨#[60]⟩] 51))
      have q1 := cell_of_row _ _ 1 _ _ _ (heap_alloc_new wr (.cells #[.string ⟨#[62]⟩, .string ⟨#[60]⟩] 51))
      simp only [List.getElem?_toArray, List.getElem?_cons_zero, List.getElem?_cons_succ] at q0 q1
      have C4 := Lib.hid ((G3.out.trans KW.out).trans (World.grownBy_alloc wr (.cells #[.string ⟨#[62]⟩, .string ⟨#[60]⟩] 51) none))
      have Q1 := Lib.hid q1
      go_wp2_with fail
      refine (HL4.out _ C4.out).mono ?_
      rintro e w5 ⟨X, rfl, hX, hXS, hg⟩
      have MX := Lib.hid (And.intro hX hXS)
      have Ew5 := Lib.hid hg
      clear hX hXS hg
      go_upto_region 8 with (refine wpList_store_row rfl 31 (.tmp 9) (.tmp 55) rfl w5.heap.size X.c.toArray rfl rfl 31 z10 (heap_alloc_new w5 (.cells z10 31)) (by rw [Pm.c_size]; exact pred_size) (by rw [Pm.c_size]; rfl) (Pm.c_all _) ?_)
      obtain ⟨w6, hw⟩ : ∃ w', w' = put10 w5 X := ⟨_, rfl⟩
      have Pw6 := Lib.hid (put10_blk w5 X)
      have Dw6 := Lib.hid (put10_grown w5 X)
      change Code.wp _ _ _ _ (put10 w5 X)
      rw [← hw] at Pw6 Dw6 ⊢
      clear hw
      have C6 := Lib.hid (C4.out.trans (Ew5.out.trans Dw6.out))
      have r1 := (Ew5.out.trans Dw6.out).cell Q1.out (by simp)
      clear q0 q1 ix
      go_wp2_with fail
      refine (HM4.out _ C6.out).mono ?_
      rintro e w7 ⟨Y, rfl, hY, hYS, hg⟩
      have MY := Lib.hid (And.intro hY hYS)
      have Ew7 := Lib.hid hg
      clear hY hYS hg
      go_upto_region 9 with (refine wpList_store_row rfl 31 (.tmp 11) (.tmp 64) rfl w7.heap.size Y.c.toArray rfl rfl 31 z10 (heap_alloc_new w7 (.cells z10 31)) (by rw [Pm.c_size]; exact pred_size) (by rw [Pm.c_size]; rfl) (Pm.c_all _) ?_)
      obtain ⟨w8, hw⟩ : ∃ w', w' = put10 w7 Y := ⟨_, rfl⟩
      have Pw8 := Lib.hid (put10_blk w7 Y)
      have Dw8 := Lib.hid (put10_grown w7 Y)
      change Code.wp _ _ _ _ (put10 w7 Y)
      rw [← hw] at Pw8 Dw8 ⊢
      clear hw
      have g6 : w6.grownBy w8 none := Ew7.out.trans Dw8.out
      have hX := MX.out.1
      have hY := MY.out.1
      have sX := MX.out.2.keep (.of (Dw6.out.trans g6))
      have sY := MY.out.2.keep (.of Dw8.out)
      have PX := blk_grown g6 Pw6.out
      have PY := Pw8.out
      have C8 := Lib.hid ((KW.out.trans (World.grownBy_alloc wr (.cells #[.string ⟨#[62]⟩, .string ⟨#[60]⟩] 51) none)).trans (Ew5.out.trans (Dw6.out.trans g6)))
      have nX : X.n ≤ 1000 := by rw [Pm.n_zz, hX]; simp [pCmp, Prd.n, Prd.ns]
      have HS1 := Lib.hid (fun W (hW : w8.grownBy W none) => samePred_any _ X Y W ((sX.mono (S' := fun _ => True) (fun _ _ _ => trivial)).keep (.of hW)) ((sY.mono (S' := fun _ => True) (fun _ _ _ => trivial)).keep (.of hW)) nX)
      have HE := Lib.hid (hX.trans hY.symm)
      obtain ⟨la1, lc1, ka1, kc1, p1, rfl⟩ := leaf_mem (show X.z false = .mk 3 ⟨#[120]⟩ 3 ⟨k, n, s⟩ ⟨#[]⟩ [] [] 0 from hX)
      obtain ⟨la2, lc2, ka2, kc2, p2, rfl⟩ := leaf_mem (show Y.z false = .mk 3 ⟨#[120]⟩ 3 ⟨k, n, s⟩ ⟨#[]⟩ [] [] 0 from hY)
      have PX : Hid (w8.heap[w5.heap.size]? = some (.cells #[.int .i64 3, .string ⟨#[120]⟩, .int .i64 3, .int .i64 k, .int .i64 n, .string s, .string ⟨#[]⟩, .slice la1 0 lc1, .slice ka1 0 kc1, .int .i64 p1] 31 (0, 0))) := Lib.hid PX
      have PY : Hid (w8.heap[w7.heap.size]? = some (.cells #[.int .i64 3, .string ⟨#[120]⟩, .int .i64 3, .int .i64 k, .int .i64 n, .string s, .string ⟨#[]⟩, .slice la2 0 lc2, .slice ka2 0 kc2, .int .i64 p2] 31 (0, 0))) := Lib.hid PY
      have HS1 : Hid (∀ W, w8.grownBy W none → Calls Tryz.prog 16 #[.agg #[.int .i64 3, .string ⟨#[120]⟩, .int .i64 3, .int .i64 k, .int .i64 n, .string s, .string ⟨#[]⟩, .slice la1 0 lc1, .slice ka1 0 kc1, .int .i64 p1], .agg #[.int .i64 3, .string ⟨#[120]⟩, .int .i64 3, .int .i64 k, .int .i64 n, .string s, .string ⟨#[]⟩, .slice la2 0 lc2, .slice ka2 0 kc2, .int .i64 p2]] W fun e w' => BoolIs _ e ∧ W.grownBy w' none) := HS1
      clear hX hY sX sY nX MX MY g6 Pw6 Pw8 Dw6 Dw8 Ew5 Ew7 C4 C6 Q1 r1
      obtain ⟨a0, a1, a2, a3, a4, a5, a6, a7, a8, a9⟩ := cells10 PX.out
      obtain ⟨d0, d1, d2, d3, d4, d5, d6, d7, d8, d9⟩ := cells10 PY.out
      go_wp2_with fail
      refine (HS1.out _ (grown_reflX _ _)).mono ?_
      rintro e w9 ⟨⟨b, rfl, hr⟩, hg⟩
      obtain rfl : b = true := hr.2 HE.out
      have QX := Lib.hid (blk_grown hg PX.out)
      have C9 := Lib.hid (C8.out.trans hg)
      clear hr hg a0 a1 a2 a3 a4 a5 a6 a7 a8 a9 d0 d1 d2 d3 d4 d5 d6 d7 d8 d9
      obtain ⟨a0, _, _, a3, a4, a5, _, _, _, _⟩ := cells10 QX.out
      obtain ⟨d0, d1, d2⟩ := F1.out.keep C9.out
      go_wp2_with fail
      go_roundw
      case rel => exact ⟨5, rfl, by omega, C9⟩
      case measure => simp [intOf]
    by_cases hj5 : j = 5
    · subst hj5
      have ix := ix6s5
      have q0 := cell_of_row _ _ 0 _ _ _ (heap_alloc_new wr (.cells #[.string ⟨#[62, 61]⟩, .string ⟨#[60, 61]⟩] 51))
      have q1 := cell_of_row _ _ 1 _ _ _ (heap_alloc_new wr (.cells #[.string ⟨#[62, 61]⟩, .string ⟨#[60, 61]⟩] 51))
      simp only [List.getElem?_toArray, List.getElem?_cons_zero, List.getElem?_cons_succ] at q0 q1
      have C4 := Lib.hid ((G3.out.trans KW.out).trans (World.grownBy_alloc wr (.cells #[.string ⟨#[62, 61]⟩, .string ⟨#[60, 61]⟩] 51) none))
      have Q1 := Lib.hid q1
      go_wp2_with fail
      refine (HL5.out _ C4.out).mono ?_
      rintro e w5 ⟨X, rfl, hX, hXS, hg⟩
      have MX := Lib.hid (And.intro hX hXS)
      have Ew5 := Lib.hid hg
      clear hX hXS hg
      go_upto_region 8 with (refine wpList_store_row rfl 31 (.tmp 9) (.tmp 55) rfl w5.heap.size X.c.toArray rfl rfl 31 z10 (heap_alloc_new w5 (.cells z10 31)) (by rw [Pm.c_size]; exact pred_size) (by rw [Pm.c_size]; rfl) (Pm.c_all _) ?_)
      obtain ⟨w6, hw⟩ : ∃ w', w' = put10 w5 X := ⟨_, rfl⟩
      have Pw6 := Lib.hid (put10_blk w5 X)
      have Dw6 := Lib.hid (put10_grown w5 X)
      change Code.wp _ _ _ _ (put10 w5 X)
      rw [← hw] at Pw6 Dw6 ⊢
      clear hw
      have C6 := Lib.hid (C4.out.trans (Ew5.out.trans Dw6.out))
      have r1 := (Ew5.out.trans Dw6.out).cell Q1.out (by simp)
      clear q0 q1 ix
      go_wp2_with fail
      refine (HM5.out _ C6.out).mono ?_
      rintro e w7 ⟨Y, rfl, hY, hYS, hg⟩
      have MY := Lib.hid (And.intro hY hYS)
      have Ew7 := Lib.hid hg
      clear hY hYS hg
      go_upto_region 9 with (refine wpList_store_row rfl 31 (.tmp 11) (.tmp 64) rfl w7.heap.size Y.c.toArray rfl rfl 31 z10 (heap_alloc_new w7 (.cells z10 31)) (by rw [Pm.c_size]; exact pred_size) (by rw [Pm.c_size]; rfl) (Pm.c_all _) ?_)
      obtain ⟨w8, hw⟩ : ∃ w', w' = put10 w7 Y := ⟨_, rfl⟩
      have Pw8 := Lib.hid (put10_blk w7 Y)
      have Dw8 := Lib.hid (put10_grown w7 Y)
      change Code.wp _ _ _ _ (put10 w7 Y)
      rw [← hw] at Pw8 Dw8 ⊢
      clear hw
      have g6 : w6.grownBy w8 none := Ew7.out.trans Dw8.out
      have hX := MX.out.1
      have hY := MY.out.1
      have sX := MX.out.2.keep (.of (Dw6.out.trans g6))
      have sY := MY.out.2.keep (.of Dw8.out)
      have PX := blk_grown g6 Pw6.out
      have PY := Pw8.out
      have C8 := Lib.hid ((KW.out.trans (World.grownBy_alloc wr (.cells #[.string ⟨#[62, 61]⟩, .string ⟨#[60, 61]⟩] 51) none)).trans (Ew5.out.trans (Dw6.out.trans g6)))
      have nX : X.n ≤ 1000 := by rw [Pm.n_zz, hX]; simp [pCmp, Prd.n, Prd.ns]
      have HS1 := Lib.hid (fun W (hW : w8.grownBy W none) => samePred_any _ X Y W ((sX.mono (S' := fun _ => True) (fun _ _ _ => trivial)).keep (.of hW)) ((sY.mono (S' := fun _ => True) (fun _ _ _ => trivial)).keep (.of hW)) nX)
      have HE := Lib.hid (hX.trans hY.symm)
      obtain ⟨la1, lc1, ka1, kc1, p1, rfl⟩ := leaf_mem (show X.z false = .mk 3 ⟨#[120]⟩ 4 ⟨k, n, s⟩ ⟨#[]⟩ [] [] 0 from hX)
      obtain ⟨la2, lc2, ka2, kc2, p2, rfl⟩ := leaf_mem (show Y.z false = .mk 3 ⟨#[120]⟩ 4 ⟨k, n, s⟩ ⟨#[]⟩ [] [] 0 from hY)
      have PX : Hid (w8.heap[w5.heap.size]? = some (.cells #[.int .i64 3, .string ⟨#[120]⟩, .int .i64 4, .int .i64 k, .int .i64 n, .string s, .string ⟨#[]⟩, .slice la1 0 lc1, .slice ka1 0 kc1, .int .i64 p1] 31 (0, 0))) := Lib.hid PX
      have PY : Hid (w8.heap[w7.heap.size]? = some (.cells #[.int .i64 3, .string ⟨#[120]⟩, .int .i64 4, .int .i64 k, .int .i64 n, .string s, .string ⟨#[]⟩, .slice la2 0 lc2, .slice ka2 0 kc2, .int .i64 p2] 31 (0, 0))) := Lib.hid PY
      have HS1 : Hid (∀ W, w8.grownBy W none → Calls Tryz.prog 16 #[.agg #[.int .i64 3, .string ⟨#[120]⟩, .int .i64 4, .int .i64 k, .int .i64 n, .string s, .string ⟨#[]⟩, .slice la1 0 lc1, .slice ka1 0 kc1, .int .i64 p1], .agg #[.int .i64 3, .string ⟨#[120]⟩, .int .i64 4, .int .i64 k, .int .i64 n, .string s, .string ⟨#[]⟩, .slice la2 0 lc2, .slice ka2 0 kc2, .int .i64 p2]] W fun e w' => BoolIs _ e ∧ W.grownBy w' none) := HS1
      clear hX hY sX sY nX MX MY g6 Pw6 Pw8 Dw6 Dw8 Ew5 Ew7 C4 C6 Q1 r1
      obtain ⟨a0, a1, a2, a3, a4, a5, a6, a7, a8, a9⟩ := cells10 PX.out
      obtain ⟨d0, d1, d2, d3, d4, d5, d6, d7, d8, d9⟩ := cells10 PY.out
      go_wp2_with fail
      refine (HS1.out _ (grown_reflX _ _)).mono ?_
      rintro e w9 ⟨⟨b, rfl, hr⟩, hg⟩
      obtain rfl : b = true := hr.2 HE.out
      have QX := Lib.hid (blk_grown hg PX.out)
      have C9 := Lib.hid (C8.out.trans hg)
      clear hr hg a0 a1 a2 a3 a4 a5 a6 a7 a8 a9 d0 d1 d2 d3 d4 d5 d6 d7 d8 d9
      obtain ⟨a0, _, _, a3, a4, a5, _, _, _, _⟩ := cells10 QX.out
      obtain ⟨d0, d1, d2⟩ := F1.out.keep C9.out
      go_wp2_with fail
      go_roundw
      case rel => exact ⟨6, rfl, by omega, C9⟩
      case measure => simp [intOf]
    obtain rfl : j = 6 := by omega
    have C4 := Lib.hid (G3.out.trans KW.out)
    go_wp2_with fail
    refine (HB1.out _ C4.out).mono ?_
    rintro e w5 ⟨X, rfl, hX, hXS, hg⟩
    have MX := Lib.hid (And.intro hX hXS)
    have Ew5 := Lib.hid hg
    clear hX hXS hg
    go_upto_region 13 with (refine wpList_store_row rfl 31 (.tmp 13) (.tmp 97) rfl w5.heap.size X.c.toArray rfl rfl 31 z10 (heap_alloc_new w5 (.cells z10 31)) (by rw [Pm.c_size]; exact pred_size) (by rw [Pm.c_size]; rfl) (Pm.c_all _) ?_)
    obtain ⟨w6, hw⟩ : ∃ w', w' = put10 w5 X := ⟨_, rfl⟩
    have Pw6 := Lib.hid (put10_blk w5 X)
    have Dw6 := Lib.hid (put10_grown w5 X)
    change Code.wp _ _ _ _ (put10 w5 X)
    rw [← hw] at Pw6 Dw6 ⊢
    clear hw
    have C6 := Lib.hid (C4.out.trans (Ew5.out.trans Dw6.out))
    go_wp2_with fail
    refine (HB2.out _ C6.out).mono ?_
    rintro e w7 ⟨Y, rfl, hY, hYS, hg⟩
    have MY := Lib.hid (And.intro hY hYS)
    have Ew7 := Lib.hid hg
    clear hY hYS hg
    go_upto_region 14 with (refine wpList_store_row rfl 31 (.tmp 15) (.tmp 106) rfl w7.heap.size Y.c.toArray rfl rfl 31 z10 (heap_alloc_new w7 (.cells z10 31)) (by rw [Pm.c_size]; exact pred_size) (by rw [Pm.c_size]; rfl) (Pm.c_all _) ?_)
    obtain ⟨w8, hw⟩ : ∃ w', w' = put10 w7 Y := ⟨_, rfl⟩
    have Pw8 := Lib.hid (put10_blk w7 Y)
    have Dw8 := Lib.hid (put10_grown w7 Y)
    change Code.wp _ _ _ _ (put10 w7 Y)
    rw [← hw] at Pw8 Dw8 ⊢
    clear hw
    have C8 := Lib.hid (C6.out.trans (Ew7.out.trans Dw8.out))
    go_wp2_with fail
    refine (HB3.out _ C8.out).mono ?_
    rintro e w9 ⟨Z, rfl, hZ, hZS, hg⟩
    have MZ := Lib.hid (And.intro hZ hZS)
    have Ew9 := Lib.hid hg
    clear hZ hZS hg
    go_upto_region 15 with (refine wpList_store_row rfl 31 (.tmp 17) (.tmp 116) rfl w9.heap.size Z.c.toArray rfl rfl 31 z10 (heap_alloc_new w9 (.cells z10 31)) (by rw [Pm.c_size]; exact pred_size) (by rw [Pm.c_size]; rfl) (Pm.c_all _) ?_)
    obtain ⟨w10, hw⟩ : ∃ w', w' = put10 w9 Z := ⟨_, rfl⟩
    have Pw10 := Lib.hid (put10_blk w9 Z)
    have Dw10 := Lib.hid (put10_grown w9 Z)
    change Code.wp _ _ _ _ (put10 w9 Z)
    rw [← hw] at Pw10 Dw10 ⊢
    clear hw
    have C10 := Lib.hid (C8.out.trans (Ew9.out.trans Dw10.out))
    go_wp2_with fail
    refine (HB4.out _ C10.out).mono ?_
    rintro e w11 ⟨U, rfl, hU, hUS, hg⟩
    have MU := Lib.hid (And.intro hU hUS)
    have Ew11 := Lib.hid hg
    clear hU hUS hg
    go_upto_region 16 with (refine wpList_store_row rfl 31 (.tmp 19) (.tmp 126) rfl w11.heap.size U.c.toArray rfl rfl 31 z10 (heap_alloc_new w11 (.cells z10 31)) (by rw [Pm.c_size]; exact pred_size) (by rw [Pm.c_size]; rfl) (Pm.c_all _) ?_)
    obtain ⟨w12, hw⟩ : ∃ w', w' = put10 w11 U := ⟨_, rfl⟩
    have Pw12 := Lib.hid (put10_blk w11 U)
    have Dw12 := Lib.hid (put10_grown w11 U)
    change Code.wp _ _ _ _ (put10 w11 U)
    rw [← hw] at Pw12 Dw12 ⊢
    clear hw
    have C12 := Lib.hid (C10.out.trans (Ew11.out.trans Dw12.out))
    have hX := MX.out.1
    have hY := MY.out.1
    have hZ := MZ.out.1
    have hU := MU.out.1
    have g10 : w10.grownBy w12 none := Ew11.out.trans Dw12.out
    have g8 : w8.grownBy w12 none := Ew9.out.trans (Dw10.out.trans g10)
    have g6 : w6.grownBy w12 none := Ew7.out.trans (Dw8.out.trans g8)
    have sX := MX.out.2.keep (.of (Dw6.out.trans g6))
    have sY := MY.out.2.keep (.of (Dw8.out.trans g8))
    have sZ := MZ.out.2.keep (.of (Dw10.out.trans g10))
    have sU := MU.out.2.keep (.of Dw12.out)
    have PX := blk_grown g6 Pw6.out
    have PY := blk_grown g8 Pw8.out
    have PZ := blk_grown g10 Pw10.out
    have PU := Pw12.out
    have nX : X.n ≤ 1000 := by rw [Pm.n_zz, hX]; simp [pBoth, pCmp, Prd.n, Prd.ns]
    have nZ : Z.n ≤ 1000 := by rw [Pm.n_zz, hZ]; simp [notP, pIn, Prd.n, Prd.ns]
    have HS1 := Lib.hid (fun W (hW : w12.grownBy W none) => samePred_any _ X Y W ((sX.mono (S' := fun _ => True) (fun _ _ _ => trivial)).keep (.of hW)) ((sY.mono (S' := fun _ => True) (fun _ _ _ => trivial)).keep (.of hW)) nX)
    have HS2 := Lib.hid (fun W (hW : w12.grownBy W none) => samePred_any _ Z U W ((sZ.mono (S' := fun _ => True) (fun _ _ _ => trivial)).keep (.of hW)) ((sU.mono (S' := fun _ => True) (fun _ _ _ => trivial)).keep (.of hW)) nZ)
    have HE1 := Lib.hid (hX.trans hY.symm)
    have HE2 := Lib.hid (hZ.trans hU.symm)
    obtain ⟨b1, o1, kc1, la1, lc1, p1, x1, x2, rfl, _, _, _⟩ := pair_mem (show X.z false = jP 8 (pCmp 6 ⟨k, n, s⟩) (pCmp 4 ⟨k', n', s'⟩) from hX) sX
    obtain ⟨b2, o2, kc2, la2, lc2, p2, y1, y2, rfl, _, _, _⟩ := pair_mem (show Y.z false = jP 8 (pCmp 6 ⟨k, n, s⟩) (pCmp 4 ⟨k', n', s'⟩) from hY) sY
    obtain ⟨b3, o3, kc3, la3, lc3, p3, zl, zc, zp, zka, zkc, zks, rfl, hk3, cz, sz⟩ := notin_mem hZ sZ
    obtain ⟨b4, o4, kc4, la4, lc4, p4, ul, uc, up, uka, ukc, uks, rfl, _, _, _⟩ := notin_mem hU sU
    have PX : Hid (w12.heap[w5.heap.size]? = some (.cells #[.int .i64 8, .string ⟨#[]⟩, .int .i64 0, .int .i64 0, .int .i64 0, .string ⟨#[]⟩, .string ⟨#[]⟩, .slice la1 0 lc1, .slice (some ⟨b1, o1, none⟩) 2 kc1, .int .i64 p1] 31 (0, 0))) := Lib.hid PX
    have PY : Hid (w12.heap[w7.heap.size]? = some (.cells #[.int .i64 8, .string ⟨#[]⟩, .int .i64 0, .int .i64 0, .int .i64 0, .string ⟨#[]⟩, .string ⟨#[]⟩, .slice la2 0 lc2, .slice (some ⟨b2, o2, none⟩) 2 kc2, .int .i64 p2] 31 (0, 0))) := Lib.hid PY
    have PZ : Hid (w12.heap[w9.heap.size]? = some (.cells #[.int .i64 10, .string ⟨#[]⟩, .int .i64 0, .int .i64 0, .int .i64 0, .string ⟨#[]⟩, .string ⟨#[]⟩, .slice la3 0 lc3, .slice (some ⟨b3, o3, none⟩) 1 kc3, .int .i64 p3] 31 (0, 0))) := Lib.hid PZ
    have PU : Hid (w12.heap[w11.heap.size]? = some (.cells #[.int .i64 10, .string ⟨#[]⟩, .int .i64 0, .int .i64 0, .int .i64 0, .string ⟨#[]⟩, .string ⟨#[]⟩, .slice la4 0 lc4, .slice (some ⟨b4, o4, none⟩) 1 kc4, .int .i64 p4] 31 (0, 0))) := Lib.hid PU
    have HS1 : Hid (∀ W, w12.grownBy W none → Calls Tryz.prog 16 #[.agg #[.int .i64 8, .string ⟨#[]⟩, .int .i64 0, .int .i64 0, .int .i64 0, .string ⟨#[]⟩, .string ⟨#[]⟩, .slice la1 0 lc1, .slice (some ⟨b1, o1, none⟩) 2 kc1, .int .i64 p1], .agg #[.int .i64 8, .string ⟨#[]⟩, .int .i64 0, .int .i64 0, .int .i64 0, .string ⟨#[]⟩, .string ⟨#[]⟩, .slice la2 0 lc2, .slice (some ⟨b2, o2, none⟩) 2 kc2, .int .i64 p2]] W fun e w' => BoolIs _ e ∧ W.grownBy w' none) := HS1
    have HS2 : Hid (∀ W, w12.grownBy W none → Calls Tryz.prog 16 #[.agg #[.int .i64 10, .string ⟨#[]⟩, .int .i64 0, .int .i64 0, .int .i64 0, .string ⟨#[]⟩, .string ⟨#[]⟩, .slice la3 0 lc3, .slice (some ⟨b3, o3, none⟩) 1 kc3, .int .i64 p3], .agg #[.int .i64 10, .string ⟨#[]⟩, .int .i64 0, .int .i64 0, .int .i64 0, .string ⟨#[]⟩, .string ⟨#[]⟩, .slice la4 0 lc4, .slice (some ⟨b4, o4, none⟩) 1 kc4, .int .i64 p4]] W fun e w' => BoolIs _ e ∧ W.grownBy w' none) := HS2
    have HC1 := Lib.hid (fun W (hW : w12.grownBy W none) => (HS1.out W hW).mono fun e w' h => And.intro (show e = .returned (.bool true) from by
      obtain ⟨b, rfl, hb⟩ := h.1
      rw [hb.2 HE1.out]) (hW.trans h.2))
    have HC2 := Lib.hid (fun W (hW : w12.grownBy W none) => (HS2.out W hW).mono fun e w' h => And.intro (show e = .returned (.bool true) from by
      obtain ⟨b, rfl, hb⟩ := h.1
      rw [hb.2 HE2.out]) (hW.trans h.2))
    have HR : Hid (∀ W, w12.grownBy W none → ∀ g, W.heap[g]? = some (.cells #[.int .i64 k, .int .i64 n, .string s, .int .i64 k', .int .i64 n', .string s'] 27 (0, 0)) → Calls Tryz.prog 22 #[.slice zl 2 zc, .slice (some ⟨g, 0, none⟩) 2 2] W fun e w' => e = .returned (.bool true) ∧ w12.grownBy w' none) := Lib.hid (fun W hW g hb => by
      have h1 : RowAt W zl [⟨k, n, s⟩, ⟨k', n', s'⟩] := (sz.keep (.of hW)).row
      have h2 : RowAt W (some ⟨g, 0, none⟩) [⟨k, n, s⟩, ⟨k', n', s'⟩] := two_row hb h1.2.1
      have := refSame_any zl (some ⟨g, 0, none⟩) zc 2 [⟨k, n, s⟩, ⟨k', n', s'⟩] [⟨k, n, s⟩, ⟨k', n', s'⟩] W h1 h2
      exact this.mono fun e w' h => ⟨by rw [h.1, eq_ro rfl], hW.trans (grown_belowX h.2 none)⟩)
    have GE := Lib.hid (show w.grownBy w12 none from C12.out)
    have GW := Lib.hid (KW.out.trans (Ew5.out.trans (Dw6.out.trans g6)))
    have HZ := Lib.hid (And.intro hk3 cz)
    clear cz hk3 hX hY hZ hU g10 g8 g6 sX sY sZ sU nX nZ MX MY MZ MU Pw6 Pw8 Pw10 Pw12 Dw6 Dw8 Dw10 Dw12 Ew5 Ew7 Ew9 Ew11 C4 C6 C8 C10 HB1 HB2 HB3 HB4 HL0 HL1 HL2 HL3 HL4 HL5 HM0 HM1 HM2 HM3 HM4 HM5
    obtain ⟨hk3, _⟩ := HZ.out
    refine wp_region_held_drew (S := (fun W => Hid (w12.grownBy W none))) (by kernel_rfl) (Lib.hid (grown_drewT (grown_reflX _ _))) (fun hHeld => ?_)
    refine wpAnyH_take (i := 0) (v := ?vq0) rfl (by kernel_rfl) (by kernel_rfl) (by kernel_rfl) (fun _ _ _ h => h) (Or.inl ⟨by rfl, ?yq0⟩) (by assumption) ?rq0
    case yq0 => (intro w hSw; (try dsimp only at hSw); go_simp; try with_reducible rfl)
    simp only [Act.put, List.getElem_toArray, List.getElem_cons_zero, List.size_toArray, List.length_cons, List.length_nil, Nat.reduceAdd, Array.replicate, List.replicate, List.setIfInBounds_toArray, List.set_cons_zero, List.set_cons_succ]
    refine wpAnyH_take (i := 1) (v := ?vq1) rfl (by kernel_rfl) (by kernel_rfl) (by kernel_rfl) (fun _ _ _ h => h) (Or.inl ⟨by rfl, ?yq1⟩) (by assumption) ?rq1
    case yq1 => (intro w hSw; (try dsimp only at hSw); go_simp; try with_reducible rfl)
    simp only [Act.put, List.getElem_toArray, List.getElem_cons_succ, List.getElem_cons_zero, List.setIfInBounds_toArray, List.set_cons_zero, List.set_cons_succ]
    refine wpAnyH_take (i := 2) (v := ?vq2) rfl (by kernel_rfl) (by kernel_rfl) (by kernel_rfl) (fun _ _ _ h => h) (Or.inl ⟨by rfl, ?yq2⟩) (by assumption) ?rq2
    case yq2 => (intro w hSw; (try dsimp only at hSw); go_simp; try with_reducible rfl)
    simp only [Act.put, List.getElem_toArray, List.getElem_cons_succ, List.getElem_cons_zero, List.setIfInBounds_toArray, List.set_cons_zero, List.set_cons_succ]
    refine wpAnyH_take (i := 3) (v := ?vq3) rfl (by kernel_rfl) (by kernel_rfl) (by kernel_rfl) (fun _ _ _ h => h) (Or.inl ⟨by rfl, ?yq3⟩) (by assumption) ?rq3
    case yq3 => (intro w hSw; (try dsimp only at hSw); go_simp; try with_reducible rfl)
    simp only [Act.put, List.getElem_toArray, List.getElem_cons_succ, List.getElem_cons_zero, List.setIfInBounds_toArray, List.set_cons_zero, List.set_cons_succ]
    refine wpAnyH_take (i := 4) (v := ?vq4) rfl (by kernel_rfl) (by kernel_rfl) (by kernel_rfl) (fun _ _ _ h => h) (Or.inl ⟨by rfl, ?yq4⟩) (by assumption) ?rq4
    case yq4 => (intro w hSw; (try dsimp only at hSw); go_simp; try with_reducible rfl)
    simp only [Act.put, List.getElem_toArray, List.getElem_cons_succ, List.getElem_cons_zero, List.setIfInBounds_toArray, List.set_cons_zero, List.set_cons_succ]
    refine wpAnyH_take (i := 5) (v := ?vq5) rfl (by kernel_rfl) (by kernel_rfl) (by kernel_rfl) (fun _ _ _ h => h) (Or.inl ⟨by rfl, ?yq5⟩) (by assumption) ?rq5
    case yq5 => (intro w hSw; (try dsimp only at hSw); go_simp; try with_reducible rfl)
    simp only [Act.put, List.getElem_toArray, List.getElem_cons_succ, List.getElem_cons_zero, List.setIfInBounds_toArray, List.set_cons_zero, List.set_cons_succ]
    refine wpAnyH_take (i := 6) (v := ?vq6) rfl (by kernel_rfl) (by kernel_rfl) (by kernel_rfl) (fun _ _ _ h => h) (Or.inl ⟨by rfl, ?yq6⟩) (by assumption) ?rq6
    case yq6 => (intro w hSw; (try dsimp only at hSw); go_simp; try with_reducible rfl)
    simp only [Act.put, List.getElem_toArray, List.getElem_cons_succ, List.getElem_cons_zero, List.setIfInBounds_toArray, List.set_cons_zero, List.set_cons_succ]
    refine wpAnyH_take (i := 7) (v := ?vq7) rfl (by kernel_rfl) (by kernel_rfl) (by kernel_rfl) (fun _ _ _ h => h) (Or.inl ⟨by rfl, ?yq7⟩) (by assumption) ?rq7
    case yq7 => (intro w hSw; (try dsimp only at hSw); go_simp; try with_reducible rfl)
    simp only [Act.put, List.getElem_toArray, List.getElem_cons_succ, List.getElem_cons_zero, List.setIfInBounds_toArray, List.set_cons_zero, List.set_cons_succ]
    refine wpAnyH_take (i := 8) (v := ?vq8) rfl (by kernel_rfl) (by kernel_rfl) (by kernel_rfl) (fun _ _ _ h => h) (Or.inl ⟨by rfl, ?yq8⟩) (by assumption) ?rq8
    case yq8 => (intro w hSw; (try dsimp only at hSw); go_simp; try with_reducible rfl)
    simp only [Act.put, List.getElem_toArray, List.getElem_cons_succ, List.getElem_cons_zero, List.setIfInBounds_toArray, List.set_cons_zero, List.set_cons_succ]
    refine wpAnyH_take (i := 9) (v := ?vq9) rfl (by kernel_rfl) (by kernel_rfl) (by kernel_rfl) (fun _ _ _ h => h) (Or.inl ⟨by rfl, ?yq9⟩) (by assumption) ?rq9
    case yq9 => (intro w hSw; (try dsimp only at hSw); go_simp; try with_reducible rfl)
    simp only [Act.put, List.getElem_toArray, List.getElem_cons_succ, List.getElem_cons_zero, List.setIfInBounds_toArray, List.set_cons_zero, List.set_cons_succ]
    refine wpAnyH_take (i := 10) (v := ?vq10) rfl (by kernel_rfl) (by kernel_rfl) (by kernel_rfl) (fun _ _ _ h => h) (Or.inl ⟨by rfl, ?yq10⟩) (by assumption) ?rq10
    case yq10 => (intro w hSw; (try dsimp only at hSw); go_simp; try with_reducible rfl)
    simp only [Act.put, List.getElem_toArray, List.getElem_cons_succ, List.getElem_cons_zero, List.setIfInBounds_toArray, List.set_cons_zero, List.set_cons_succ]
    refine wpAnyH_take (i := 11) (v := ?vq11) rfl (by kernel_rfl) (by kernel_rfl) (by kernel_rfl) (fun _ _ _ h => h) (Or.inl ⟨by rfl, ?yq11⟩) (by assumption) ?rq11
    case yq11 => (intro w hSw; obtain ⟨h0, h1, h2, h3, h4, h5, h6, h7, h8, h9⟩ := cells10 (blk_grown hSw.out PX.out); clear hSw; go_simp; try with_reducible rfl)
    simp only [Act.put, List.getElem_toArray, List.getElem_cons_succ, List.getElem_cons_zero, List.setIfInBounds_toArray, List.set_cons_zero, List.set_cons_succ]
    refine wpAnyH_take (i := 12) (v := ?vq12) rfl (by kernel_rfl) (by kernel_rfl) (by kernel_rfl) (fun _ _ _ h => h) (Or.inl ⟨by rfl, ?yq12⟩) (by assumption) ?rq12
    case yq12 => (intro w hSw; obtain ⟨h0, h1, h2, h3, h4, h5, h6, h7, h8, h9⟩ := cells10 (blk_grown hSw.out PY.out); clear hSw; go_simp; try with_reducible rfl)
    simp only [Act.put, List.getElem_toArray, List.getElem_cons_succ, List.getElem_cons_zero, List.setIfInBounds_toArray, List.set_cons_zero, List.set_cons_succ]
    refine wpAnyH_ready (rs := [13]) (by kernel_rfl) (by simp) ?_
    refine AllReadyH.cons rfl (fun K' hK => ?_) AllReadyH.nil
    go_simp
    go_at_call 16
    refine (HC1.out _ (grown_drewT (grown_reflX _ _))).mono ?_
    rintro e w13 ⟨rfl, hg⟩
    have Z13 := Lib.hid hg
    clear hg
    refine hK.out _ _ Z13 (fun hHeld => ?_)
    clear hK K'
    simp only [List.setIfInBounds_toArray, List.set_cons_zero, List.set_cons_succ]
    refine wpAnyH_take (i := 14) (v := ?vq14) rfl (by kernel_rfl) (by kernel_rfl) (by kernel_rfl) (fun _ _ _ h => h) (Or.inl ⟨by rfl, ?yq14⟩) (by assumption) ?rq14
    case yq14 => (intro w hSw; (try dsimp only at hSw); go_simp; try with_reducible rfl)
    simp only [Act.put, List.getElem_toArray, List.getElem_cons_succ, List.getElem_cons_zero, List.setIfInBounds_toArray, List.set_cons_zero, List.set_cons_succ]
    refine wpAnyH_take (i := 15) (v := ?vq15) rfl (by kernel_rfl) (by kernel_rfl) (by kernel_rfl) (fun _ _ _ h => h) (Or.inl ⟨by rfl, ?yq15⟩) (by assumption) ?rq15
    case yq15 => (intro w hSw; (try dsimp only at hSw); go_simp; try with_reducible rfl)
    simp only [Act.put, List.getElem_toArray, List.getElem_cons_succ, List.getElem_cons_zero, List.setIfInBounds_toArray, List.set_cons_zero, List.set_cons_succ]
    refine wpAnyH_take (i := 16) (v := ?vq16) rfl (by kernel_rfl) (by kernel_rfl) (by kernel_rfl) (fun _ _ _ h => h) (Or.inl ⟨by rfl, ?yq16⟩) (by assumption) ?rq16
    case yq16 => (intro w hSw; obtain ⟨h0, h1, h2, h3, h4, h5, h6, h7, h8, h9⟩ := cells10 (blk_grown hSw.out PZ.out); clear hSw; go_simp; try with_reducible rfl)
    simp only [Act.put, List.getElem_toArray, List.getElem_cons_succ, List.getElem_cons_zero, List.setIfInBounds_toArray, List.set_cons_zero, List.set_cons_succ]
    refine wpAnyH_take (i := 17) (v := ?vq17) rfl (by kernel_rfl) (by kernel_rfl) (by kernel_rfl) (fun _ _ _ h => h) (Or.inl ⟨by rfl, ?yq17⟩) (by assumption) ?rq17
    case yq17 => (intro w hSw; obtain ⟨h0, h1, h2, h3, h4, h5, h6, h7, h8, h9⟩ := cells10 (blk_grown hSw.out PU.out); clear hSw; go_simp; try with_reducible rfl)
    simp only [Act.put, List.getElem_toArray, List.getElem_cons_succ, List.getElem_cons_zero, List.setIfInBounds_toArray, List.set_cons_zero, List.set_cons_succ]
    refine wpAnyH_ready (rs := [18]) (by kernel_rfl) (by simp) ?_
    refine AllReadyH.cons rfl (fun K' hK => ?_) AllReadyH.nil
    go_simp
    go_at_call 16
    refine (HC2.out _ Z13.out).mono ?_
    rintro e w14 ⟨rfl, hg⟩
    have Z14 := Lib.hid hg
    clear hg
    refine hK.out _ _ Z14 (fun hHeld => ?_)
    clear hK K'
    simp only [List.setIfInBounds_toArray, List.set_cons_zero, List.set_cons_succ]
    refine wpAnyH_take (i := 19) (v := ?vq19) rfl (by kernel_rfl) (by kernel_rfl) (by kernel_rfl) (fun _ _ _ h => h) (Or.inl ⟨by rfl, ?yq19⟩) (by assumption) ?rq19
    case yq19 => (intro w hSw; (try dsimp only at hSw); go_simp; try with_reducible rfl)
    simp only [Act.put, List.getElem_toArray, List.getElem_cons_succ, List.getElem_cons_zero, List.setIfInBounds_toArray, List.set_cons_zero, List.set_cons_succ]
    refine wpAnyH_take (i := 20) (v := ?vq20) rfl (by kernel_rfl) (by kernel_rfl) (by kernel_rfl) (fun _ _ _ h => h) (Or.inl ⟨by rfl, ?yq20⟩) (by assumption) ?rq20
    case yq20 => (intro w hSw; (try dsimp only at hSw); go_simp; try with_reducible rfl)
    simp only [Act.put, List.getElem_toArray, List.getElem_cons_succ, List.getElem_cons_zero, List.setIfInBounds_toArray, List.set_cons_zero, List.set_cons_succ]
    refine wpAnyH_take (i := 21) (v := ?vq21) rfl (by kernel_rfl) (by kernel_rfl) (by kernel_rfl) (fun _ _ _ h => h) (Or.inl ⟨by rfl, ?yq21⟩) (by assumption) ?rq21
    case yq21 => (intro w hSw; (try dsimp only at hSw); go_simp; try with_reducible rfl)
    simp only [Act.put, List.getElem_toArray, List.getElem_cons_succ, List.getElem_cons_zero, List.setIfInBounds_toArray, List.set_cons_zero, List.set_cons_succ]
    refine wpAnyH_take (i := 22) (v := ?vq22) rfl (by kernel_rfl) (by kernel_rfl) (by kernel_rfl) (fun _ _ _ h => h) (Or.inl ⟨by rfl, ?yq22⟩) (by assumption) ?rq22
    case yq22 => (intro w hSw; obtain ⟨h0, h1, h2, h3, h4, h5, h6, h7, h8, h9⟩ := cells10 (blk_grown hSw.out PZ.out); clear hSw; go_simp; try with_reducible rfl)
    simp only [Act.put, List.getElem_toArray, List.getElem_cons_succ, List.getElem_cons_zero, List.setIfInBounds_toArray, List.set_cons_zero, List.set_cons_succ]
    refine wpAnyH_take (i := 23) (v := ?vq23) rfl (by kernel_rfl) (by kernel_rfl) (by kernel_rfl) (fun _ _ _ h => h) (Or.inl ⟨by rfl, ?yq23⟩) (by assumption) ?rq23
    case yq23 => (intro w hSw; (try dsimp only at hSw); go_simp; try with_reducible rfl)
    simp only [Act.put, List.getElem_toArray, List.getElem_cons_succ, List.getElem_cons_zero, List.setIfInBounds_toArray, List.set_cons_zero, List.set_cons_succ]
    refine wpAnyH_take (i := 24) (v := ?vq24) rfl (by kernel_rfl) (by kernel_rfl) (by kernel_rfl) (fun _ _ _ h => h) (Or.inl ⟨by rfl, ?yq24⟩) (by assumption) ?rq24
    case yq24 => (intro w hSw; (try dsimp only at hSw); go_simp; try with_reducible rfl)
    simp only [Act.put, List.getElem_toArray, List.getElem_cons_succ, List.getElem_cons_zero, List.setIfInBounds_toArray, List.set_cons_zero, List.set_cons_succ]
    refine wpAnyH_take (i := 25) (v := ?vq25) rfl (by kernel_rfl) (by kernel_rfl) (by kernel_rfl) (fun _ _ _ h => h) (Or.inl ⟨by rfl, ?yq25⟩) (by assumption) ?rq25
    case yq25 => (intro w hSw; (try dsimp only at hSw); go_simp; try with_reducible rfl)
    simp only [Act.put, List.getElem_toArray, List.getElem_cons_succ, List.getElem_cons_zero, List.setIfInBounds_toArray, List.set_cons_zero, List.set_cons_succ]
    refine wpAnyH_take (i := 26) (v := ?vq26) rfl (by kernel_rfl) (by kernel_rfl) (by kernel_rfl) (fun _ _ _ h => h) (Or.inl ⟨by rfl, ?yq26⟩) (by assumption) ?rq26
    case yq26 => (intro w hSw; (try dsimp only at hSw); go_simp; try with_reducible rfl)
    simp only [Act.put, List.getElem_toArray, List.getElem_cons_succ, List.getElem_cons_zero, List.setIfInBounds_toArray, List.set_cons_zero, List.set_cons_succ]
    refine wpAnyH_take (i := 27) (v := ?vq27) rfl (by kernel_rfl) (by kernel_rfl) (by kernel_rfl) (fun _ _ _ h => h) (Or.inl ⟨by rfl, ?yq27⟩) (by assumption) ?rq27
    case yq27 => (intro w hSw; (try dsimp only at hSw); go_simp; try with_reducible rfl)
    simp only [Act.put, List.getElem_toArray, List.getElem_cons_succ, List.getElem_cons_zero, List.setIfInBounds_toArray, List.set_cons_zero, List.set_cons_succ]
    refine wpAnyH_take (i := 28) (v := ?vq28) rfl (by kernel_rfl) (by kernel_rfl) (by kernel_rfl) (fun _ _ _ h => h) (Or.inl ⟨by rfl, ?yq28⟩) (by assumption) ?rq28
    case yq28 => (intro w hSw; obtain ⟨h0, h1, h2, h3, h4, h5, h6, h7, h8, h9⟩ := cells10 (blk_grown hSw.out PZ.out); clear hSw; go_simp; try with_reducible rfl)
    simp only [Act.put, List.getElem_toArray, List.getElem_cons_succ, List.getElem_cons_zero, List.setIfInBounds_toArray, List.set_cons_zero, List.set_cons_succ]
    refine wpAnyH_take (i := 29) (v := ?vq29) rfl (by kernel_rfl) (by kernel_rfl) (by kernel_rfl) (fun _ _ _ h => h) (Or.inl ⟨by rfl, ?yq29⟩) (by assumption) ?rq29
    case yq29 => (intro w hSw; (try dsimp only at hSw); go_simp; try with_reducible rfl)
    simp only [Act.put, List.getElem_toArray, List.getElem_cons_succ, List.getElem_cons_zero, List.setIfInBounds_toArray, List.set_cons_zero, List.set_cons_succ]
    refine wpAnyH_take (i := 30) (v := ?vq30) rfl (by kernel_rfl) (by kernel_rfl) (by kernel_rfl) (fun _ _ _ h => h) (Or.inl ⟨by rfl, ?yq30⟩) (by assumption) ?rq30
    case yq30 => (intro w hSw; (try dsimp only at hSw); go_simp; try with_reducible rfl)
    simp only [Act.put, List.getElem_toArray, List.getElem_cons_succ, List.getElem_cons_zero, List.setIfInBounds_toArray, List.set_cons_zero, List.set_cons_succ]
    refine wpAnyH_take (i := 31) (v := ?vq31) rfl (by kernel_rfl) (by kernel_rfl) (by kernel_rfl) (fun _ _ _ h => h) (Or.inl ⟨by rfl, ?yq31⟩) (by assumption) ?rq31
    case yq31 => (intro w hSw; have h0 := hSw.out.cell HZ.out.2 (by simp); clear hSw; go_simp; try with_reducible rfl)
    simp only [Act.put, List.getElem_toArray, List.getElem_cons_succ, List.getElem_cons_zero, List.setIfInBounds_toArray, List.set_cons_zero, List.set_cons_succ]
    refine wpAnyH_take (i := 32) (v := ?vq32) rfl (by kernel_rfl) (by kernel_rfl) (by kernel_rfl) (fun _ _ _ h => h) (Or.inl ⟨by rfl, ?yq32⟩) (by assumption) ?rq32
    case yq32 => (intro w hSw; obtain ⟨h0, h1, h2⟩ := F1.out.keep (GW.out.trans hSw.out); clear hSw; go_simp; try with_reducible rfl)
    simp only [Act.put, List.getElem_toArray, List.getElem_cons_succ, List.getElem_cons_zero, List.setIfInBounds_toArray, List.set_cons_zero, List.set_cons_succ]
    refine wpAnyH_take (i := 33) (v := ?vq33) rfl (by kernel_rfl) (by kernel_rfl) (by kernel_rfl) (fun _ _ _ h => h) (Or.inl ⟨by rfl, ?yq33⟩) (by assumption) ?rq33
    case yq33 => (intro w hSw; obtain ⟨h0, h1, h2⟩ := F2.out.keep (GW.out.trans hSw.out); clear hSw; go_simp; try with_reducible rfl)
    simp only [Act.put, List.getElem_toArray, List.getElem_cons_succ, List.getElem_cons_zero, List.setIfInBounds_toArray, List.set_cons_zero, List.set_cons_succ]
    refine wpAnyH_ready (rs := [34]) (by kernel_rfl) (by simp) ?_
    refine AllReadyH.cons rfl (fun K' hK => ?_) AllReadyH.nil
    go_simp
    skip
    refine hK.out _ _ (Lib.hid (Z14.out.trans (World.grownBy_alloc _ _ none))) (fun hHeld => ?_)
    clear hK K'
    simp only [List.setIfInBounds_toArray, List.set_cons_zero, List.set_cons_succ]
    refine wpAnyH_ready (rs := [35]) (by kernel_rfl) (by simp) ?_
    refine AllReadyH.cons rfl (fun K' hK => ?_) AllReadyH.nil
    go_simp
    go_at_call 22
    refine (HR.out _ (Z14.out.trans (World.grownBy_alloc _ _ none)) _ (heap_alloc_new w14 _)).mono ?_
    rintro e w15 ⟨rfl, hg⟩
    have Z15 := Lib.hid hg
    clear hg
    refine hK.out _ _ Z15 (fun hHeld => ?_)
    clear hK K'
    simp only [List.setIfInBounds_toArray, List.set_cons_zero, List.set_cons_succ]
    refine wpAnyH_take (i := 36) (v := ?vq36) rfl (by kernel_rfl) (by kernel_rfl) (by kernel_rfl) (fun _ _ _ h => h) (Or.inl ⟨by rfl, ?yq36⟩) (by assumption) ?rq36
    case yq36 => (intro w hSw; (try dsimp only at hSw); go_simp; try with_reducible rfl)
    simp only [Act.put, List.getElem_toArray, List.getElem_cons_succ, List.getElem_cons_zero, List.setIfInBounds_toArray, List.set_cons_zero, List.set_cons_succ]
    refine wpAnyH_take (i := 37) (v := ?vq37) rfl (by kernel_rfl) (by kernel_rfl) (by kernel_rfl) (fun _ _ _ h => h) (Or.inl ⟨by rfl, ?yq37⟩) (by assumption) ?rq37
    case yq37 => (intro w hSw; (try dsimp only at hSw); go_simp; try with_reducible rfl)
    simp only [Act.put, List.getElem_toArray, List.getElem_cons_succ, List.getElem_cons_zero, List.setIfInBounds_toArray, List.set_cons_zero, List.set_cons_succ]
    refine wpAnyH_done (by kernel_rfl) ?_ _
    go_wp2_with fail
    go_ret
    exact ⟨rfl, GE.out.trans Z15.out⟩
end Go.Proofs.YtppigamibgefaaaGreatDoor
