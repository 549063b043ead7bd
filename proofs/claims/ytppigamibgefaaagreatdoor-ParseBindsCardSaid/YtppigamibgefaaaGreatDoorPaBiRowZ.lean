/- The texts of ParseBinds, as queries: by evaluation. The law ParseBinds, walked: true at any number. The law ParseBinds, in the row's words. PROVED: the card of ParseBinds: at every input, in whatever memory that meets the row's listed variables (which the card ties to the program's text), the call returns true and its arguments read as they did. No condition of our own. -/
import Derived.Test.YtppigamibgefaaaGreatDoorZp14
import Derived.Test.YtppigamibgefaaaGreatDoorZp30
import Derived.Test.YtppigamibgefaaaGreatDoorZp16
import Derived.Test.YtppigamibgefaaaGreatDoorCards
import Derived.Test.YtppigamibgefaaaGreatDoorTie
import Derived.SevenTiedAt
namespace Go.Proofs.YtppigamibgefaaaGreatDoor
open Go.RowKit

def preX (s : ByteArray) : ByteArray := ⟨#[83, 69, 76, 69, 67, 84, 32, 42, 32, 70, 82, 79, 77, 32, 116, 32, 87, 72, 69, 82, 69, 32]⟩ ++ s
/-- A comparison, with a NOT ahead or without. -/
def nw (b : Bool) (s : ByteArray) : ByteArray := if b then ⟨#[78, 79, 84, 32]⟩ ++ s else s
def wA : ByteArray := ⟨#[97, 32, 61, 32, 49]⟩
def wB : ByteArray := ⟨#[98, 32, 61, 32, 50]⟩
def wC : ByteArray := ⟨#[99, 32, 61, 32, 51]⟩
def bindX (a b c : Bool) : ByteArray := nw a wA ++ ⟨#[32, 79, 82, 32]⟩ ++ nw b wB ++ ⟨#[32, 65, 78, 68, 32]⟩ ++ nw c wC
def bindY (a b c : Bool) : ByteArray := ⟨#[40]⟩ ++ nw a wA ++ ⟨#[41, 32, 79, 82, 32, 40, 40]⟩ ++ nw b wB ++ ⟨#[41, 32, 65, 78, 68, 32, 40]⟩ ++ nw c wC ++ ⟨#[41, 41]⟩
def bindZ (a b c : Bool) : ByteArray := ⟨#[40]⟩ ++ nw a wA ++ ⟨#[32, 79, 82, 32]⟩ ++ nw b wB ++ ⟨#[41, 32, 65, 78, 68, 32]⟩ ++ nw c wC
def nP (b : Bool) (p : Prd) : Prd := if b then .mk 10 ⟨#[]⟩ 0 ⟨0, 0, ⟨#[]⟩⟩ ⟨#[]⟩ [] [p] 0 else p
def eqP (c : UInt8) (n : Int) : Prd := .mk 3 ⟨#[c]⟩ 1 ⟨2, n, ⟨#[]⟩⟩ ⟨#[]⟩ [] [] 0
def jP (k : Nat) (p q : Prd) : Prd := .mk k ⟨#[]⟩ 0 ⟨0, 0, ⟨#[]⟩⟩ ⟨#[]⟩ [] [p, q] 0
def prX (a b c : Bool) : Prd := jP 9 (nP a (eqP 97 1)) (jP 8 (nP b (eqP 98 2)) (nP c (eqP 99 3)))
def prZ (a b c : Bool) : Prd := jP 8 (jP 9 (nP a (eqP 97 1)) (nP b (eqP 98 2))) (nP c (eqP 99 3))
/-- A query's condition without places. -/
def condE : Except (Nat × Nat) Qry → Option Prd
  | .error _ => none
  | .ok q => some q.cond.e
theorem bind_x : ∀ a b c : Bool, condE (parseL (preX (bindX a b c))) = some (prX a b c)
  | false, false, false => by kernel_rfl
  | false, false, true => by kernel_rfl
  | false, true, false => by kernel_rfl
  | false, true, true => by kernel_rfl
  | true, false, false => by kernel_rfl
  | true, false, true => by kernel_rfl
  | true, true, false => by kernel_rfl
  | true, true, true => by kernel_rfl
theorem bind_y : ∀ a b c : Bool, condE (parseL (preX (bindY a b c))) = some (prX a b c)
  | false, false, false => by kernel_rfl
  | false, false, true => by kernel_rfl
  | false, true, false => by kernel_rfl
  | false, true, true => by kernel_rfl
  | true, false, false => by kernel_rfl
  | true, false, true => by kernel_rfl
  | true, true, false => by kernel_rfl
  | true, true, true => by kernel_rfl
theorem bind_z : ∀ a b c : Bool, condE (parseL (preX (bindZ a b c))) = some (prZ a b c)
  | false, false, false => by kernel_rfl
  | false, false, true => by kernel_rfl
  | false, true, false => by kernel_rfl
  | false, true, true => by kernel_rfl
  | true, false, false => by kernel_rfl
  | true, false, true => by kernel_rfl
  | true, true, false => by kernel_rfl
  | true, true, true => by kernel_rfl
theorem condE_ok {r : Except (Nat × Nat) Qry} {p : Prd} (h : condE r = some p) : ∃ q, r = .ok q ∧ q.cond.e = p := by
  cases r with
  | error e => cases h
  | ok q => exact ⟨q, rfl, by simpa [condE] using h⟩
mutual
theorem Prd.n_er : ∀ p : Prd, p.e.e = p.e
  | .mk _ _ _ _ _ _ ks _ => by simp only [Prd.e, Prd.ns_er ks]
theorem Prd.ns_er : ∀ l : List Prd, Prd.es (Prd.es l) = Prd.es l
  | [] => rfl
  | x :: r => by simp only [Prd.es, Prd.n_er x, Prd.ns_er r]
end
end Go.Proofs.YtppigamibgefaaaGreatDoor
namespace Go.Proofs.YtppigamibgefaaaGreatDoor
open Go.RowKit

/-- The three words in memory, and how. -/
def WdAt (n : Int) (g q : Nat) (w : World) : Prop := w.cell? ⟨g, 0, none⟩ = some (.int .u8 n) ∧ w.cell? ⟨q, 0, none⟩ = some (.string ⟨#[97, 32, 61, 32, 49]⟩) ∧ w.cell? ⟨q, 1, none⟩ = some (.string ⟨#[98, 32, 61, 32, 50]⟩) ∧ w.cell? ⟨q, 2, none⟩ = some (.string ⟨#[99, 32, 61, 32, 51]⟩)
theorem WdAt.keep {n : Int} {g q : Nat} {w w' : World} (h : WdAt n g q w) (hg : w.grownBy w' none) : WdAt n g q w' :=
  ⟨hg.cell h.1 (by simp), hg.cell h.2.1 (by simp), hg.cell h.2.2.1 (by simp), hg.cell h.2.2.2 (by simp)⟩
set_option maxHeartbeats 1600000 in
theorem not0_any (n : Int) (b : Bool) (hbit : (bits BinOp.and .u8 n 1 == 1) = b) (g q : Nat) (w : World) (h : WdAt n g q w) :
    Calls Tryz.prog 18 #[.int .i64 0, .pointer (some ⟨g, 0, none⟩), .pointer (some ⟨q, 0, none⟩)] w fun e w' => w = w' ∧ e = .returned (.string (nw b wA)) := by
  obtain ⟨hb, c0, c1, c2⟩ := h
  cases b with
  | true =>
    go_enter Tryz.func18, Tryz.ntmps18
    go_wp2_with fail
    go_ret
    exact ⟨rfl, rfl⟩
  | false =>
    go_enter Tryz.func18, Tryz.ntmps18
    go_wp2_with fail
    go_ret
    exact ⟨rfl, rfl⟩
set_option maxHeartbeats 1600000 in
theorem not1_any (n : Int) (b : Bool) (hbit : (bits BinOp.and .u8 (n / 2) 1 == 1) = b) (g q : Nat) (w : World) (h : WdAt n g q w) :
    Calls Tryz.prog 18 #[.int .i64 1, .pointer (some ⟨g, 0, none⟩), .pointer (some ⟨q, 0, none⟩)] w fun e w' => w = w' ∧ e = .returned (.string (nw b wB)) := by
  obtain ⟨hb, c0, c1, c2⟩ := h
  cases b with
  | true =>
    go_enter Tryz.func18, Tryz.ntmps18
    go_wp2_with fail
    go_ret
    exact ⟨rfl, rfl⟩
  | false =>
    go_enter Tryz.func18, Tryz.ntmps18
    go_wp2_with fail
    go_ret
    exact ⟨rfl, rfl⟩
set_option maxHeartbeats 1600000 in
theorem not2_any (n : Int) (b : Bool) (hbit : (bits BinOp.and .u8 (n / 4) 1 == 1) = b) (g q : Nat) (w : World) (h : WdAt n g q w) :
    Calls Tryz.prog 18 #[.int .i64 2, .pointer (some ⟨g, 0, none⟩), .pointer (some ⟨q, 0, none⟩)] w fun e w' => w = w' ∧ e = .returned (.string (nw b wC)) := by
  obtain ⟨hb, c0, c1, c2⟩ := h
  cases b with
  | true =>
    go_enter Tryz.func18, Tryz.ntmps18
    go_wp2_with fail
    go_ret
    exact ⟨rfl, rfl⟩
  | false =>
    go_enter Tryz.func18, Tryz.ntmps18
    go_wp2_with fail
    go_ret
    exact ⟨rfl, rfl⟩
/-- A predicate without places is what it is in memory. -/
theorem Pm.z_mk {x : Pm} {k : Nat} {c : ByteArray} {r : Nat} {v : Vl} {o : ByteArray} {l : List Vl} {ks : List Prd} (h : x.z false = .mk k c r v o l ks 0) : ∃ la lc ka kc kids p, x = .mk k c r v o la lc l ka kc kids p ∧ kids.map (Pm.z false) = ks := by
  obtain ⟨k', c', r', v', o', la, lc, l', ka, kc, ks', p'⟩ := x
  simp only [Pm.z, Bool.false_eq_true, if_false, Pm.e, Prd.e, Prd.mk.injEq, and_true] at h
  obtain ⟨rfl, rfl, rfl, rfl, rfl, rfl, h7⟩ := h
  refine ⟨la, lc, ka, kc, ks', p', rfl, ?_⟩
  rw [← h7, Pm.es_map, Prd.es_map, List.map_map]; rfl
theorem two_kids {kids : List Pm} {p q : Prd} (h : kids.map (Pm.z false) = [p, q]) : ∃ x y, kids = [x, y] ∧ x.z false = p ∧ y.z false = q := by
  match kids, h with
  | [x, y], h => simp only [List.map_cons, List.map_nil, List.cons.injEq, and_true] at h; exact ⟨x, y, rfl, h.1, h.2⟩
  | [], h => simp at h
  | [_], h => simp at h
  | _ :: _ :: _ :: _, h => simp at h
def Prd.kd : Prd → Nat | .mk k _ _ _ _ _ _ _ => k
theorem Pm.z_kd {x : Pm} {p : Prd} (h : x.z false = p) : x.c[0]? = some (.int .i64 p.kd) := by
  subst h
  obtain ⟨k', c', r', v', o', la, lc, l', ka, kc, ks', p'⟩ := x
  rfl
/-- One of two kids, in memory. -/
theorem pair_mem {S : Nat → Prop} {w : World} {x : Pm} {k : Nat} {p q : Prd} (hx : x.z false = jP k p q) (hS : PmS S w x) : ∃ b o kc la lc pp x1 x2, x = .mk k ⟨#[]⟩ 0 ⟨0, 0, ⟨#[]⟩⟩ ⟨#[]⟩ la lc [] (some ⟨b, o, none⟩) kc [x1, x2] pp ∧ 2 ≤ kc ∧ w.cell? ⟨b, o, none⟩ = some (.int .i64 p.kd) ∧ w.cell? ⟨b, o + 10, none⟩ = some (.int .i64 q.kd) := by
  obtain ⟨la, lc, ka, kc, kids, pp, rfl, hk⟩ := Pm.z_mk hx
  obtain ⟨x1, x2, rfl, h1, h2⟩ := two_kids hk
  obtain ⟨_, _, hK, hKl, _⟩ := hS
  obtain ⟨b, o, rfl, _, hc⟩ := kids_cells hK (by simp)
  refine ⟨b, o, kc, la, lc, pp, x1, x2, rfl, hKl, ?_, ?_⟩
  · have := hc 0 (by simp) 0 _ (Pm.z_kd h1); simpa using this
  · have := hc 1 (by simp) 0 _ (Pm.z_kd h2); simpa using this
mutual
theorem Prd.n_z : ∀ p : Prd, p.e.n = p.n
  | .mk _ _ _ _ _ _ ks _ => by rw [Prd.e, Prd.n, Prd.n, Prd.ns_z ks]
theorem Prd.ns_z : ∀ l : List Prd, Prd.ns (Prd.es l) = Prd.ns l
  | [] => rfl
  | x :: r => by rw [Prd.es, Prd.ns, Prd.ns, Prd.n_z x, Prd.ns_z r]
end
theorem Pm.n_zz (x : Pm) : x.n = (x.z false).n := by
  rw [Pm.n_e, Pm.z, if_neg (by decide), Prd.n_z]
/-- A predicate stored in a new variable. -/
def put10 (w : World) (x : Pm) : World := (w.alloc (.cells z10 31)).setRow w.heap.size x.c.toArray
theorem put10_grown (w : World) (x : Pm) : w.grownBy (put10 w x) none := grown_thenX (World.grownBy_alloc w (.cells z10 31) none) (grown_setRow _ w.heap.size x.c.toArray) (fun j e => by cases e; exact Nat.le_refl _)
theorem put10_blk (w : World) (x : Pm) : (put10 w x).heap[w.heap.size]? = some (.cells x.c.toArray 31 (0, 0)) := setRow_heap _ _ z10 _ _ _ (heap_alloc_new w (.cells z10 31))
theorem where_cond (G : Nat) (n g m l : Addr) (s : ByteArray) (w : World) (hE : LxEnv G n g m l w) (p : Prd) (hp : condE (parseL (preX s)) = some p) : Calls Tryz.prog 19 #[.string s] w fun e w' => ∃ x : Pm, e = .returned (.tuple #[x.v, .bool true]) ∧ x.z false = p ∧ PmS (fun j => w.heap.size ≤ j) w' x ∧ w.grownBy w' none := by
  obtain ⟨q, hq, hc⟩ := condE_ok hp
  refine (where_ok G n g m l s w hE q hq).mono ?_
  rintro e w' ⟨x, rfl, h1, h2, h3⟩
  exact ⟨x, rfl, by rw [Pm.z, if_neg (by decide), h1, hc], h2, h3⟩
set_option maxRecDepth 100000 in
set_option maxHeartbeats 6400000 in
theorem ParseBinds_walk (G : Nat) (n g m l : Addr) (x : Int) (w : World) (hE : LxEnv G n g m l w) :
    Calls Tryz.prog 4 #[.int .u8 x] w fun e w' => e = .returned (.bool true) ∧ w.grownBy w' none := by
  have HA := Lib.hid (fun W (hW : w.grownBy W none) => awake11_any G n g m l W (hE.keep hW))
  obtain ⟨b0, hb0⟩ : ∃ b, (bits BinOp.and .u8 x 1 == 1) = b := ⟨_, rfl⟩
  obtain ⟨b1, hb1⟩ : ∃ b, (bits BinOp.and .u8 (x / 2) 1 == 1) = b := ⟨_, rfl⟩
  obtain ⟨b2, hb2⟩ : ∃ b, (bits BinOp.and .u8 (x / 4) 1 == 1) = b := ⟨_, rfl⟩
  have HN0 := Lib.hid (not0_any x b0 hb0)
  have HN1 := Lib.hid (not1_any x b1 hb1)
  have HN2 := Lib.hid (not2_any x b2 hb2)
  have HX := Lib.hid (fun W (hW : w.grownBy W none) => where_cond G n g m l _ W (hE.keep hW) _ (bind_x b0 b1 b2))
  have HY := Lib.hid (fun W (hW : w.grownBy W none) => where_cond G n g m l _ W (hE.keep hW) _ (bind_y b0 b1 b2))
  have HZ := Lib.hid (fun W (hW : w.grownBy W none) => where_cond G n g m l _ W (hE.keep hW) _ (bind_z b0 b1 b2))
  unfold bindX at HX
  unfold bindY at HY
  unfold bindZ at HZ
  have s0 : (nw b0 wA).size ≤ 20 := by cases b0 <;> decide
  have s1 : (nw b1 wB).size ≤ 20 := by cases b1 <;> decide
  have s2 : (nw b2 wC).size ≤ 20 := by cases b2 <;> decide
  generalize nw b0 wA = tA at *
  generalize nw b1 wB = tB at *
  generalize nw b2 wC = tC at *
  have B0 := Lib.hid (heap_alloc_new w (.cells #[.int .u8 x] 5))
  have G0 := Lib.hid (World.grownBy_alloc w (.cells #[.int .u8 x] 5) none)
  clear hE
  go_enter Tryz.func4, Tryz.ntmps4
  go_wp2_with fail
  refine (HA.out _ G0.out).mono ?_
  rintro e w1 ⟨rfl, hg⟩
  have B1 := Lib.hid (blk_grown hg B0.out)
  have G1 := Lib.hid (G0.out.trans hg)
  clear hg
  go_upto_region 4 with fail
  go_cut [4] from 11 (fun s4 wx => s4 = .func (.func 18) #[] #[.pointer (some ⟨w.heap.size, 0, none⟩), .pointer (some ⟨w1.heap.size, 0, none⟩)] ∧ Hid (WdAt x w.heap.size w1.heap.size wx ∧ w.grownBy wx none))
  case first =>
    go_wp2_with fail
    go_meet
    refine ⟨rfl, Lib.hid ⟨?_, G1.out.trans (World.grownBy_alloc w1 _ none)⟩⟩
    have hb := World.grownBy_alloc w1 (.cells #[.string ⟨#[97, 32, 61, 32, 49]⟩, .string ⟨#[98, 32, 61, 32, 50]⟩, .string ⟨#[99, 32, 61, 32, 51]⟩] 43) none
    exact ⟨hb.cell (show w1.cell? ⟨w.heap.size, 0, none⟩ = _ from cell_of_row _ _ 0 _ _ _ B1.out) (by simp), cells3 (heap_alloc_new w1 _)⟩
  case rest =>
  obtain ⟨rfl, HW⟩ := hcut
  have HWd := Lib.hid HW.out.1
  have G2 := Lib.hid HW.out.2
  clear HW
  have L0 := Lib.hid (fun W (hW : wc.grownBy W none) => HN0.out _ _ W (HWd.out.keep hW))
  have L1 := Lib.hid (fun W (hW : wc.grownBy W none) => HN1.out _ _ W (HWd.out.keep hW))
  have L2 := Lib.hid (fun W (hW : wc.grownBy W none) => HN2.out _ _ W (HWd.out.keep hW))
  clear HN0 HN1 HN2
  go_wp2_with fail
  refine (L0.out _ (grown_reflX _ _)).mono ?_
  rintro e w2 ⟨rfl, rfl⟩
  go_wp2_with fail
  refine (L1.out _ (grown_reflX _ _)).mono ?_
  rintro e w2 ⟨rfl, rfl⟩
  go_wp2_with fail
  refine (L2.out _ (grown_reflX _ _)).mono ?_
  rintro e w2 ⟨rfl, rfl⟩
  go_wp2_with fail
  refine (HX.out _ G2.out).mono ?_
  rintro e w3 ⟨X, rfl, hX, hXS, hg⟩
  have HX1 := Lib.hid (And.intro hX hXS)
  have C3 := Lib.hid hg
  clear hX hXS hg
  go_upto_region 6 with (refine wpList_store_row rfl 31 (.tmp 5) (.tmp 27) rfl w3.heap.size X.c.toArray rfl rfl 31 z10 (heap_alloc_new w3 (.cells z10 31)) (by rw [Pm.c_size]; exact pred_size) (by rw [Pm.c_size]; rfl) (Pm.c_all _) ?_)
  obtain ⟨w4, hw4⟩ : ∃ w4, w4 = put10 w3 X := ⟨_, rfl⟩
  have P4 := Lib.hid (put10_blk w3 X)
  have C4 := Lib.hid (C3.out.trans (put10_grown w3 X))
  have D4 := Lib.hid (put10_grown w3 X)
  change Code.wp _ _ _ _ (put10 w3 X)
  rw [← hw4] at P4 C4 D4 ⊢
  clear hw4
  go_wp2_with fail
  refine (L0.out _ C4.out).mono ?_
  rintro e w2 ⟨rfl, rfl⟩
  go_wp2_with fail
  refine (L1.out _ C4.out).mono ?_
  rintro e w2 ⟨rfl, rfl⟩
  go_wp2_with fail
  refine (L2.out _ C4.out).mono ?_
  rintro e w2 ⟨rfl, rfl⟩
  go_wp2_with fail
  refine (HY.out _ (G2.out.trans C4.out)).mono ?_
  rintro e w5 ⟨Y, rfl, hY, hYS, hg⟩
  have HY1 := Lib.hid (And.intro hY hYS)
  have Ew5 := Lib.hid hg
  clear hY hYS hg
  go_upto_region 7 with (refine wpList_store_row rfl 31 (.tmp 7) (.tmp 43) rfl w5.heap.size Y.c.toArray rfl rfl 31 z10 (heap_alloc_new w5 (.cells z10 31)) (by rw [Pm.c_size]; exact pred_size) (by rw [Pm.c_size]; rfl) (Pm.c_all _) ?_)
  obtain ⟨w6, hw⟩ : ∃ w', w' = put10 w5 Y := ⟨_, rfl⟩
  have Pw6 := Lib.hid (put10_blk w5 Y)
  have Dw6 := Lib.hid (put10_grown w5 Y)
  change Code.wp _ _ _ _ (put10 w5 Y)
  rw [← hw] at Pw6 Dw6 ⊢
  clear hw
  have Cw6 := Lib.hid (C4.out.trans (Ew5.out.trans Dw6.out))
  go_wp2_with fail
  refine (L0.out _ Cw6.out).mono ?_
  rintro e w2 ⟨rfl, rfl⟩
  go_wp2_with fail
  refine (L1.out _ Cw6.out).mono ?_
  rintro e w2 ⟨rfl, rfl⟩
  go_wp2_with fail
  refine (L2.out _ Cw6.out).mono ?_
  rintro e w2 ⟨rfl, rfl⟩
  go_wp2_with fail
  refine (HZ.out _ (G2.out.trans Cw6.out)).mono ?_
  rintro e w7 ⟨Z, rfl, hZ, hZS, hg⟩
  have HZ1 := Lib.hid (And.intro hZ hZS)
  have Ew7 := Lib.hid hg
  clear hZ hZS hg
  go_upto_region 8 with (refine wpList_store_row rfl 31 (.tmp 9) (.tmp 58) rfl w7.heap.size Z.c.toArray rfl rfl 31 z10 (heap_alloc_new w7 (.cells z10 31)) (by rw [Pm.c_size]; exact pred_size) (by rw [Pm.c_size]; rfl) (Pm.c_all _) ?_)
  obtain ⟨w8, hw⟩ : ∃ w', w' = put10 w7 Z := ⟨_, rfl⟩
  have Pw8 := Lib.hid (put10_blk w7 Z)
  have Dw8 := Lib.hid (put10_grown w7 Z)
  change Code.wp _ _ _ _ (put10 w7 Z)
  rw [← hw] at Pw8 Dw8 ⊢
  clear hw
  have Cw8 := Lib.hid (Cw6.out.trans (Ew7.out.trans Dw8.out))
  have hX := HX1.out.1
  have hY := HY1.out.1
  have hZ := HZ1.out.1
  have g48 := Dw6.out
  have g4 : w4.grownBy w8 none := Ew5.out.trans (Dw6.out.trans (Ew7.out.trans Dw8.out))
  have g6 : w6.grownBy w8 none := Ew7.out.trans Dw8.out
  have sX := HX1.out.2.keep (.of (D4.out.trans g4))
  have sY := HY1.out.2.keep (.of (Dw6.out.trans g6))
  have sZ := HZ1.out.2.keep (.of Dw8.out)
  have PX := blk_grown g4 P4.out
  have PY := blk_grown g6 Pw6.out
  have PZ := Pw8.out
  have nX : X.n ≤ 1000 := by rw [Pm.n_zz, hX]; cases b0 <;> cases b1 <;> cases b2 <;> decide
  have HS1 := Lib.hid (fun W (hW : w8.grownBy W none) => samePred_any _ X Y W ((sX.mono (S' := fun _ => True) (fun _ _ _ => trivial)).keep (.of hW)) ((sY.mono (S' := fun _ => True) (fun _ _ _ => trivial)).keep (.of hW)) nX)
  have HS2 := Lib.hid (fun W (hW : w8.grownBy W none) => samePred_any _ X Z W ((sX.mono (S' := fun _ => True) (fun _ _ _ => trivial)).keep (.of hW)) ((sZ.mono (S' := fun _ => True) (fun _ _ _ => trivial)).keep (.of hW)) nX)
  have hxy : X.z false = Y.z false := hX.trans hY.symm
  have hxz : ¬ X.z false = Z.z false := by
    rw [hX, hZ]
    intro h
    have := congrArg Prd.kd h
    simp [prX, prZ, jP, Prd.kd] at this
  have HE := Lib.hid (And.intro hxy hxz)
  obtain ⟨bx, ox, kx, lax, lcx, px, x1, x2, rfl, hkx, cx1, cx2⟩ := pair_mem (show X.z false = jP 9 (nP b0 (eqP 97 1)) (jP 8 (nP b1 (eqP 98 2)) (nP b2 (eqP 99 3))) from hX) sX
  obtain ⟨by', oy, ky, lay, lcy, py, y1, y2, rfl, _, _, _⟩ := pair_mem (show Y.z false = jP 9 (nP b0 (eqP 97 1)) (jP 8 (nP b1 (eqP 98 2)) (nP b2 (eqP 99 3))) from hY) sY
  obtain ⟨bz, oz, kz, laz, lcz, pz, z1, z2, rfl, hkz, cz1, cz2⟩ := pair_mem (show Z.z false = jP 8 (jP 9 (nP b0 (eqP 97 1)) (nP b1 (eqP 98 2))) (nP b2 (eqP 99 3)) from hZ) sZ
  have GE := Lib.hid (G2.out.trans Cw8.out)
  have F1 : Hid (w8.cell? ⟨w.heap.size, 0, none⟩ = some (.int .u8 x)) := Lib.hid (Cw8.out.cell HWd.out.1 (by simp))
  have hk0 : (((nP b0 (eqP 97 1)).kd : Int) == 10) = b0 := by cases b0 <;> rfl
  have hk2 : (((nP b2 (eqP 99 3)).kd : Int) == 10) = b2 := by cases b2 <;> rfl
  generalize (nP b0 (eqP 97 1)).kd = kd0 at *
  generalize (nP b2 (eqP 99 3)).kd = kd2 at *
  clear hX hY hZ hxy hxz sX sY sZ HX1 HY1 HZ1 nX g48 P4 Pw6 Pw8 HX HY HZ L0 L1 L2 HA
  have PX : Hid (w8.heap[w3.heap.size]? = some (.cells #[.int .i64 9, .string ⟨#[]⟩, .int .i64 0, .int .i64 0, .int .i64 0, .string ⟨#[]⟩, .string ⟨#[]⟩, .slice lax 0 lcx, .slice (some ⟨bx, ox, none⟩) 2 kx, .int .i64 px] 31 (0, 0))) := Lib.hid PX
  have PY : Hid (w8.heap[w5.heap.size]? = some (.cells #[.int .i64 9, .string ⟨#[]⟩, .int .i64 0, .int .i64 0, .int .i64 0, .string ⟨#[]⟩, .string ⟨#[]⟩, .slice lay 0 lcy, .slice (some ⟨by', oy, none⟩) 2 ky, .int .i64 py] 31 (0, 0))) := Lib.hid PY
  have PZ : Hid (w8.heap[w7.heap.size]? = some (.cells #[.int .i64 8, .string ⟨#[]⟩, .int .i64 0, .int .i64 0, .int .i64 0, .string ⟨#[]⟩, .string ⟨#[]⟩, .slice laz 0 lcz, .slice (some ⟨bz, oz, none⟩) 2 kz, .int .i64 pz] 31 (0, 0))) := Lib.hid PZ
  have HS1 : Hid (∀ W, w8.grownBy W none → Calls Tryz.prog 16 #[.agg #[.int .i64 9, .string ⟨#[]⟩, .int .i64 0, .int .i64 0, .int .i64 0, .string ⟨#[]⟩, .string ⟨#[]⟩, .slice lax 0 lcx, .slice (some ⟨bx, ox, none⟩) 2 kx, .int .i64 px], .agg #[.int .i64 9, .string ⟨#[]⟩, .int .i64 0, .int .i64 0, .int .i64 0, .string ⟨#[]⟩, .string ⟨#[]⟩, .slice lay 0 lcy, .slice (some ⟨by', oy, none⟩) 2 ky, .int .i64 py]] W fun e w' => BoolIs _ e ∧ W.grownBy w' none) := HS1
  have HS2 : Hid (∀ W, w8.grownBy W none → Calls Tryz.prog 16 #[.agg #[.int .i64 9, .string ⟨#[]⟩, .int .i64 0, .int .i64 0, .int .i64 0, .string ⟨#[]⟩, .string ⟨#[]⟩, .slice lax 0 lcx, .slice (some ⟨bx, ox, none⟩) 2 kx, .int .i64 px], .agg #[.int .i64 8, .string ⟨#[]⟩, .int .i64 0, .int .i64 0, .int .i64 0, .string ⟨#[]⟩, .string ⟨#[]⟩, .slice laz 0 lcz, .slice (some ⟨bz, oz, none⟩) 2 kz, .int .i64 pz]] W fun e w' => BoolIs _ e ∧ W.grownBy w' none) := HS2
  have FK := Lib.hid (And.intro cx1 (And.intro cx2 (And.intro cz1 cz2)))
  clear cx1 cx2 cz1 cz2
  obtain ⟨a0, a1, a2, a3, a4, a5, a6, a7, a8, a9⟩ := cells10 PX.out
  obtain ⟨d0, d1, d2, d3, d4, d5, d6, d7, d8, d9⟩ := cells10 PY.out
  go_wp2_with fail
  refine (HS1.out _ (grown_reflX _ _)).mono ?_
  rintro e w9 ⟨⟨r, rfl, hr⟩, hg⟩
  obtain rfl : r = true := hr.2 HE.out.1
  have g89 := hg
  have QX := Lib.hid (blk_grown hg PX.out)
  have QZ := Lib.hid (blk_grown hg PZ.out)
  have G89 := Lib.hid hg
  clear hr hg a0 a1 a2 a3 a4 a5 a6 a7 a8 a9 d0 d1 d2 d3 d4 d5 d6 d7 d8 d9 g89
  obtain ⟨a0, a1, a2, a3, a4, a5, a6, a7, a8, a9⟩ := cells10 QX.out
  obtain ⟨d0, d1, d2, d3, d4, d5, d6, d7, d8, d9⟩ := cells10 QZ.out
  go_wp2_with fail
  refine (HS2.out _ G89.out).mono ?_
  rintro e w10 ⟨⟨r, rfl, hr⟩, hg⟩
  obtain rfl : r = false := by
    cases r with
    | false => rfl
    | true => exact absurd (hr.1 rfl) HE.out.2
  have G90 := Lib.hid (G89.out.trans hg)
  have RX := Lib.hid (blk_grown hg QX.out)
  have RZ := Lib.hid (blk_grown hg QZ.out)
  clear hr hg a0 a1 a2 a3 a4 a5 a6 a7 a8 a9 d0 d1 d2 d3 d4 d5 d6 d7 d8 d9
  obtain ⟨a0, _, _, _, _, _, _, _, a8, _⟩ := cells10 RX.out
  obtain ⟨d0, _, _, _, _, _, _, _, d8, _⟩ := cells10 RZ.out
  have f1 := G90.out.cell F1.out (by simp)
  have c1 := G90.out.cell FK.out.1 (by simp)
  have c2 := G90.out.cell FK.out.2.1 (by simp)
  have c3 := G90.out.cell FK.out.2.2.1 (by simp)
  have c4 := G90.out.cell FK.out.2.2.2 (by simp)
  simp only [jP, Prd.kd] at c1 c2 c3 c4
  have GF := Lib.hid (GE.out.trans G90.out)
  go_wp2_with fail
  go_quiet (fail)
  go_wp2_with fail
  go_ret
  exact ⟨rfl, grown_drewNT GF.out _⟩
end Go.Proofs.YtppigamibgefaaaGreatDoor
namespace Go.Proofs.YtppigamibgefaaaGreatDoor
open Go.RowKit
theorem ParseBinds_any (x : Int) (_ : 0 ≤ x) (_ : x ≤ 255) (W : World) (hL : laidMetH Tryz.prog laid10x W) : Calls Tryz.prog 4 #[.int .u8 x] W fun e W' => e = .returned (.bool true) ∧ Below W.heap.size W W' := by
  obtain ⟨n, g, m, l, hE⟩ := lxEnv_of hL
  exact (ParseBinds_walk _ n g m l x W hE).mono fun _ _ ⟨he, hg⟩ => ⟨he, below_grownL hg⟩
end Go.Proofs.YtppigamibgefaaaGreatDoor
namespace Go.Proofs.YtppigamibgefaaaGreatDoor
open Go.ChangeShapes Go.WideShapes Go.ChangeAt Go.RowKit Go.Joins
open Go.ChangeMaps (open_string shut_string)

set_option maxRecDepth 100000 in
theorem parseBinds_lifted (os : Os) (started : os.Started) (H : Type) (enc : TypeId × Value → H) :
    ReturnsInHanded {} Tryz.checked os 4 .any (fun w args => (Rows.parseBindsSpec.pre enc Tryz.prog Tryz.f4 [] false w args ∧ laidMetH Tryz.prog laid10x w) ∧ sizedMet enc Tryz.prog Tryz.f4 (OpenSpec.ofChange Rows.parseBindsSpec) false w args)
      (Rows.parseBindsSpec.post enc Tryz.prog Tryz.f4 false true false false) := by
  refine returnsInHanded_of_change_and (C := Tryz.checked) (X := fun w _ => laidMetH Tryz.prog laid10x w) (fun _ _ _ hh h => h.of_heap hh) own started (by kernel_rfl) Tryz.func4
    (ChangeSpec.witness_shaped (enc := enc) (C := Tryz.checked) (os := os) (X := fun w _ => laidMetH Tryz.prog laid10x w) false (World.doorLaid Tryz.prog 400 os) #[.int .u8 0] 8 rfl (World.shaped_of_RefB (by kernel_rfl) (by kernel_rfl)) (by kernel_rfl) (by kernel_rfl) (by kernel_rfl) (door_met10x os _)) ?_
  intro W base args ds gs before hval0 hW _ _ hL _
  have hval : ∀ (j : Nat) t v, Tryz.f4.params[j]? = some t → args[j]? = some v → Value.okWide Tryz.prog W .any base t v := hval0
  have hW' := hW
  obtain ⟨p, q, hA0, hV, rfl, hfz, hnd⟩ := hW
  have hA : DataW.TrodAll enc Tryz.prog W 0 (fun _ => true) true Tryz.f4.params.toList args.toList ds p := hA0
  rw [Tryz.params4] at hA hval
  obtain ⟨v0, d0, rfl, rfl, h0⟩ := trodAll_one hA
  obtain ⟨rfl, rfl⟩ := trodVars_none hV
  obtain ⟨n0, rfl, rfl, rfl, wn0⟩ := open_int Tryz.underlying5 (hval 0 5 v0 rfl rfl) h0
  have b0 : 0 ≤ n0 := by
    have h := wn0
    simp [Lit.wf, IntKind.min, IntKind.signed] at h
    omega
  have e0 : n0 ≤ 255 := by
    have h := wn0
    simp [Lit.wf, IntKind.min, IntKind.max, IntKind.signed, IntKind.bits] at h
    omega
  clear hA0 hval0
  simp only [List.append_nil] at hW'
  refine (ParseBinds_any n0 b0 e0 W hL).mono fun e W' ⟨he, hb⟩ => ?_
  subst he
  exact ⟨_, rfl, _, _, _, [], _, [], hW', trodAll_mk1 (shut_bool Tryz.underlying4 _), trodAll_mk1 (shut_int Tryz.underlying5 wn0), rfl, hb.frame _, fun h => by cases h⟩

theorem parseBinds_holds : Rows.ParseBindsSaid :=
  OpenClaim.holds_of_wide 4 Tryz.f4 rfl rfl rfl rfl rfl rfl rfl ⟨rfl, rfl, rfl, rfl, rfl⟩ rfl rfl rfl rfl rfl (by kernel_rfl) Tryz.func4 (by kernel_rfl)
    (of_decide_eq_true (by kernel_rfl)) (by unfold Func.isWrapper; first | (rw [if_pos (by decide +kernel)]; kernel_rfl) | (rw [if_neg (by decide +kernel)]; exact ⟨rfl, rfl⟩))
    (fun os started H enc _ => parseBinds_lifted os started H enc)

theorem parseBinds_card : Rows.ParseBindsCardSaid :=
  Claim7.holds_tied_plain_at .later [] [.data, .data, .data, .handle, .sentinel, .sentinel, .sentinel, .sentinel, .sentinel, .sentinel] true Rows.parseBindsCard.stood.harness true
    parseBinds_holds (fun _ h => by cases h) (by kernel_rfl) (fun _ h => by cases h) parseBinds_row_tie rfl ⟨rfl, rfl⟩ (by kernel_rfl) rfl
    (fun f fn hf hfn => by
      obtain rfl : f = 4 := Option.some.inj ((show Tryz.prog.funcNamed "stillroom/stillroomlaw11.ParseBinds" = some 4 by kernel_rfl).symm.trans hf) |>.symm
      obtain rfl : fn = Tryz.f4 := (Option.some.inj (Tryz.func4.symm.trans hfn)).symm
      exact ⟨by kernel_rfl, fun j t ht => by
        rw [Tryz.params4] at ht
        have hm : t ∈ [5] := by simpa using Array.mem_of_getElem? ht
        have hall : ([5].all fun u => !Tryz.prog.wantsStandIn u) = true := by kernel_rfl
        exact (show Tryz.prog.wantsStandIn t = false by simpa using List.all_eq_true.1 hall t hm)⟩)
    (by kernel_rfl)
#print axioms parseBinds_card
end Go.Proofs.YtppigamibgefaaaGreatDoor
