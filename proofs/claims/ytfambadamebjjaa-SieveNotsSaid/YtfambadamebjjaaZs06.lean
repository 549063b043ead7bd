import Derived.Test.YtfambadamebjjaaZs05
import Derived.Lib.IndexBytes
import Derived.Test.YtfambadamebjjaaZs02
import Derived.Test.YtfambadamebjjaaZs00
import Derived.Deep.AppendLies
import Derived.Maps.AppendAt
import Derived.Test.YtfambadamebjjaaZs04
import Derived.Laws.IdiomStrings
import Derived.Lib.UnsafeStr
set_option linter.unusedSimpArgs false
set_option linter.unusedVariables false
namespace Go.Proofs.Ytfambadamebjjaa
open Go.RowKit

theorem size_list {s : ByteArray} {l : List UInt8} (h : s.data.toList = l) : s.size = l.length := by
 rw [← h, Array.length_toList]; rfl
theorem ne_byte {a : UInt8} (n : Nat) (h : a.toNat ≠ n) : ((a.toNat : Int) == (n : Int)) = false := by rw [beq_eq_false_iff_ne]; omega

end Go.Proofs.Ytfambadamebjjaa
namespace Go.Proofs.Ytfambadamebjjaa
open Go.RowKit

def ofT (r : Int) (x y : Vl) : Int :=
 if relB r = false then 0 else if x.k = 0 then 2 else if y.k = 0 then 2 else if saysB r (x.ord y) = true then 1 else 0
set_option maxHeartbeats 800000 in
theorem of_any (r : Int) (x y : Vl) (w : World) :
  Calls Try.prog 80 #[.int .i64 r, .agg #[.int .i64 x.k, .int .i64 x.n, .string x.s], .agg #[.int .i64 y.k, .int .i64 y.n, .string y.s]] w fun e w' => e = .returned (.tuple #[.int .i64 (ofT r x y), .int .i64 (relE r)]) ∧ Below w.heap.size w w' := by
 have HK := Lib.hid (known_any r)
 have HS := Lib.hid (says_any r (x.ord y))
 have HC := Lib.hid (cmpV_any x y)
 unfold relE ofT
 generalize relB r = rb at *
 generalize saysB r (x.ord y) = q at *
 generalize x.ord y = o at *
 obtain ⟨xk, xn, xs⟩ := x
 obtain ⟨yk, yn, ys⟩ := y
 simp only at *
 cases rb
 ·go_enter Try.func80, Try.ntmps80
  go_wp2_with fail
  refine (HK.out _).mono ?_
  rintro e w1 ⟨rfl, rfl⟩
  go_wp2_with fail
  go_ret2
  exact ⟨by simp, below2 _ _ _⟩
 by_cases hx : xk = 0
 ·have e1 : (xk == 0) = true := by simpa using hx
  subst hx
  go_enter Try.func80, Try.ntmps80
  go_wp2_with fail
  refine (HK.out _).mono ?_
  rintro e w1 ⟨rfl, rfl⟩
  go_wp2_with fail
  go_ret2
  exact ⟨by simp, below2 _ _ _⟩
 have e1 : (xk == 0) = false := by simpa using hx
 by_cases hy : yk = 0
 ·have e2 : (yk == 0) = true := by simpa using hy
  subst hy
  have Hx := Lib.hid hx
  clear hx
  go_enter Try.func80, Try.ntmps80
  go_wp2_with fail
  refine (HK.out _).mono ?_
  rintro e w1 ⟨rfl, rfl⟩
  go_wp2_with fail
  go_ret2
  exact ⟨by simp, below2 _ _ _⟩
 have e2 : (yk == 0) = false := by simpa using hy
 have Hr : Hid ((if true = false then (0 : Int) else if xk = 0 then 2 else if yk = 0 then 2 else if q = true then 1 else 0) = if q = true then 1 else 0) := Lib.hid (by simp [hx, hy])
 cases q
 ·go_enter Try.func80, Try.ntmps80
  go_wp2_with fail
  refine (HK.out _).mono ?_
  rintro e w1 ⟨rfl, rfl⟩
  go_wp2_with fail
  refine (HC.out _).mono ?_
  rintro e w2 ⟨rfl, hb⟩
  go_wp2_with fail
  refine (HS.out _).mono ?_
  rintro e w3 ⟨rfl, rfl⟩
  go_wp2_with fail
  go_ret2
  exact ⟨ret_iii (by first | rfl | (rw [Hr.out]; rfl)) (by simp), (below2 _ _ _).trans (hb.mono (by simp; omega))⟩
 ·go_enter Try.func80, Try.ntmps80
  go_wp2_with fail
  refine (HK.out _).mono ?_
  rintro e w1 ⟨rfl, rfl⟩
  go_wp2_with fail
  refine (HC.out _).mono ?_
  rintro e w2 ⟨rfl, hb⟩
  go_wp2_with fail
  refine (HS.out _).mono ?_
  rintro e w3 ⟨rfl, rfl⟩
  go_wp2_with fail
  go_ret2
  exact ⟨ret_iii (by first | rfl | (rw [Hr.out]; rfl)) (by simp), (below2 _ _ _).trans (hb.mono (by simp; omega))⟩

def b01 (b : Bool) : Int := if b = true then 1 else 0
theorem bool01_any (b : Bool) (w : World) :
  Calls Try.prog 22 #[.bool b] w fun e w' => e = .returned (.int .i64 (b01 b)) ∧ w = w' := bool_any b w
theorem ret_ib {a a' : Int} {b b' : Bool} (h : a = a') (h' : b = b') : Ending.returned (.tuple #[.int .i64 a, .bool b]) = .returned (.tuple #[.int .i64 a', .bool b']) := by rw [h, h']

theorem refCmpV_any (x y : Vl) (w : World) (gx : x.good = true) (gy : y.good = true) (sx : x.s.size ≤ maxLen) :
  Calls Try.prog 45 #[.agg #[.int .i64 x.k, .int .i64 x.n, .string x.s], .agg #[.int .i64 y.k, .int .i64 y.n, .string y.s]] w fun e w' => e = .returned (.int .i64 (x.ord y)) ∧ Below w.heap.size w w' :=
 (refCompare_any x.k x.n x.s y.k y.n y.s w sx).mono fun _ _ ⟨he, hb⟩ => ⟨by rw [he, ordC_ordV gx gy]; rfl, hb⟩

set_option maxHeartbeats 3200000 in
theorem refOf_any (r : Int) (x y : Vl) (w : World) (gx : x.good = true) (gy : y.good = true) (sx : x.s.size ≤ maxLen) :
  Calls Try.prog 20 #[.int .i64 r, .agg #[.int .i64 x.k, .int .i64 x.n, .string x.s], .agg #[.int .i64 y.k, .int .i64 y.n, .string y.s]] w fun e w' => e = .returned (.tuple #[.int .i64 (ofT r x y), .bool (relB r)]) ∧ Below w.heap.size w w' := by
 have HC := Lib.hid (fun w => refCmpV_any x y w gx gy sx)
 clear gx gy sx
 have HT := Lib.hid (show ofT r x y = if relB r = false then 0 else if x.k = 0 then 2 else if y.k = 0 then 2 else if saysB r (x.ord y) = true then 1 else 0 from rfl)
 generalize x.ord y = o at *
 generalize ofT r x y = t at *
 obtain ⟨xk, xn, xs⟩ := x
 obtain ⟨yk, yn, ys⟩ := y
 simp only at *
 by_cases hr' : relB r = false
 ·have hr : ¬ relB r = true := by simp [hr']
  have ht : t = 0 := by rw [HT.out, if_pos hr']
  rw [hr', ht]
  have hc : r < 1 ∨ 6 < r := by simp [relB] at hr; omega
  clear HT ht hr hr'
  go_enter Try.func20, Try.ntmps20
  rcases hc with hc | hc
  all_goals
   go_wp2_with fail
   go_ret2
   exact ⟨rfl, below2 _ _ _⟩
 have hr : relB r = true := by simpa using hr'
 clear hr'
 rw [hr]
 have h1 : 1 ≤ r := by simp [relB] at hr; omega
 have h6 : r ≤ 6 := by simp [relB] at hr; omega
 by_cases hx : xk = 0
 ·have e1 : (xk == 0) = true := by simpa using hx
  have ht : t = 2 := by rw [HT.out, if_neg (by simp [hr]), if_pos hx]
  subst hx ht
  clear HT hr
  go_enter Try.func20, Try.ntmps20
  go_wp2_with fail
  go_ret2
  exact ⟨rfl, below2 _ _ _⟩
 have e1 : (xk == 0) = false := by simpa using hx
 by_cases hy : yk = 0
 ·have e2 : (yk == 0) = true := by simpa using hy
  have ht : t = 2 := by rw [HT.out, if_neg (by simp [hr]), if_neg hx, if_pos hy]
  subst hy ht
  clear HT hr hx
  go_enter Try.func20, Try.ntmps20
  go_wp2_with fail
  go_ret2
  exact ⟨rfl, below2 _ _ _⟩
 have e2 : (yk == 0) = false := by simpa using hy
 have ht : t = if saysB r o = true then 1 else 0 := by rw [HT.out, if_neg (by simp [hr]), if_neg hx, if_neg hy]
 have Ht := Lib.hid ht
 clear HT h1 h6 ht
 have HB := Lib.hid bool01_any
 rcases relB_cases hr with rfl | rfl | rfl | rfl | rfl | rfl
 all_goals clear hr
 all_goals
  go_enter Try.func20, Try.ntmps20
  go_wp2_with fail
  refine (HC.out _).mono ?_
  rintro e w2 ⟨rfl, hb⟩
  go_wp2_with fail
  refine (HB.out _ _).mono ?_
  rintro e w3 ⟨rfl, rfl⟩
  go_wp2_with fail
  go_ret2
  exact ⟨ret_ib (by rw [Ht.out]; simp [saysB, b01]) rfl, ((below2 _ _ _).trans (hb.mono (by simp; omega))).alloc (by have := hb.size; simp at this; omega) _⟩
end Go.Proofs.Ytfambadamebjjaa
namespace Go.Proofs.Ytfambadamebjjaa
open Go.RowKit

theorem grown_reflT (w : World) (row : Option Nat) : w.grownBy w row := ⟨rfl, rfl, rfl, Nat.le_refl _, fun _ _ _ => rfl⟩
theorem grown_drewT {w w' : World} {row : Option Nat} (h : w.grownBy w' row) : w.grownBy w'.drew row := ⟨h.os, h.tape, h.output, h.size, h.block⟩
def RwS (S : Nat → Prop) (w : World) (a : Option Addr) (l : List Vl) : Prop :=
 l.length ≤ 4294967296 ∧ (∀ x ∈ l, x.s.size ≤ maxLen) ∧ (l = [] ∨ ∃ b off, a = some ⟨b, off, none⟩ ∧ S b ∧ b < w.heap.size ∧ ∀ i, i < l.length → w.cell? ⟨b, off + i * 3, none⟩ = some (.int .i64 (l.getD i default).k) ∧ w.cell? ⟨b, off + i * 3 + 1, none⟩ = some (.int .i64 (l.getD i default).n) ∧ w.cell? ⟨b, off + i * 3 + 2, none⟩ = some (.string (l.getD i default).s))
theorem RwS.row {S : Nat → Prop} {w : World} {a : Option Addr} {l : List Vl} (h : RwS S w a l) : RowAt w a l :=
 ⟨by have := h.1; omega, h.2.1, h.2.2.imp id fun ⟨b, off, e, _, hlt, hc⟩ => ⟨b, off, e, hlt, hc⟩⟩
def Stays (S : Nat → Prop) (w w' : World) : Prop := w.heap.size ≤ w'.heap.size ∧ ∀ b, S b → b < w.heap.size → w'.heap[b]? = w.heap[b]?
theorem Stays.of {S : Nat → Prop} {w w' : World} (h : w.grownBy w' none) : Stays S w w' := ⟨h.size, fun b _ hb => h.block b hb (by simp)⟩
theorem RwS.keep {S : Nat → Prop} {w w' : World} {a : Option Addr} {l : List Vl} (h : RwS S w a l) (hk : Stays S w w') : RwS S w' a l := by
 refine ⟨h.1, h.2.1, h.2.2.imp id fun ⟨b, off, e, hs, hlt, hc⟩ => ⟨b, off, e, hs, Nat.lt_of_lt_of_le hlt hk.1, fun i hi => ?_⟩⟩
 have hb := hk.2 b hs hlt
 exact ⟨(World.cell?_of_block (a := ⟨b, _, none⟩) hb).trans (hc i hi).1, (World.cell?_of_block (a := ⟨b, _, none⟩) hb).trans (hc i hi).2.1, (World.cell?_of_block (a := ⟨b, _, none⟩) hb).trans (hc i hi).2.2⟩
theorem RwS.mono {S S' : Nat → Prop} {w : World} {a : Option Addr} {l : List Vl} (h : RwS S w a l) (hs : ∀ b, b < w.heap.size → S b → S' b) : RwS S' w a l :=
 ⟨h.1, h.2.1, h.2.2.imp id fun ⟨b, off, e, h1, h2, hc⟩ => ⟨b, off, e, hs b h2 h1, h2, hc⟩⟩
end Go.Proofs.Ytfambadamebjjaa
namespace Go.Proofs.Ytfambadamebjjaa
open Go.RowKit

theorem slice_of_own {w : World} {B : Nat} {e : TypeId} {v : Value} {n : Nat} {xs : List Value} (h : w.ownsRow B e 1 v n xs) : ∃ ao cap, v = .slice ao n cap := by
 rcases h.2 with ⟨hv, h0⟩ | ⟨g, cap, cur, hv, _⟩
 ·exact ⟨none, 0, by rw [hv, h0]⟩
 ·exact ⟨_, _, hv⟩
theorem conv_own {w : World} {B : Nat} {v : Value} {n : Nat} {l : List UInt8} (h : w.ownsRow B 5 1 v n (Lib.byteCells l)) : (convert 124 9 v).run Try.prog w = .ok (.string ⟨l.toArray⟩) w := by
 have hlen : l.length = n := by have := h.1; rw [Lib.byteCells_length] at this; omega
 rcases h.2 with ⟨rfl, h0⟩ | ⟨g, cap, cur, rfl, _⟩
 ·have : l = [] := List.eq_nil_of_length_eq_zero (by omega)
  subst this
  rw [run_convert_bytes_string w _ _ 5 _ _ _ Try.underlying124 Try.underlying5 Try.underlying9]
  rfl
 ·subst hlen
  refine run_convert_bytes_back w _ _ 5 _ cap l Try.underlying124 Try.underlying5 Try.underlying9 (fun j hj => ?_)
  have := h.cells (g := g) rfl j (.int .u8 l[j].toNat) (by simp [Lib.byteCells, hj])
  simpa [Addr.add] using this

def textRes (o : Option (List UInt8)) : Value := match o with
 | none => .tuple #[vz, .int .i64 2]
 | some t => if t.length ≤ 60 then .tuple #[.agg #[.int .i64 3, .int .i64 0, .string ⟨t.toArray⟩], .int .i64 0] else .tuple #[vz, .int .i64 1]

end Go.Proofs.Ytfambadamebjjaa
