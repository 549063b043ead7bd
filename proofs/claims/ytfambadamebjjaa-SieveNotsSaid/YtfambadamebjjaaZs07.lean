import Derived.Test.YtfambadamebjjaaZs06
import Derived.Test.YtfambadamebjjaaZs03
import Derived.Lib.SliceRun
import Derived.Lib.AtoiAll
import Derived.Lib.Strings
import Derived.Lib.Tables
import Derived.Lib.Bytealg
import Derived.Deep.RegionWith
import Derived.Deep.RegionHeld3
import Derived.BigQuiet
import Derived.StillTailTactics
set_option linter.unusedSimpArgs false
set_option linter.unusedVariables false
namespace Go.Proofs.Ytfambadamebjjaa
open Go.RowKit

def inT (v : Vl) (l : List Vl) : Int := joinT 1 0 (l.map (ofT 1 v))

theorem ints2_new (w : World) (x y : Int) (T : TypeId) : IntsAt .i64 (w.alloc (.cells #[.int .i64 x, .int .i64 y] T)) (some ⟨w.heap.size, 0, none⟩) [x, y] := by
 refine ⟨by simp, .inr ⟨w.heap.size, 0, rfl, by simp, fun i hi => ?_⟩⟩
 have e : (w.alloc (.cells #[.int .i64 x, .int .i64 y] T)).heap[w.heap.size]? = some (.cells #[.int .i64 x, .int .i64 y] T) := heap_new _ _
 simp only [World.cell?, e]
 match i, hi with
 | 0, _ => simp
 | 1, _ => simp
theorem or2_any (x y : Int) (w : World) :
  Calls Try.prog 64 #[.slice (some ⟨w.heap.size, 0, none⟩) 2 2] (w.alloc (.cells #[.int .i64 x, .int .i64 y] 43)) fun e w' => e = .returned (.int .i64 (joinT 1 0 [x, y])) ∧ w.alloc (.cells #[.int .i64 x, .int .i64 y] 43) = w' :=
 or_any' (some ⟨w.heap.size, 0, none⟩) 2 [x, y] _ (ints2_new w x y _)
theorem or0_any (w : World) : Calls Try.prog 64 #[.slice none 0 0] w fun e w' => e = .returned (.int .i64 0) ∧ w = w' :=
 or_any' none 0 [] w ⟨by simp, .inl rfl⟩

theorem or_more (m : List Int) (y : Int) : joinT 1 0 [joinT 1 0 m, y] = joinT 1 0 (m ++ [y]) := by
 unfold joinT
 by_cases h1 : (1 : Int) ∈ m
 ·simp [h1]
 ·by_cases h2 : (2 : Int) ∈ m
  ·simp [h1, h2]
  ·simp [h1, h2]
theorem take_vl {l : List Vl} {k : Nat} {x : Vl} (f : Vl → Int) (h : k < l.length) (hx : l.getD k default = x) : (l.take (k + 1)).map f = (l.take k).map f ++ [f x] := by
 rw [List.take_succ_eq_append_getElem h]
 simp only [List.getD, List.getElem?_eq_getElem h, Option.getD_some] at hx
 simp [hx]

theorem eq_any (v x : Vl) (w : World) :
  Calls Try.prog 80 #[.int .i64 1, .agg #[.int .i64 v.k, .int .i64 v.n, .string v.s], .agg #[.int .i64 x.k, .int .i64 x.n, .string x.s]] w fun e w' => e = .returned (.tuple #[.int .i64 (ofT 1 v x), .int .i64 0]) ∧ Below w.heap.size w w' := of_any 1 v x w

set_option maxHeartbeats 1600000 in
theorem in_any (v : Vl) (a : Option Addr) (cap : Nat) (l : List Vl) (w : World) (h : RowAt w a l) :
  Calls Try.prog 81 #[.agg #[.int .i64 v.k, .int .i64 v.n, .string v.s], .slice a l.length cap] w fun e w' => e = .returned (.int .i64 (inT v l)) ∧ Below w.heap.size w w' := by
 have hm := h.1
 have H := Lib.hid h
 clear h
 have HI := Lib.hid (show inT v l = joinT 1 0 (l.map (ofT 1 v)) from rfl)
 generalize inT v l = r at *
 have HE := Lib.hid (eq_any v)
 generalize hf : ofT 1 v = f at *
 clear hf
 generalize v.k = vk at *
 generalize v.n = vn at *
 generalize v.s = vs at *
 generalize hlen : l.length = len at *
 have Hlen := Lib.hid hlen
 clear hlen
 go_enter Try.func81, Try.ntmps81
 go_wp2_with fail
 refine (or0_any _).mono ?_
 rintro e w1 ⟨rfl, rfl⟩
 go_wp2_with fail
 go_loopw [5, 13] (fun o i wr => ∃ (k : Nat) (x : Int), k ≤ len ∧ i = .int .i64 k ∧ o = .int .i64 x ∧ Hid (x = joinT 1 0 ((l.take k).map f)) ∧ Hid (Ran w 1 wr ∧ wr.cell? ⟨w.heap.size, 0, none⟩ = some (.int .i64 vk) ∧ wr.cell? ⟨w.heap.size, 1, none⟩ = some (.int .i64 vn) ∧ wr.cell? ⟨w.heap.size, 2, none⟩ = some (.string vs))) (fun _ i _ => len - (intOf i).toNat)
 case atStart => exact ⟨0, 0, Nat.zero_le _, rfl, rfl, Lib.hid (by simp [joinT]), Lib.hid (start3 w _ _ _ _)⟩
 case round =>
  obtain ⟨k, o, hk, rfl, rfl, ho, K⟩ := hrel
  by_cases hlt : k < len
  ·obtain ⟨b, off, rfl, hbs, c0, c1, c2⟩ := (H.out.keep K.out.1.1).at (i := k) (by rw [Hlen.out]; exact hlt)
   generalize hx : l.getD k default = x at *
   have Hx := Lib.hid hx
   clear hx
   obtain ⟨rn, d0, d1, d2⟩ := K.out
   have Rn := Lib.hid rn
   clear rn
   have Hn : Hid (joinT 1 0 [o, f x] = joinT 1 0 ((l.take (k + 1)).map f)) := Lib.hid (by rw [ho.out, or_more, take_vl f (by rw [Hlen.out]; exact hlt) Hx.out])
   have HEx : Hid (∀ w, Calls Try.prog 80 #[.int .i64 1, .agg #[.int .i64 vk, .int .i64 vn, .string vs], .agg #[.int .i64 x.k, .int .i64 x.n, .string x.s]] w fun e w' => e = .returned (.tuple #[.int .i64 (f x), .int .i64 0]) ∧ Below w.heap.size w w') := Lib.hid fun w => HE.out x w
   have HO := Lib.hid (fun w => or2_any o (f x) w)
   generalize f x = y at *
   generalize hz : joinT 1 0 [o, y] = z at *
   clear hz
   have hW : w.heap.size < wr.heap.size := Rn.out.2
   go_wp2_with fail
   refine (HEx.out _).mono ?_
   rintro e w1 ⟨rfl, hb⟩
   have K1 := Lib.hid (keep3 K.out (((Below.refl wr.heap.size wr).alloc (Nat.le_refl _) _).trans (hb.mono (by simp))))
   go_wp2_with fail
   refine (HO.out _).mono ?_
   rintro e w2 ⟨rfl, rfl⟩
   have K2 := Lib.hid (keep3 K1.out ((Below.refl w1.heap.size w1).alloc (Nat.le_refl _) (.cells #[.int .i64 o, .int .i64 y] 43)))
   go_wp2_with fail
   go_roundw
   case rel => exact ⟨k + 1, z, by omega, by go_num, rfl, Hn, K2⟩
   case measure => simp [intOf]; omega
  ·obtain rfl : k = len := by omega
   go_wp2_with fail
   go_ret
   exact ⟨ret_int (by rw [HI.out, ho.out, List.take_of_length_le (by rw [Hlen.out]; exact Nat.le_refl _)]), K.out.1.1⟩

theorem refEq_any (v x : Vl) (w : World) (gv : v.good = true) (gx : x.good = true) (sv : v.s.size ≤ maxLen) :
  Calls Try.prog 20 #[.int .i64 1, .agg #[.int .i64 v.k, .int .i64 v.n, .string v.s], .agg #[.int .i64 x.k, .int .i64 x.n, .string x.s]] w fun e w' => e = .returned (.tuple #[.int .i64 (ofT 1 v x), .bool true]) ∧ Below w.heap.size w w' := refOf_any 1 v x w gv gx sv
set_option maxHeartbeats 1600000 in
theorem refIn_any (v : Vl) (a : Option Addr) (cap : Nat) (l : List Vl) (w : World) (h : RowAt w a l) (gv : v.good = true) (gl : l.all Vl.good = true) (sv : v.s.size ≤ maxLen) (h1000 : l.length ≤ 1000) :
  Calls Try.prog 21 #[.agg #[.int .i64 v.k, .int .i64 v.n, .string v.s], .slice a l.length cap] w fun e w' => e = .returned (.int .i64 (inT v l)) ∧ Below w.heap.size w w' := by
 have H := Lib.hid h
 clear h
 have HI := Lib.hid (show inT v l = joinT 1 0 (l.map (ofT 1 v)) from rfl)
 generalize inT v l = r at *
 have HE := Lib.hid (fun k (hk : k < l.length) w => refEq_any v (l.getD k default) w gv (good_at gl hk) sv)
 clear gv gl sv
 generalize hf : ofT 1 v = f at *
 clear hf
 generalize v.k = vk at *
 generalize v.n = vn at *
 generalize v.s = vs at *
 generalize hlen : l.length = len at *
 have Hlen := Lib.hid hlen
 clear hlen
 obtain ⟨i0, hi, hz0, hz1, hz2⟩ := info_parts truth_info
 go_enter Try.func21, Try.ntmps21
 go_wp2_with fail
 go_loopw [5, 11] (fun o i wr => ∃ (k : Nat) (full : List Int), k ≤ len ∧ i = .int .i64 k ∧ Hid (full = (l.take k).map f) ∧ Hid (OwnInts (w.alloc (.cells #[.int .i64 vk, .int .i64 vn, .string vs] 31)) full o k wr)) (fun _ i _ => len - (intOf i).toNat)
 case atStart => exact ⟨0, [], Nat.zero_le _, rfl, Lib.hid (by simp), Lib.hid (OwnInts.begin _ _ (Below.refl _ _))⟩
 case round =>
  obtain ⟨k, full, hk, rfl, hf, Ho⟩ := hrel
  obtain ⟨ao, cp, rfl⟩ := Ho.out.slice
  obtain ⟨d0, d1, d2, hW, hbl⟩ := cells1 Ho.out.below
  by_cases hlt : k < len
  ·obtain ⟨b, off, rfl, hbs, c0, c1, c2⟩ := (H.out.keep hbl).at (i := k) (by rw [Hlen.out]; exact hlt)
   have HEx := Lib.hid (fun w => HE.out k hlt w)
   generalize hx : l.getD k default = x at *
   have Hx := Lib.hid hx
   clear hx
   have Hn : Hid (full ++ [f x] = (l.take (k + 1)).map f) := Lib.hid (by rw [hf.out, take_vl f (by rw [Hlen.out]; exact hlt) Hx.out])
   generalize f x = y at *
   have hbw : w.heap.size < wr.heap.size := hW
   go_wp2_with fail
   go_region_held3 (fun w' => w'.cell? ⟨b, off + k * 3, none⟩ = some (.int .i64 x.k) ∧ w'.cell? ⟨b, off + k * 3 + 1, none⟩ = some (.int .i64 x.n) ∧ w'.cell? ⟨b, off + k * 3 + 2, none⟩ = some (.string x.s) ∧ w'.cell? ⟨w.heap.size, 0, none⟩ = some (.int .i64 vk) ∧ w'.cell? ⟨w.heap.size, 1, none⟩ = some (.int .i64 vn) ∧ w'.cell? ⟨w.heap.size, 2, none⟩ = some (.string vs)) (first | go_keep | exact ⟨(hb.cell (p := ⟨b, _, none⟩) hbs).trans c0, (hb.cell (p := ⟨b, _, none⟩) hbs).trans c1, (hb.cell (p := ⟨b, _, none⟩) hbs).trans c2, (hb.cell (p := ⟨w.heap.size, _, none⟩) hbw).trans d0, (hb.cell (p := ⟨w.heap.size, _, none⟩) hbw).trans d1, (hb.cell (p := ⟨w.heap.size, _, none⟩) hbw).trans d2⟩) ((go_at_call 20; refine (HEx.out _).mono ?_; rintro e w1 ⟨rfl, hb⟩))
   have Ho1 := Lib.hid (Ho.out.more ((Below.refl _ _).drew.trans hb))
   have hs1 : w.heap.size + 1 ≤ w1.heap.size := by have := Ho1.out.below.size; simpa using this
   go_wp2_with (at_builtin; refine wpList_append_own _ rfl _ _ 60 rfl (w.alloc (.cells #[.int .i64 vk, .int .i64 vn, .string vs] 31)).heap.size 43 i0 (.int .i64 0) 1 8 Try.underlying60 hi hz0 hz1 hz2 rfl (by decide) _ _ _ rfl (Ho1.out.own.alloc _) ⟨w1.heap.size, 0, none⟩ 1 1 [.int .i64 y] rfl rfl ?c1 ?c2 ?c3 ?c4 ?c5 ?_)
   case c1 =>
    intro j u hj
    match j, hj with
    | 0, hj => simp at hj; subst hj; simp [Addr.add]
   case c2 => first | (intro u hu; simp at hu; subst hu; rfl) | rfl
   case c3 => unfold maxLen; omega
   case c4 => omega
   case c5 => first | omega | (simp; omega)
   intro v' w2 hown' hgrow _
   have ho2 := Lib.hid (Ho1.out.step (x := [y]) _ rfl rfl (by first | exact hown' | (rw [World.size_alloc]; exact hown')) hgrow)
   go_wp2_with fail
   go_roundw
   case rel => exact ⟨k + 1, full ++ [y], by omega, by go_num, Hn, ho2⟩
   case measure => simp [intOf]; omega
  ·obtain rfl : k = len := by omega
   have hI := Ho.out.ints (by have := Ho.out.len; omega)
   have hl : full.length = k := Ho.out.len.symm
   have HO : Hid (Calls Try.prog 24 #[.slice ao k cp] wr fun e w' => e = .returned (.int .i64 r) ∧ wr = w') := Lib.hid (by
    have := refOr_any ao cp full wr hI
    rw [hl, hf.out, List.take_of_length_le (by rw [Hlen.out]; exact Nat.le_refl _), ← HI.out] at this
    exact this)
   clear hI hl
   go_wp2_with fail
   refine HO.out.mono ?_
   rintro e w1 ⟨rfl, rfl⟩
   go_wp2_with fail
   go_ret
   exact ⟨rfl, hbl⟩

end Go.Proofs.Ytfambadamebjjaa
namespace Go.Proofs.Ytfambadamebjjaa
open Go.RowKit

def vCT (x : Vl) : List Value := [.int .i64 x.k, .int .i64 x.n, .string x.s]
theorem add_atT (g o j : Nat) : (⟨g, o, none⟩ : Addr).add j = ⟨g, o + j, none⟩ := by
 unfold Addr.add
 split
 ·subst_vars; rfl
 ·rfl
theorem vCT_at (l : List Vl) : ∀ i, i < l.length → (l.flatMap vCT)[i * 3]? = some (.int .i64 (l.getD i default).k) ∧ (l.flatMap vCT)[i * 3 + 1]? = some (.int .i64 (l.getD i default).n) ∧ (l.flatMap vCT)[i * 3 + 2]? = some (.string (l.getD i default).s) := by
 induction l with
 | nil => intro i hi; simp at hi
 | cons x l ih =>
  intro i hi
  rw [List.flatMap_cons]
  match i, hi with
  | 0, _ => exact ⟨rfl, rfl, rfl⟩
  | i + 1, hi =>
   have := ih i (by simpa using hi)
   have e : ∀ o, (vCT x ++ l.flatMap vCT)[(i + 1) * 3 + o]? = (l.flatMap vCT)[i * 3 + o]? := fun o => by
    rw [List.getElem?_append_right (by simp [vCT]; omega)]
    congr 1
    simp [vCT]
    omega
   have e0 := e 0
   simp only [Nat.add_zero] at e0
   rw [e0, e 1, e 2]
   simpa [List.getD] using this
theorem val_infoT : (Try.prog.info? 31).map (fun i => (i.zero, i.size, i.bytes)) = some (some (.agg #[.int .i64 0, .int .i64 0, .string ⟨#[]⟩]), 3, 32) := by kernel_rfl
theorem info_partsT {o : Option TypeInfo} {z : Value} {s b : Nat} (h : o.map (fun i => (i.zero, i.size, i.bytes)) = some (some z, s, b)) : ∃ i, o = some i ∧ i.zero = some z ∧ i.size = s ∧ i.bytes = b := by
 cases o with
 | none => cases h
 | some i => simp at h; exact ⟨i, rfl, h.1, h.2.1, h.2.2⟩
end Go.Proofs.Ytfambadamebjjaa
namespace Go.Proofs.Ytfambadamebjjaa
open Go.RowKit

def digB (c : UInt8) : Bool := decide (48 ≤ c.toNat) && decide (c.toNat ≤ 57)
def wrB (l : List UInt8) : Bool := match Lib.trimPrefix l [45] with
 | [] => false
 | c :: r => if c = 48 then l == [48] else (c :: r).all digB

def dfrom (n : Nat) (l : List UInt8) : Nat := l.foldl (fun n c => 10 * n + (c.toNat - 48)) n
theorem dfrom_cons (n : Nat) (c : UInt8) (l : List UInt8) : dfrom n (c :: l) = dfrom (10 * n + (c.toNat - 48)) l := by unfold dfrom; rw [List.foldl_cons]
theorem dfrom_ge : ∀ (l : List UInt8) (n : Nat), n ≤ dfrom n l
 | [], n => Nat.le_refl _
 | c :: l, n => by rw [dfrom_cons]; have := dfrom_ge l (10 * n + (c.toNat - 48)); omega
theorem digB_iff {c : UInt8} : digB c = true ↔ 48 ≤ c.toNat ∧ c.toNat ≤ 57 := by simp [digB]
def ival (l : List UInt8) : Int := match l with
 | [] => 0
 | c :: r => if c = 45 then -(dval r : Int) else dval (c :: r)
theorem wrB_cases {l : List UInt8} (h : wrB l = true) : (∃ r, l = 45 :: r ∧ r ≠ [] ∧ r.all digB = true ∧ r.head? ≠ some 48) ∨ (l ≠ [] ∧ l.all digB = true ∧ (∀ r, l ≠ 45 :: r)) := by
 unfold wrB Lib.trimPrefix Lib.hasPrefix at h
 cases l with
 | nil => simp at h
 | cons a t =>
  by_cases h45 : a = 45
  ·subst h45
   simp only [List.isPrefixOf, beq_self_eq_true, Bool.true_and, if_true, List.length_cons, List.length_nil, List.drop_succ_cons, List.drop_zero] at h
   cases t with
   | nil => simp at h
   | cons c r =>
    simp only at h
    by_cases h48 : c = 48
    ·rw [if_pos h48] at h
     simp at h
    ·rw [if_neg h48] at h
     exact .inl ⟨c :: r, rfl, by simp, h, by simp [h48]⟩
  ·have hp : ([45] : List UInt8).isPrefixOf (a :: t) = false := by simp [List.isPrefixOf, Ne.symm h45]
   rw [hp] at h
   simp only [Bool.false_eq_true, if_false] at h
   refine .inr ⟨by simp, ?_, fun r e => h45 (List.cons.inj e).1⟩
   by_cases h48 : a = 48
   ·rw [if_pos h48] at h
    have := eq_of_beq h
    rw [this]; decide
   ·rw [if_neg h48] at h; exact h
end Go.Proofs.Ytfambadamebjjaa
namespace Go.Proofs.Ytfambadamebjjaa
open Go.RowKit

end Go.Proofs.Ytfambadamebjjaa
