import Derived.Test.YtfambadamebjjaaZs16
import Derived.Test.YtfambadamebjjaaZs17
import Derived.Test.YtfambadamebjjaaZs01
import Derived.StillTailTactics
import Derived.Deep.RegionHeld
import Derived.Stop.LaidErr
set_option linter.unusedSimpArgs false
set_option linter.unusedVariables false
namespace Go.Proofs.Ytfambadamebjjaa
open Go.RowKit

set_option maxRecDepth 100000 in
set_option maxHeartbeats 800000 in
theorem refRead_open (s : ByteArray) (w : World) (m : Nat) (hs : s.size ≤ 1510) (h1 : (s.toList == [78, 85, 76, 76]) = false) (h2 : (s.toList == [70, 65, 76, 83, 69]) = false) (h3 : (s.toList == [84, 82, 85, 69]) = false)
  (hz : s.size = m + 2) (hf0 : 0 < s.size) (hf1 : m + 1 < s.size) (e39 : ((s[0].toNat : Int)) = 39) (e1 : ((s[m + 1].toNat : Int) == 39) = false) :
  Calls Try.prog 40 #[.string s] w fun e w' => e = .returned (.tuple #[vz, .int .i64 2]) ∧ Below w.heap.size w w' := by
 have hz0 : (0 : Int) < s.size := by omega
 have hz2 : (2 : Int) ≤ s.size := by omega
 have e45 : ((s[0].toNat : Int) == 45) = false := by rw [e39]; rfl
 have e48 : ¬ ((s[0].toNat : Int)) = 48 := by omega
 have p1 : ((s[0].toNat : Int)) < 48 := by omega
 have hb0 : ((0 : Int) == (s.size : Int)) = false := by rw [beq_eq_false_iff_ne]; omega
 go_enter Try.func40, Try.ntmps40
 go_wp2_with fail
 go_loopw [10] (fun i wr => i = .int .i64 0 ∧ RZ w wr) (fun _ _ => 0)
 case atStart => exact ⟨rfl, RZ.begin w⟩
 case round =>
  obtain ⟨rfl, hz4⟩ := hrel
  obtain ⟨c0, c1, c2, f0, f1, f2⟩ := kept3 (b := w.heap.size) (Below.refl _ wr) (by have := hz4.size; omega) hz4.blk
  go_wp2_with fail
  exact bodyPost_ret (v := .tuple #[vz, .int .i64 2]) (by simp [results, Try.results40, go_sem, c0, c1, c2]) rfl ⟨rfl, below_store3 hz4.below (Nat.le_refl _) _ _ _⟩

set_option maxRecDepth 100000 in
set_option maxHeartbeats 800000 in
theorem refRead_one (s : ByteArray) (w : World) (h1 : (s.toList == [78, 85, 76, 76]) = false) (h2 : (s.toList == [70, 65, 76, 83, 69]) = false) (h3 : (s.toList == [84, 82, 85, 69]) = false)
  (hz : s.size = 1) (hf0 : 0 < s.size) (e39 : ((s[0].toNat : Int)) = 39) :
  Calls Try.prog 40 #[.string s] w fun e w' => e = .returned (.tuple #[vz, .int .i64 2]) ∧ Below w.heap.size w w' := by
 have e45 : ((s[0].toNat : Int) == 45) = false := by rw [e39]; rfl
 have e48 : ¬ ((s[0].toNat : Int)) = 48 := by omega
 have p1 : ((s[0].toNat : Int)) < 48 := by omega
 go_enter Try.func40, Try.ntmps40
 go_wp2_with fail
 go_loopw [10] (fun i wr => i = .int .i64 0 ∧ RZ w wr) (fun _ _ => 0)
 case atStart => exact ⟨rfl, RZ.begin w⟩
 case round =>
  obtain ⟨rfl, hz4⟩ := hrel
  obtain ⟨c0, c1, c2, f0, f1, f2⟩ := kept3 (b := w.heap.size) (Below.refl _ wr) (by have := hz4.size; omega) hz4.blk
  go_wp2_with fail
  exact bodyPost_ret (v := .tuple #[vz, .int .i64 2]) (by simp [results, Try.results40, go_sem, c0, c1, c2]) rfl ⟨rfl, below_store3 hz4.below (Nat.le_refl _) _ _ _⟩

theorem head_byte {s : ByteArray} {a : UInt8} {r : List UInt8} (h : s.data.toList = a :: r) (h0 : 0 < s.size) : s[0] = a := by
 have := drop_byte s 0 h0
 rw [List.drop_zero, h] at this
 exact (List.cons.inj this).1.symm
theorem wrB_of_pos {a : UInt8} {r : List UInt8} (h45 : a ≠ 45) : wrB (a :: r) = if a = 48 then (a :: r) == [48] else (a :: r).all digB := by
 have hp : ([45] : List UInt8).isPrefixOf (a :: r) = false := by simp [List.isPrefixOf, Ne.symm h45]
 unfold wrB Lib.trimPrefix Lib.hasPrefix
 rw [hp]
 simp only [Bool.false_eq_true, if_false]
theorem wrB_of_neg {a : UInt8} {r : List UInt8} : wrB (45 :: a :: r) = if a = 48 then false else (a :: r).all digB := by
 have hp : ([45] : List UInt8).isPrefixOf (45 :: a :: r) = true := by simp [List.isPrefixOf]
 unfold wrB Lib.trimPrefix Lib.hasPrefix
 rw [hp]
 simp only [if_true, List.length_cons, List.length_nil, List.drop_succ_cons, List.drop_zero]
 split
 ·simp
 ·rfl
theorem intRes_bad {l : List UInt8} (h : wrB l = false) : intRes l = .tuple #[vz, .int .i64 2] := by unfold intRes; rw [h]; rfl
theorem readB_last {l : List UInt8} (h : ∀ m, l ≠ m ++ [39]) : readB l = none := by
 cases hr : readB l with
 | none => rfl
 | some t => exact absurd (qs_of_readB _ _ _ (Nat.le_refl _) hr) (h (qs t))

theorem refRead_any (s : ByteArray) (w : World) (hs : s.size ≤ 1510) :
  Calls Try.prog 40 #[.string s] w fun e w' => e = .returned (readV s.data.toList) ∧ Below w.heap.size w w' := by
 by_cases n1 : s.data.toList = [78, 85, 76, 76]
 ·exact refRead_word s w (.inl n1)
 by_cases n2 : s.data.toList = [70, 65, 76, 83, 69]
 ·exact refRead_word s w (.inr (.inl n2))
 by_cases n3 : s.data.toList = [84, 82, 85, 69]
 ·exact refRead_word s w (.inr (.inr n3))
 have h1 := bytes_not n1
 have h2 := bytes_not n2
 have h3 := bytes_not n3
 unfold readV
 rw [if_neg n1, if_neg n2, if_neg n3]
 cases hl : s.data.toList with
 | nil =>
  have e : intRes [] = .tuple #[vz, .int .i64 2] := intRes_bad rfl
  simp only [e]
  exact refRead_nil s w h1 h2 h3 (size_list hl)
 | cons a r =>
  have hsz : s.size = r.length + 1 := by rw [size_list hl]; rfl
  have hz0 : 0 < s.size := by omega
  have ha := head_byte hl hz0
  simp only
  by_cases h39 : a = 39
  ·rw [if_pos h39]
   have e39 : ((s[0].toNat : Int)) = 39 := by rw [ha, h39]; rfl
   rcases List.eq_nil_or_concat r with hr | ⟨m, z, hr⟩
   ·have e : textRes (readB r) = .tuple #[vz, .int .i64 2] := by rw [hr, readB_none (by simp) rfl]; rfl
    rw [e]
    exact refRead_one s w h1 h2 h3 (by rw [hsz, hr]; rfl) hz0 e39
   ·rw [List.concat_eq_append] at hr
    by_cases hz : z = 39
    ·rw [hr, hz]
     exact refRead_quoted s w m (by rw [hl, h39, hr, hz]) hs
    ·have hm : r.length = m.length + 1 := by rw [hr]; simp
     have e : textRes (readB r) = .tuple #[vz, .int .i64 2] := by
      rw [readB_last (fun m' h => hz ?_)]
      ·rfl
      ·rw [hr] at h
       have := congrArg List.getLast? h
       simpa using this
     rw [e]
     have hf1 : m.length + 1 < s.size := by omega
     have hlast : s[m.length + 1] = z := by
      have := drop_byte s (m.length + 1) hf1
      rw [hl, hr, List.drop_succ_cons, List.drop_left] at this
      exact (List.cons.inj this).1.symm
     exact refRead_open s w m.length hs h1 h2 h3 (by omega) hz0 hf1 e39 (ne_byte 39 (fun h => hz (by rw [← hlast]; exact UInt8.toNat_inj.1 h)))
  ·rw [if_neg h39, ← hl]
   have e39 : ¬ ((s[0].toNat : Int)) = 39 := by rw [ha]; intro h; exact h39 (UInt8.toNat_inj.1 (show a.toNat = 39 by omega))
   by_cases h45 : a = 45
   ·have e45 : ((s[0].toNat : Int) == 45) = true := by rw [ha, h45]; rfl
    cases hr : r with
    | nil =>
     have e : intRes s.data.toList = .tuple #[vz, .int .i64 2] := by rw [hl, hr, h45]; exact intRes_bad (by decide)
     rw [e]
     exact refRead_minus s w h1 h2 h3 hz0 (by rw [hsz, hr]; rfl) e45
    | cons b t =>
     have hz1 : 1 < s.size := by rw [hsz, hr]; simp
     have hb : s[1] = b := by
      have := drop_byte s 1 hz1
      rw [hl, hr, List.drop_succ_cons, List.drop_zero] at this
      exact (List.cons.inj this).1.symm
     by_cases h48 : b = 48
     ·have e : intRes s.data.toList = .tuple #[vz, .int .i64 2] := by rw [hl, hr, h45]; exact intRes_bad (by rw [wrB_of_neg, if_pos h48])
      rw [e]
      exact refRead_minus0 s w h1 h2 h3 hz0 hz1 e45 (by rw [hb, h48]; rfl)
     ·refine refRead_neg s w hs h1 h2 h3 hz0 hz1 e39 e45 (by rw [hb]; intro h; exact h48 (UInt8.toNat_inj.1 (show b.toNat = 48 by omega))) (Lib.hid ?_) (Lib.hid ?_)
      ·rw [hl, hr, h45, wrB_of_neg, if_neg h48]; rfl
      ·rw [hl, hr, h45]; rfl
   ·have e45 : ((s[0].toNat : Int) == 45) = false := by rw [ha]; exact ne_byte 45 (fun h => h45 (UInt8.toNat_inj.1 h))
    have HI : Hid (ival s.data.toList = (dval (s.data.toList.drop 0) : Int)) := Lib.hid (by rw [List.drop_zero, hl]; simp only [ival, if_neg h45])
    by_cases h48 : a = 48
    ·have e48 : ((s[0].toNat : Int)) = 48 := by rw [ha, h48]; rfl
     cases hr : r with
     | nil =>
      refine refRead_zero s w hs h1 h2 h3 hz0 e39 e45 e48 (by rw [hsz, hr]; decide) (Lib.hid ?_) HI
      rw [List.drop_zero, hl, hr, h48]; decide
     | cons b t =>
      have e : intRes s.data.toList = .tuple #[vz, .int .i64 2] := by rw [hl, hr, h48]; exact intRes_bad (by rw [wrB_of_pos (by decide), if_pos rfl]; simp)
      rw [e]
      exact refRead_lead s w h1 h2 h3 hz0 (by rw [hsz, hr]; simp; omega) e48
    ·have e48 : ¬ ((s[0].toNat : Int)) = 48 := by rw [ha]; intro h; exact h48 (UInt8.toNat_inj.1 (show a.toNat = 48 by omega))
     have HW : Hid (wrB s.data.toList = (s.data.toList.drop 0).all digB) := Lib.hid (by rw [List.drop_zero, hl, wrB_of_pos h45, if_neg h48])
     by_cases hz2 : (2 : Int) ≤ s.size
     ·exact refRead_pos s w hs h1 h2 h3 hz0 e39 e45 e48 hz2 HW HI
     ·exact refRead_pos1 s w hs h1 h2 h3 hz0 e39 e45 e48 (by omega) HW HI
end Go.Proofs.Ytfambadamebjjaa
namespace Go.Proofs.Ytfambadamebjjaa
open Go.RowKit

theorem grown_below6 {w w' : World} (h : Below w.heap.size w w') (row : Option Nat) : w.grownBy w' row := ⟨h.os, h.tape, h.output, h.size, fun i hi _ => h.block i hi⟩
structure Vv where
 k : Int
 n : Int
 s : ByteArray
instance : Inhabited Vv := ⟨⟨0, 0, ⟨#[]⟩⟩⟩
def Vv.good (v : Vv) : Bool := goodB v.k v.n v.s
def holdsB (c : Cl) (v : Vv) : Bool := v.good && (decide (v.k = c.k) || (decide (v.k = 0) && c.b))
end Go.Proofs.Ytfambadamebjjaa
namespace Go.Proofs.Ytfambadamebjjaa
open Go.RowKit

structure Rw where
 a : Ptr
 cap : Nat
 l : List Vl
instance : Inhabited Rw := ⟨⟨none, 0, []⟩⟩
def Rw.v (x : Rw) : Value := .slice x.a x.l.length x.cap
end Go.Proofs.Ytfambadamebjjaa
namespace Go.Proofs.Ytfambadamebjjaa
open Go.RowKit

theorem grown_setX {w w' : World} {b : Nat} (h : w.grownBy w' (some b)) (i : Nat) (v : Value) : w.grownBy (w'.setCell ⟨b, i, none⟩ v) (some b) := by
 refine ⟨h.os, h.tape, h.output, ?_, fun k hk hne => ?_⟩
 ·have := h.size; simpa using this
 ·have e : k ≠ b := fun e => hne (by rw [e])
  rw [Below.heap_setCell _ _ _ _ e]
  exact h.block k hk hne
def nxt (s : ByteArray) (k : Nat) : Nat := k + runL blankB (s.data.toList.drop k)
theorem nxt_le (s : ByteArray) (k : Nat) (h : k ≤ s.size) : k ≤ nxt s k ∧ nxt s k ≤ s.size := by
 have := runL_le blankB (s.data.toList.drop k)
 rw [List.length_drop, Array.length_toList] at this
 have e : s.data.size = s.size := rfl
 unfold nxt; omega
theorem grown_setnewX {w w' : World} {row : Option Nat} (h : w.grownBy w' row) {b : Nat} (hb : w.heap.size ≤ b) (i : Nat) (v : Value) : w.grownBy (w'.setCell ⟨b, i, none⟩ v) row := by
 refine ⟨h.os, h.tape, h.output, ?_, fun k hk hne => ?_⟩
 ·have := h.size; simpa using this
 ·have e : k ≠ b := by omega
  rw [Below.heap_setCell _ _ _ _ e]
  exact h.block k hk hne
end Go.Proofs.Ytfambadamebjjaa
