/- tree's From. The contracts of lex's tokens and of the closure that it answers. Windows of elements in memory: what is appended to them, and what is deleted in front. -/
import Derived.Test.YtjaclmoobfeikaaGreatDoorZl19
import Derived.StillTailTactics
import Derived.Deep.RegionHeld
import Derived.Stop.LaidErr
import Derived.ArgAppend
import Derived.Maps.AppendAt
import Derived.Deep.RegionLaw
import Derived.Deep.MidRow
import Derived.Lib.Hide
import Derived.Lib.SliceRun
namespace Go.Proofs.YtjaclmoobfeikaaGreatDoor
open Go.RowKit

/-- A row as a slice. -/
structure Rw where
  a : Ptr
  cap : Nat
  l : List Vl
instance : Inhabited Rw := ⟨⟨none, 0, []⟩⟩
def Rw.v (x : Rw) : Value := .slice x.a x.l.length x.cap
end Go.Proofs.YtjaclmoobfeikaaGreatDoor
namespace Go.Proofs.YtjaclmoobfeikaaGreatDoor
open Go.RowKit

/-- The closure's variables: the place and the text. -/
structure Cur (G ba bt : Nat) (s : ByteArray) (k : Nat) (w : World) : Prop where
  a : w.cell? ⟨ba, 0, none⟩ = some (.int .i64 k)
  fa : w.frozen? ⟨ba, 0, none⟩ = false
  t : w.cell? ⟨bt, 0, none⟩ = some (.string s)
  ne : bt ≠ ba
  ga : G ≤ ba
theorem Cur.keep {G ba bt : Nat} {s : ByteArray} {k : Nat} {w w' : World} (h : Cur G ba bt s k w) (hg : w.grownBy w' none) : Cur G ba bt s k w' :=
  ⟨hg.cell h.a (by simp), (hg.frozen_far ⟨ba, 0, none⟩ (World.block_lt_of_cell? w _ h.a) (by simp)).trans h.fa, hg.cell h.t (by simp), h.ne, h.ga⟩
theorem Cur.set {G ba bt : Nat} {s : ByteArray} {k : Nat} {w : World} (h : Cur G ba bt s k w) (q : Nat) : Cur G ba bt s q (w.setCell ⟨ba, 0, none⟩ (.int .i64 q)) := by
  have hne := h.ne
  refine ⟨World.cell?_setCell_same w _ _ h.a, by rw [World.frozen?_setCell]; exact h.fa, ?_, h.ne, h.ga⟩
  rw [World.cell?_setCell_other _ _ _ _ (by simp; try omega)]; exact h.t
theorem grown_noneX {w w' : World} (h : w.grownBy w' none) (row : Option Nat) : w.grownBy w' row := ⟨h.os, h.tape, h.output, h.size, fun i hi _ => h.block i hi (by simp)⟩
theorem grown_setX {w w' : World} {b : Nat} (h : w.grownBy w' (some b)) (i : Nat) (v : Value) : w.grownBy (w'.setCell ⟨b, i, none⟩ v) (some b) := by
  refine ⟨h.os, h.tape, h.output, ?_, fun k hk hne => ?_⟩
  · have := h.size; simpa using this
  · have e : k ≠ b := fun e => hne (by rw [e])
    rw [Below.heap_setCell _ _ _ _ e]
    exact h.block k hk hne
set_option maxHeartbeats 1600000 in
theorem tokens_any (G : Nat) (s : ByteArray) (w : World) (hG : G ≤ w.heap.size) :
    Calls Tryz.prog 88 #[.string s] w fun e w' => (∃ ba bt, e = .returned (.func (.func 113) #[] #[.pointer (some ⟨ba, 0, none⟩), .pointer (some ⟨bt, 0, none⟩)]) ∧ Cur G ba bt s 0 w' ∧ ba < w'.heap.size ∧ w.heap.size ≤ ba) ∧ w.grownBy w' none := by
  go_enter Tryz.func88, Tryz.ntmps88
  go_wp2_with fail
  go_ret
  refine ⟨⟨w.heap.size + 1, w.heap.size, rfl, ⟨?_, ?_, ?_, ?_, ?_⟩, ?_, ?_⟩, ?_⟩
  · simp
  · simp
  · rw [World.cell?_alloc_lt _ _ ⟨w.heap.size, 0, none⟩ (by simp)]; simp
  · simp
  · omega
  · simp
  · omega
  · exact (World.grownBy_alloc _ _ _).trans (World.grownBy_alloc _ _ _)
theorem region_tail {P : Program} {id : Nat} {Q : Exit → Act → World → Prop} {a : Act} {w : World} {l : List Oper} (n : Nat) (hm : P.follows .mixedOrders = true) (hB : Region.lexTailB .any l.toArray n = true)
    (h : wpStill P l.toArray w.drew (fun a' => wpList P l.toArray Q (l.drop n) a' w.drew) (l.take n) a) : (Code.region id l.toArray true).wp P Q a w := wp_region_still_tail n hm hB h
/-- The next token's place. -/
def nxt (s : ByteArray) (k : Nat) : Nat := k + runL blankB (s.data.toList.drop k)
theorem nxt_le (s : ByteArray) (k : Nat) (h : k ≤ s.size) : k ≤ nxt s k ∧ nxt s k ≤ s.size := by
  have := runL_le blankB (s.data.toList.drop k)
  rw [List.length_drop, Array.length_toList] at this
  have e : s.data.size = s.size := rfl
  unfold nxt; omega
/-- What the closure leaves: the place moved, new memory. -/
def Goes10 (G ba bt : Nat) (s : ByteArray) (q : Nat) (w w' : World) : Prop := w.grownBy w' (some ba) ∧ Cur G ba bt s q w'
theorem Cur.goes {G ba bt : Nat} {s : ByteArray} {k : Nat} {w : World} (h : Cur G ba bt s k w) (q : Nat) {w' : World} (hg : (w.setCell ⟨ba, 0, none⟩ (.int .i64 q)).grownBy w' none) : Goes10 G ba bt s q w w' :=
  ⟨(grown_setX (grown_reflX w (some ba)) 0 (.int .i64 q)).trans (grown_noneX hg (some ba)), (h.set q).keep hg⟩
set_option maxRecDepth 100000 in
set_option maxHeartbeats 1600000 in
theorem next_end (G ba bt k : Nat) (s : ByteArray) (w : World) (hC : Cur G ba bt s k w) (hk : k ≤ s.size) (hs : s.size ≤ 1510) (hq : nxt s k = s.size) :
    Calls Tryz.prog 113 #[.pointer (some ⟨ba, 0, none⟩), .pointer (some ⟨bt, 0, none⟩)] w fun e w' => e = .returned (.tuple #[.agg #[.int .i64 0, .string ⟨#[]⟩, .int .i64 (s.size : Nat)], .nilIface]) ∧ Goes10 G ba bt s s.size w w' := by
  have HR := Lib.hid (fun W => run_blank (s.extract k s.size) W (by rw [ByteArray.size_extract]; omega))
  have hle := nxt_le s k hk
  simp only [extract_to] at HR
  have hlt := World.block_lt_of_cell? w _ hC.a
  have hlu := World.block_lt_of_cell? w _ hC.t
  have HC := Lib.hid hC
  obtain ⟨c0, f0, c1, hne, hga⟩ := hC
  have hsum : k + runL blankB (s.data.toList.drop k) = nxt s k := rfl
  generalize runL blankB (s.data.toList.drop k) = r at *
  generalize nxt s k = q at *
  subst hq
  have r0 : (0 : Int) ≤ r := by omega
  have k0 : (0 : Int) ≤ k := by omega
  have k1 : (k : Int) ≤ s.size := by omega
  have s1 : (s.size : Int) ≤ 1510 := by omega
  have hw : (k : Int) + (r : Int) = (s.size : Int) := by omega
  have hlt' : ba < w.heap.size := hlt
  have hlu' : bt < w.heap.size := hlu
  clear hle hsum hlt hlu
  go_enter Tryz.func113, Tryz.ntmps113
  go_wp2_with fail
  refine region_tail 6 (by kernel_rfl) (by kernel_rfl) ?_
  simp only [List.take_succ_cons, List.take_zero, List.drop_succ_cons, List.drop_zero]
  repeat still_step
  still_call ((HR.out _).mono fun e w'' h => ⟨h.1, h.2.symm⟩)
  repeat still_step
  refine wpStill_nil ?_
  go_wp2_with fail
  exact bodyPost_ret (v := .tuple #[.agg #[.int .i64 0, .string ⟨#[]⟩, .int .i64 (s.size : Nat)], .nilIface]) (by simp [results, Tryz.results113, go_sem]) rfl ⟨rfl, HC.out.goes _ (grown_drew1X (World.grownBy_alloc _ _ _))⟩
theorem grown_setnewX {w w' : World} {row : Option Nat} (h : w.grownBy w' row) {b : Nat} (hb : w.heap.size ≤ b) (i : Nat) (v : Value) : w.grownBy (w'.setCell ⟨b, i, none⟩ v) row := by
  refine ⟨h.os, h.tape, h.output, ?_, fun k hk hne => ?_⟩
  · have := h.size; simpa using this
  · have e : k ≠ b := by omega
    rw [Below.heap_setCell _ _ _ _ e]
    exact h.block k hk hne
theorem Goes10.set {G ba bt : Nat} {s : ByteArray} {q : Nat} {w w' : World} (h : Goes10 G ba bt s q w w') (hba : ba < w.heap.size) (hbt : bt < w.heap.size) {b : Nat} (hb : w.heap.size ≤ b) (i : Nat) (v : Value) : Goes10 G ba bt s q w (w'.setCell ⟨b, i, none⟩ v) := by
  obtain ⟨hg, a, fa, t, ne, ga⟩ := h
  refine ⟨grown_setnewX hg hb i v, ?_, by rw [World.frozen?_setCell]; exact fa, ?_, ne, ga⟩
  · rw [World.cell?_setCell_far _ _ _ _ (by simp; omega)]; exact a
  · rw [World.cell?_setCell_far _ _ _ _ (by simp; omega)]; exact t
theorem Goes10.drew {G ba bt : Nat} {s : ByteArray} {q : Nat} {w w' : World} (h : Goes10 G ba bt s q w w') : Goes10 G ba bt s q w w'.drew :=
  ⟨grown_drew1X h.1, h.2.keep (grown_drew1X (grown_reflX _ _))⟩
theorem three_read (w : World) (b : Nat) (v0 v1 v2 o0 o1 o2 : Value) (h0 : w.cell? ⟨b, 0, none⟩ = some o0) (h1 : w.cell? ⟨b, 1, none⟩ = some o1) (h2 : w.cell? ⟨b, 2, none⟩ = some o2) (o : Obj) :
    ((((w.setCell ⟨b, 0, none⟩ v0).setCell ⟨b, 1, none⟩ v1).setCell ⟨b, 2, none⟩ v2).alloc o).cell? ⟨b, 0, none⟩ = some v0 ∧ ((((w.setCell ⟨b, 0, none⟩ v0).setCell ⟨b, 1, none⟩ v1).setCell ⟨b, 2, none⟩ v2).alloc o).cell? ⟨b, 1, none⟩ = some v1 ∧ ((((w.setCell ⟨b, 0, none⟩ v0).setCell ⟨b, 1, none⟩ v1).setCell ⟨b, 2, none⟩ v2).alloc o).cell? ⟨b, 2, none⟩ = some v2 := by
  have e0 : (w.setCell ⟨b, 0, none⟩ v0).cell? ⟨b, 0, none⟩ = some v0 := World.cell?_setCell_same w _ _ h0
  have e1 : (w.setCell ⟨b, 0, none⟩ v0).cell? ⟨b, 1, none⟩ = some o1 := (World.cell?_setCell_other w _ _ _ (by simp)).trans h1
  have e2 : (w.setCell ⟨b, 0, none⟩ v0).cell? ⟨b, 2, none⟩ = some o2 := (World.cell?_setCell_other w _ _ _ (by simp)).trans h2
  generalize w.setCell ⟨b, 0, none⟩ v0 = x at *
  have f0 : (x.setCell ⟨b, 1, none⟩ v1).cell? ⟨b, 0, none⟩ = some v0 := (World.cell?_setCell_other x _ _ _ (by simp)).trans e0
  have f1 : (x.setCell ⟨b, 1, none⟩ v1).cell? ⟨b, 1, none⟩ = some v1 := World.cell?_setCell_same x _ _ e1
  have f2 : (x.setCell ⟨b, 1, none⟩ v1).cell? ⟨b, 2, none⟩ = some o2 := (World.cell?_setCell_other x _ _ _ (by simp)).trans e2
  generalize x.setCell ⟨b, 1, none⟩ v1 = y at *
  have g0 : (y.setCell ⟨b, 2, none⟩ v2).cell? ⟨b, 0, none⟩ = some v0 := (World.cell?_setCell_other y _ _ _ (by simp)).trans f0
  have g1 : (y.setCell ⟨b, 2, none⟩ v2).cell? ⟨b, 1, none⟩ = some v1 := (World.cell?_setCell_other y _ _ _ (by simp)).trans f1
  have g2 : (y.setCell ⟨b, 2, none⟩ v2).cell? ⟨b, 2, none⟩ = some v2 := World.cell?_setCell_same y _ _ f2
  exact ⟨cell?_alloc_old o g0, cell?_alloc_old o g1, cell?_alloc_old o g2⟩
theorem Goes10.move {G ba bt : Nat} {s : ByteArray} {q : Nat} {w w' : World} (h : Goes10 G ba bt s q w w') (p : Nat) : Goes10 G ba bt s p w (w'.setCell ⟨ba, 0, none⟩ (.int .i64 p)) :=
  ⟨grown_setX h.1 0 _, h.2.set p⟩
theorem Goes10.grow {G ba bt : Nat} {s : ByteArray} {q : Nat} {w w' w2 : World} (h : Goes10 G ba bt s q w w') (hg : w'.grownBy w2 none) : Goes10 G ba bt s q w w2 :=
  ⟨h.1.trans (grown_noneX hg _), h.2.keep hg⟩
theorem new_row {w w2 : World} {o : Obj} (hg : (w.alloc o).drew.grownBy w2 none) : w2.heap[w.heap.size]? = some o :=
  (hg.block w.heap.size (by show w.heap.size < (w.alloc o).heap.size; simp) (by simp)).trans (heap_alloc_new w o)
set_option maxRecDepth 100000 in
set_option maxHeartbeats 3200000 in
theorem next_bad (G ba bt k : Nat) (n g m l : Addr) (s : ByteArray) (w : World) (hE : LxEnv G n g m l w) (hC : Cur G ba bt s k w) (hk : k ≤ s.size) (hs : s.size ≤ 1510) (hq : nxt s k ≠ s.size) (kd N c : Nat) (ht : tokL (s.data.toList.drop (nxt s k)) = (kd, N, c + 1)) (ty : TypeId) (pv : Value) (hv : errV n g m l (c + 1) = .iface ty pv) :
    Calls Tryz.prog 113 #[.pointer (some ⟨ba, 0, none⟩), .pointer (some ⟨bt, 0, none⟩)] w fun e w' => e = .returned (.tuple #[.agg #[.int .i64 0, .string ⟨#[]⟩, .int .i64 0], .iface 125 (.agg #[.int .i64 (nxt s k : Nat), .iface ty pv])]) ∧ Goes10 G ba bt s (nxt s k) w w' := by
  have HR := Lib.hid (fun W => run_blank (s.extract k s.size) W (by rw [ByteArray.size_extract]; omega))
  have hle := nxt_le s k hk
  have HF : Hid (∀ W, w.grownBy W (some ba) → Calls Tryz.prog 116 #[.string (s.extract (nxt s k) s.size)] W fun e w' => e = .returned (.tuple #[.int .i64 kd, .int .i64 N, .iface ty pv]) ∧ W.grownBy w' none) := Lib.hid fun W hW => by
    have h := first_any G n g m l (s.extract (nxt s k) s.size) W (by rw [ByteArray.size_extract]; omega) (by rw [ByteArray.size_extract]; omega) (hE.keepR hW hC.ga)
    rw [extract_to, ht] at h
    refine h.mono fun e w' ⟨he, hg⟩ => ⟨?_, hg⟩
    rw [he, hv]
  simp only [extract_to] at HR
  clear hv
  have hlt := World.block_lt_of_cell? w _ hC.a
  have hlu := World.block_lt_of_cell? w _ hC.t
  have HC := Lib.hid hC
  obtain ⟨c0, f0, c1, hne, hga⟩ := hC
  have hsum : k + runL blankB (s.data.toList.drop k) = nxt s k := rfl
  clear ht
  generalize runL blankB (s.data.toList.drop k) = r at *
  generalize nxt s k = q at *
  have r0 : (0 : Int) ≤ r := by omega
  have k0 : (0 : Int) ≤ k := by omega
  have k1 : (k : Int) ≤ s.size := by omega
  have s1 : (s.size : Int) ≤ 1510 := by omega
  have q0 : (0 : Int) ≤ q := by omega
  have q1 : (q : Int) ≤ s.size := by omega
  have hw : (k : Int) + (r : Int) = (q : Int) := by omega
  have hw2 : IntKind.i64.wrap (q : Int) = (q : Int) := IntWalk.i64_in _ (by omega)
  have tq : ((q : Int) == (s.size : Int)) = false := beq_eq_false_iff_ne.2 (by omega)
  have hlt' : ba < w.heap.size := hlt
  have hlu' : bt < w.heap.size := hlu
  clear hle hsum hlt hlu hq
  go_enter Tryz.func113, Tryz.ntmps113
  go_wp2_with fail
  refine region_tail 6 (by kernel_rfl) (by kernel_rfl) ?_
  simp only [List.take_succ_cons, List.take_zero, List.drop_succ_cons, List.drop_zero]
  repeat still_step
  still_call ((HR.out _).mono fun e w'' h => ⟨h.1, h.2.symm⟩)
  repeat still_step
  refine wpStill_nil ?_
  go_wp2_with fail
  refine (HF.out _ (HC.out.goes q (grown_drew1X (World.grownBy_alloc _ _ _))).1).mono ?_
  rintro e w2 ⟨rfl, hg⟩
  have G2 := Lib.hid (HC.out.goes q ((grown_drew1X (World.grownBy_alloc _ _ _)).trans hg))
  have C2 := G2.out.2
  have hk2 := new_row hg
  simp only [World.size_setCell] at hk2
  have hz2 : w.heap.size < w2.heap.size := by have := hg.size; simp at this; omega
  obtain ⟨d0, d1, d2, e0, e1, e2⟩ := kept3 (b := w.heap.size) (Below.refl _ w2) hz2 hk2
  have m0 := C2.a
  have hlt2 : ba < w2.heap.size := by omega
  clear hg C2 hk2 c0 c1 f0
  go_wp2_with fail
  go_region
  go_wp2_with fail
  exact bodyPost_ret (v := .tuple #[.agg #[.int .i64 0, .string ⟨#[]⟩, .int .i64 0], .iface 125 (.agg #[.int .i64 (q : Nat), .iface ty pv])]) (by simp [results, Tryz.results113, go_sem, d0, d1, d2]) rfl ⟨rfl, by first | exact (((G2.out.set hlt' hlu' (Nat.le_refl _) _ _).set hlt' hlu' (Nat.le_refl _) _ _).set hlt' hlu' (Nat.le_refl _) _ _).drew | exact (((G2.out.drew.set hlt' hlu' (Nat.le_refl _) _ _).set hlt' hlu' (Nat.le_refl _) _ _).set hlt' hlu' (Nat.le_refl _) _ _)⟩
set_option maxRecDepth 100000 in
set_option maxHeartbeats 3200000 in
theorem next_tok (G ba bt k : Nat) (n g m l : Addr) (s : ByteArray) (w : World) (hE : LxEnv G n g m l w) (hC : Cur G ba bt s k w) (hk : k ≤ s.size) (hs : s.size ≤ 1510) (hq : nxt s k ≠ s.size) (kd N : Nat) (ht : tokL (s.data.toList.drop (nxt s k)) = (kd, N, 0)) :
    Calls Tryz.prog 113 #[.pointer (some ⟨ba, 0, none⟩), .pointer (some ⟨bt, 0, none⟩)] w fun e w' => e = .returned (.tuple #[.agg #[.int .i64 kd, .string (s.extract (nxt s k) (nxt s k + N)), .int .i64 (nxt s k : Nat)], .nilIface]) ∧ Goes10 G ba bt s (nxt s k + N) w w' := by
  have HR := Lib.hid (fun W => run_blank (s.extract k s.size) W (by rw [ByteArray.size_extract]; omega))
  have hle := nxt_le s k hk
  have HF : Hid (∀ W, w.grownBy W (some ba) → Calls Tryz.prog 116 #[.string (s.extract (nxt s k) s.size)] W fun e w' => e = .returned (.tuple #[.int .i64 kd, .int .i64 N, .nilIface]) ∧ W.grownBy w' none) := Lib.hid fun W hW => by
    have h := first_any G n g m l (s.extract (nxt s k) s.size) W (by rw [ByteArray.size_extract]; omega) (by rw [ByteArray.size_extract]; omega) (hE.keepR hW hC.ga)
    rw [extract_to, ht] at h
    refine h.mono fun e w' ⟨he, hg⟩ => ⟨?_, hg⟩
    rw [he]; rfl
  simp only [extract_to] at HR
  have hlt := World.block_lt_of_cell? w _ hC.a
  have hlu := World.block_lt_of_cell? w _ hC.t
  have HC := Lib.hid hC
  obtain ⟨c0, f0, c1, hne, hga⟩ := hC
  have hsum : k + runL blankB (s.data.toList.drop k) = nxt s k := rfl
  have hN := (tokL_len _ _ _ _ ht).1
  rw [List.length_drop, Array.length_toList] at hN
  have hsz : s.data.size = s.size := rfl
  clear ht
  generalize runL blankB (s.data.toList.drop k) = r at *
  generalize nxt s k = q at *
  obtain ⟨p, hp⟩ : ∃ p, p = q + N := ⟨_, rfl⟩
  rw [← hp]
  have r0 : (0 : Int) ≤ r := by omega
  have k0 : (0 : Int) ≤ k := by omega
  have k1 : (k : Int) ≤ s.size := by omega
  have s1 : (s.size : Int) ≤ 1510 := by omega
  have q0 : (0 : Int) ≤ q := by omega
  have q1 : (q : Int) ≤ s.size := by omega
  have n0 : (0 : Int) ≤ N := by omega
  have n1 : (q : Int) + (N : Int) ≤ s.size := by omega
  have hw3 : (q : Int) + (N : Int) = (p : Int) := by omega
  have hw4 : IntKind.i64.wrap (p : Int) = (p : Int) := IntWalk.i64_in _ (by omega)
  have z0 : (0 : Int) ≤ (p : Int) := by omega
  have z1 : (p : Int) ≤ s.size := by omega
  have z2 : (q : Int) ≤ (p : Int) := by omega
  have hw : (k : Int) + (r : Int) = (q : Int) := by omega
  have hw2 : IntKind.i64.wrap (q : Int) = (q : Int) := IntWalk.i64_in _ (by omega)
  have tq : ((q : Int) == (s.size : Int)) = false := beq_eq_false_iff_ne.2 (by omega)
  have hlt' : ba < w.heap.size := hlt
  have hlu' : bt < w.heap.size := hlu
  clear hle hsum hlt hlu hq hN hsz n1 hp
  go_enter Tryz.func113, Tryz.ntmps113
  go_wp2_with fail
  refine region_tail 6 (by kernel_rfl) (by kernel_rfl) ?_
  simp only [List.take_succ_cons, List.take_zero, List.drop_succ_cons, List.drop_zero]
  repeat still_step
  still_call ((HR.out _).mono fun e w'' h => ⟨h.1, h.2.symm⟩)
  repeat still_step
  refine wpStill_nil ?_
  go_wp2_with fail
  refine (HF.out _ (HC.out.goes q (grown_drew1X (World.grownBy_alloc _ _ _))).1).mono ?_
  rintro e w2 ⟨rfl, hg⟩
  have G2 := Lib.hid (HC.out.goes q ((grown_drew1X (World.grownBy_alloc _ _ _)).trans hg))
  have C2 := G2.out.2
  have hk2 := new_row hg
  simp only [World.size_setCell] at hk2
  have hz2 : w.heap.size < w2.heap.size := by have := hg.size; simp at this; omega
  obtain ⟨d0, d1, d2, e0, e1, e2⟩ := kept3 (b := w.heap.size) (Below.refl _ w2) hz2 hk2
  have m0 := C2.a
  have m1 := C2.t
  have m2 := C2.fa
  have hlu2 : bt < w2.heap.size := by omega
  have hlt2 : ba < w2.heap.size := by omega
  clear hg C2 hk2 c0 c1 f0
  go_wp2_with fail
  go_region
  go_wp2_with fail
  obtain ⟨x0, x1, x2⟩ := three_read (w2.setCell ⟨ba, 0, none⟩ (.int .i64 p)) w.heap.size (.int .i64 kd) (.string (s.extract q p)) (.int .i64 q) _ _ _ ((World.cell?_setCell_far _ _ _ _ (by simp; omega)).trans d0) ((World.cell?_setCell_far _ _ _ _ (by simp; omega)).trans d1) ((World.cell?_setCell_far _ _ _ _ (by simp; omega)).trans d2) (.cells #[.int .i64 kd, .string (s.extract q p), .int .i64 q] 174)
  exact bodyPost_ret (v := .tuple #[.agg #[.int .i64 kd, .string (s.extract q p), .int .i64 (q : Nat)], .nilIface]) (by simp [results, Tryz.results113, go_sem, x0, x1, x2]) rfl ⟨rfl, (((((G2.out.move p).set hlt' hlu' (Nat.le_refl _) _ _).set hlt' hlu' (Nat.le_refl _) _ _).set hlt' hlu' (Nat.le_refl _) _ _).grow (World.grownBy_alloc _ _ _)).drew⟩
end Go.Proofs.YtjaclmoobfeikaaGreatDoor
namespace Go.Proofs.YtjaclmoobfeikaaGreatDoor
open Go.RowKit

/-- The block of an address. -/
def bk (a : Option Addr) (k : Nat) : Prop := a.map Addr.block = some k
theorem bk_some (g o : Nat) (s : Option Nat) (k : Nat) : bk (some ⟨g, o, s⟩) k ↔ g = k := by simp [bk]
theorem Only.keepS {M : Nat → Prop} {w w' : World} (h : Only M w w') {b : Nat} (hb : b < w.heap.size) (hM : ¬ M b) (o : Nat) : w'.cell? ⟨b, o, none⟩ = w.cell? ⟨b, o, none⟩ ∧ w'.frozen? ⟨b, o, none⟩ = w.frozen? ⟨b, o, none⟩ :=
  ⟨World.cell?_of_block (a := ⟨b, o, none⟩) (h.block b hb hM), World.frozen?_of_block (a := ⟨b, o, none⟩) (h.block b hb hM)⟩
theorem Only.of_grown {w w' : World} {row : Option Nat} (h : w.grownBy w' row) : Only (fun k => row = some k) w w' := ⟨h.os, h.tape, h.output, h.size, fun b hb hM => h.block b hb (fun e => hM e.symm)⟩
theorem Only.of_none {M : Nat → Prop} {w w' : World} (h : w.grownBy w' none) : Only M w w' := ⟨h.os, h.tape, h.output, h.size, fun b hb _ => h.block b hb (by simp)⟩
theorem Only.mono {M M' : Nat → Prop} {w w' : World} (h : Only M w w') (hM : ∀ k, k < w.heap.size → M k → M' k) : Only M' w w' := ⟨h.os, h.tape, h.output, h.size, fun b hb hn => h.block b hb (fun e => hn (hM b hb e))⟩
/-- n elements of sz cells each that read as xs, in a window with room. -/
structure Win (sz : Nat) (w : World) (a : Option Addr) (cap n : Nat) (xs : List Value) : Prop where
  len : xs.length = n * sz
  le : n ≤ cap
  max : cap ≤ maxLen
  lt : ∀ k, bk a k → k < w.heap.size
  mem : cap = 0 ∨ ∃ g off, a = some ⟨g, off, none⟩ ∧ (∀ j u, xs[j]? = some u → w.cell? ⟨g, off + j, none⟩ = some u) ∧ (∀ j, j < cap * sz → (w.cell? ⟨g, off + j, none⟩).isSome = true) ∧ ∀ o, w.frozen? ⟨g, o, none⟩ = false
theorem Win.nil (sz : Nat) (w : World) : Win sz w none 0 0 [] := ⟨by simp, Nat.le_refl _, Nat.zero_le _, fun k h => by simp [bk] at h, .inl rfl⟩
theorem Win.keep {sz : Nat} {w w' : World} {a : Option Addr} {cap n : Nat} {xs : List Value} {M : Nat → Prop} (h : Win sz w a cap n xs) (ho : Only M w w') (hM : ∀ k, bk a k → ¬ M k) : Win sz w' a cap n xs := by
  refine ⟨h.len, h.le, h.max, fun k hk => Nat.lt_of_lt_of_le (h.lt k hk) ho.size, h.mem.imp id fun ⟨g, off, e, hc, hs, hf⟩ => ⟨g, off, e, ?_, ?_, ?_⟩⟩
  all_goals
    have hg : bk a g := by rw [e, bk_some]
    have hk := fun o => ho.keepS (h.lt g hg) (hM g hg) o
  · intro j u hj; rw [(hk _).1]; exact hc j u hj
  · intro j hj; rw [(hk _).1]; exact hs j hj
  · intro o; rw [(hk _).2]; exact hf o
theorem Win.keepG {sz : Nat} {w w' : World} {a : Option Addr} {cap n : Nat} {xs : List Value} (h : Win sz w a cap n xs) (hg : w.grownBy w' none) : Win sz w' a cap n xs := h.keep (M := fun _ => False) (.of_none hg) (fun _ _ e => e)
theorem own_win {B : Nat} {w : World} {e : TypeId} {sz n : Nat} {v : Value} {xs : List Value} (h : w.ownsRow B e sz v n xs) : ∃ a cap, v = .slice a n cap ∧ Win sz w a cap n xs ∧ (∀ k, bk a k → v.ownBlock = some k) := by
  rcases h.2 with ⟨hv, h0⟩ | ⟨g, cap, cur, hv, hb, hg, hc, hm, hcs, htk⟩
  · exact ⟨none, 0, by rw [hv, h0], ⟨h.1, by omega, Nat.zero_le _, fun k h => by simp [bk] at h, .inl rfl⟩, fun k h => by simp [bk] at h⟩
  · refine ⟨some ⟨g, 0, none⟩, cap, hv, ⟨h.1, hc, hm, fun k hk => ?_, .inr ⟨g, 0, rfl, fun j u hj => ?_, fun j hj => ?_, fun o => by simp [World.frozen?, hg]⟩⟩, fun k hk => ?_⟩
    · rw [bk_some] at hk; subst hk; exact (Array.getElem?_eq_some_iff.1 hg).1
    · have := h.cells (g := g) (by rw [hv]; rfl) j u hj
      rw [add_atT] at this
      exact this
    · rw [cell_of_row w g _ cur _ _ hg, Array.getElem?_eq_getElem (by omega)]; rfl
    · rw [bk_some] at hk; subst hk; rw [hv]; rfl
/-- A type of elements, and that of their slices. -/
structure ElT (sl e : TypeId) (z : Value) (sz by' : Nat) : Prop where
  und : Tryz.prog.underlying sl = some (.slice e)
  inf : ∃ i, Tryz.prog.info? e = some i ∧ i.zero = some z ∧ i.size = sz ∧ i.bytes = by'
  zc : z.cells.size = sz
  pos : 0 < sz
  few : by' ≤ 256
theorem setCells_size (b : Nat) : ∀ (vs : List Value) (o : Nat) (w : World), (w.setCells b o vs).heap.size = w.heap.size
  | [], _, _ => rfl
  | v :: vs, o, w => by
    show ((w.setCell ⟨b, o, none⟩ v).setCells b (o + 1) vs).heap.size = _
    rw [setCells_size b vs]; simp [World.setCell]
theorem only_setCells (b : Nat) : ∀ (vs : List Value) (o : Nat) (w : World), Only (fun k => b = k) w (w.setCells b o vs)
  | [], _, w => Only.refl _ w
  | v :: vs, o, w => (((Only.refl (fun k => b = k) w).set (.inl rfl) o v).trans (only_setCells b vs (o + 1) _) (fun _ h => .inl h))
/-- Behind a store into a window. -/
theorem Win.put {sz : Nat} {w : World} {g off cap n m : Nat} {xs ys vs : List Value} {o : Nat} (h : Win sz w (some ⟨g, off, none⟩) cap n xs) (hcap : cap ≠ 0) (ho : o + vs.length ≤ cap * sz) (hl : ys.length = m * sz) (hm : m ≤ cap)
    (hys : ∀ j u, ys[j]? = some u → (o ≤ j ∧ vs[j - o]? = some u) ∨ ((j < o ∨ o + vs.length ≤ j) ∧ xs[j]? = some u)) : Win sz (w.setCells g (off + o) vs) (some ⟨g, off, none⟩) cap m ys := by
  rcases h.mem with h0 | ⟨g', off', e, hc, hs, hf⟩
  · exact absurd h0 hcap
  · cases e
    have hin := World.cell?_setCells_in g vs (off + o) w (fun j hj => by rw [Nat.add_assoc]; exact hs _ (by omega))
    refine ⟨hl, hm, h.max, fun k hk => by rw [setCells_size]; exact h.lt k hk, .inr ⟨g, off, rfl, fun j u hj => ?_, fun j hj => World.isSome_setCells g vs _ w _ (hs j hj), fun i => by rw [World.frozen?_setCells]; exact hf i⟩⟩
    rcases hys j u hj with ⟨h1, h2⟩ | ⟨h1, h2⟩
    · obtain ⟨hjl, hju⟩ := List.getElem?_eq_some_iff.1 h2
      have := hin (j - o) hjl
      rw [show off + o + (j - o) = off + j by omega] at this
      rw [this, hju]
    · rw [World.cell?_setCells_out g vs (off + o) w ⟨g, off + j, none⟩ (fun _ _ => by
        show off + j < off + o ∨ off + o + vs.length ≤ off + j
        omega)]
      exact hc j u h2
/-- One element more. -/
theorem run_append_win {sl e : TypeId} {z : Value} {sz by' : Nat} (E : ElT sl e z sz by') {w : World} {a : Option Addr} {cap n : Nat} {xs : List Value} (h : Win sz w a cap n xs) (hn : n ≤ 1000000)
    (ad : Addr) (c : Nat) (news : List Value) (hnl : news.length = sz) (hnews : ∀ j u, news[j]? = some u → w.cell? (ad.add j) = some u) (h1 : ∀ u ∈ news, u.oneCell' = true) (ty : TypeId) :
    ∃ a' cap' w', (Builtin.append_ #[sl, sl] ty #[.slice a n cap, .slice (some ad) 1 c]).run Tryz.prog w = .ok (.slice a' (n + 1) cap') w' ∧ Win sz w' a' cap' (n + 1) (xs ++ news) ∧ Only (bk a) w w' ∧ (∀ k, bk a' k → bk a k ∨ w.heap.size ≤ k) := by
  obtain ⟨i0, hi, hz0, hz1, hz2⟩ := E.inf
  have hlen := h.len
  have hpos := E.pos
  have hby := E.few
  have hmx : n + 1 ≤ maxLen := by unfold maxLen; omega
  have hbb : (n + 1) * by' ≤ 140737488355328 := by
    have : (n + 1) * by' ≤ 1000001 * 256 := Nat.mul_le_mul (by omega) hby
    omega
  have fin : ∀ v' w', (Builtin.append_ #[sl, sl] ty #[.slice a n cap, .slice (some ad) 1 c]).run Tryz.prog w = .ok v' w' → w'.ownsRow w.heap.size e sz v' (n + 1) (xs ++ news) → w.grownBy w' none → ∃ a' cap' w', (Builtin.append_ #[sl, sl] ty #[.slice a n cap, .slice (some ad) 1 c]).run Tryz.prog w = .ok (.slice a' (n + 1) cap') w' ∧ Win sz w' a' cap' (n + 1) (xs ++ news) ∧ Only (bk a) w w' ∧ (∀ k, bk a' k → bk a k ∨ w.heap.size ≤ k) := by
    intro v' w' hr ho hg
    obtain ⟨a', cap', rfl, hw, hb⟩ := own_win ho
    exact ⟨a', cap', w', hr, hw, .of_none hg, fun k hk => .inr (World.ownsRow.lt ho k (hb k hk)).1⟩
  by_cases hroom : n + 1 ≤ cap
  · rcases h.mem with h0 | ⟨g, off, rfl, hc, hs, hf⟩
    · omega
    · have hsz : n * sz + sz ≤ cap * sz := by
        have := Nat.mul_le_mul_right sz hroom
        rw [Nat.add_mul] at this; omega
      have hr := run_append_room_cells (P := Tryz.prog) w sl ty e i0 E.und hi g off n cap ad 1 c news (by rw [hz1, hnl]; omega) hnews h1 hroom
        (fun j hj => by rw [hz1, Nat.add_assoc]; exact hs _ (by omega)) (fun j hj => hf _)
      rw [hz1] at hr
      refine ⟨_, _, _, hr, h.put (by omega) (by omega) (by rw [List.length_append, hlen, hnl, Nat.add_mul]; omega) hroom (fun j u hj => ?_), (only_setCells g news _ w).mono (fun k _ e => by rw [bk_some]; exact e), fun k hk => .inl hk⟩
      by_cases hlt : j < n * sz
      · rw [List.getElem?_append_left (by omega)] at hj
        exact .inr ⟨.inl hlt, hj⟩
      · rw [List.getElem?_append_right (by omega), hlen] at hj
        exact .inl ⟨by omega, hj⟩
  · obtain rfl : cap = n := by have := h.le; omega
    rcases h.mem with h0 | ⟨g, off, rfl, hc, hs, hf⟩
    · subst h0
      have hxs : xs = [] := List.eq_nil_of_length_eq_zero (by omega)
      subst hxs
      cases a with
      | none =>
        obtain ⟨v', w', hrun, r1, r2, _⟩ := run_append_own (P := Tryz.prog) w w.heap.size sl ty e i0 z sz by' E.und hi hz0 hz1 hz2 E.zc hpos (.slice none 0 0) 0 [] (World.ownsRow_nil w _ _ sz) ad 1 c news (by omega) hnews h1 (by omega) (by omega) (Nat.le_refl _)
        exact fin v' w' hrun r1 ⟨r2.os, r2.tape, r2.output, r2.size, fun k hk _ => r2.block k hk (by simp [Value.ownBlock])⟩
      | some a' =>
        obtain ⟨v', w', hrun, r1, r2⟩ := run_append_arg_grows (P := Tryz.prog) w sl ty e i0 z sz by' E.und hi hz0 hz1 hz2 E.zc hpos a' 0 0 [] (by simp) (by intro _ _ h'; simp at h') ad 1 c news (by omega) hnews (by omega) (by omega) (by omega)
        exact fin v' w' hrun r1 r2
    · obtain ⟨v', w', hrun, r1, r2⟩ := run_append_arg_grows (P := Tryz.prog) w sl ty e i0 z sz by' E.und hi hz0 hz1 hz2 E.zc hpos ⟨g, off, none⟩ cap cap xs hlen (fun j u hj => by rw [add_atT]; exact hc j u hj) ad 1 c news (by omega) hnews (by omega) hmx hbb
      exact fin v' w' hrun r1 r2
/-- One element more, at a step of a region that draws. -/
theorem step_append_win {ops : Array Oper} {o : Oper} {act : Act} {K : Act → World → Prop} {Q : Exit → Act → World → Prop} {F : Prop} {w : World} (hgd : o.guard = none) (s x : Operand) {sl e : TypeId} {z : Value} {sz by' : Nat} (E : ElT sl e z sz by')
    (ho : o.op = .call { callee := .builtin .append, args := #[s, x], argTypes := #[sl, sl] })
    {a : Option Addr} {cap n : Nat} {xs : List Value} (h : Win sz w a cap n xs) (hn : n ≤ 1000000)
    (hs : act.eval s = .slice a n cap) (ad : Addr) (c : Nat) (hx : act.eval x = .slice (some ad) 1 c) (news : List Value) (hnl : news.length = sz) (hnews : ∀ j u, news[j]? = some u → w.cell? (ad.add j) = some u) (h1 : ∀ u ∈ news, u.oneCell' = true)
    (hk : ∀ a' cap' w', Win sz w' a' cap' (n + 1) (xs ++ news) → Only (bk a) w w' → (∀ k, bk a' k → bk a k ∨ w.heap.size ≤ k) → K (act.put o.dst (.slice a' (n + 1) cap')) w') :
    if Region.wanted o (yielded ops act.tmps) = true then Oper.wp Tryz.prog o act w K Q else F := by
  have hw : Region.wanted o (yielded ops act.tmps) = true := by simp [Region.wanted, hgd]
  rw [if_pos hw]
  obtain ⟨a', cap', w', hr, h2, h3, h4⟩ := run_append_win E h hn ad c news hnl hnews h1 o.type
  unfold Oper.wp execOp
  simp only [ho, resolve, invoke, builtin, Sem.run_bind, Sem.run_pure, Result.andThen_ok, List.map_toArray, List.map_cons, List.map_nil, hs, hx, hr]
  exact hk a' cap' w' h2 h3 h4
end Go.Proofs.YtjaclmoobfeikaaGreatDoor
