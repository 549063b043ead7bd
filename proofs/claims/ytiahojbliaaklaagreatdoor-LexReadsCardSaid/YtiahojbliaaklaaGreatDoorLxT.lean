/- The contracts of lex's tokens and of the closure that it answers. -/
import Derived.Test.YtiahojbliaaklaaGreatDoorLxF
import Derived.StillTailTactics
import Derived.Deep.RegionHeld
import Derived.Stop.LaidErr
namespace Go.Proofs.YtiahojbliaaklaaGreatDoor
open Go.RowKit

/-- The closure's variables: the place and the text. -/
structure Cur (G ba bt : Nat) (s : ByteArray) (k : Nat) (w : World) : Prop where
  a : w.cell? ⟨ba, 0, none⟩ = some (.int .i64 k)
  fa : w.frozen? ⟨ba, 0, none⟩ = false
  t : w.cell? ⟨bt, 0, none⟩ = some (.string s)
  ne : bt ≠ ba
  ga : G ≤ ba
theorem Cur.keep {G ba bt : Nat} {s : ByteArray} {k : Nat} {w w' : World} (h : Cur G ba bt s k w) (hg : w.grownBy w' none) : Cur G ba bt s k w' :=
  ⟨hg.cell h.a (by simp), (hg.frozen_far ⟨ba, 0, none⟩ (World.block_lt_of_cell? w _ h.a) (by simp)).trans h.fa, hg.cell h.t (by simp), h.ne, h.ga⟩
theorem Cur.set {G ba bt : Nat} {s : ByteArray} {k : Nat} {w : World} (h : Cur G ba bt s k w) (q : Nat) : Cur G ba bt s q (w.setCell ⟨ba, 0, none⟩ (.int .i64 q)) := by
  have hne := h.ne
  refine ⟨World.cell?_setCell_same w _ _ h.a, by rw [World.frozen?_setCell]; exact h.fa, ?_, h.ne, h.ga⟩
  rw [World.cell?_setCell_other _ _ _ _ (by simp; try omega)]; exact h.t
theorem grown_noneX {w w' : World} (h : w.grownBy w' none) (row : Option Nat) : w.grownBy w' row := ⟨h.os, h.tape, h.output, h.size, fun i hi _ => h.block i hi (by simp)⟩
theorem grown_setX {w w' : World} {b : Nat} (h : w.grownBy w' (some b)) (i : Nat) (v : Value) : w.grownBy (w'.setCell ⟨b, i, none⟩ v) (some b) := by
  refine ⟨h.os, h.tape, h.output, ?_, fun k hk hne => ?_⟩
  · have := h.size; simpa using this
  · have e : k ≠ b := fun e => hne (by rw [e])
    rw [Below.heap_setCell _ _ _ _ e]
    exact h.block k hk hne
set_option maxHeartbeats 1600000 in
theorem tokens_any (G : Nat) (s : ByteArray) (w : World) (hG : G ≤ w.heap.size) :
    Calls Tryz.prog 12 #[.string s] w fun e w' => (∃ ba bt, e = .returned (.func (.func 24) #[] #[.pointer (some ⟨ba, 0, none⟩), .pointer (some ⟨bt, 0, none⟩)]) ∧ Cur G ba bt s 0 w' ∧ ba < w'.heap.size ∧ w.heap.size ≤ ba) ∧ w.grownBy w' none := by
  go_enter Tryz.func12, Tryz.ntmps12
  go_wp2_with fail
  go_ret
  refine ⟨⟨w.heap.size + 1, w.heap.size, rfl, ⟨?_, ?_, ?_, ?_, ?_⟩, ?_, ?_⟩, ?_⟩
  · simp
  · simp
  · rw [World.cell?_alloc_lt _ _ ⟨w.heap.size, 0, none⟩ (by simp)]; simp
  · simp
  · omega
  · simp
  · omega
  · exact (World.grownBy_alloc _ _ _).trans (World.grownBy_alloc _ _ _)
theorem region_tail {P : Program} {id : Nat} {Q : Exit → Act → World → Prop} {a : Act} {w : World} {l : List Oper} (n : Nat) (hm : P.follows .mixedOrders = true) (hB : Region.lexTailB .any l.toArray n = true)
    (h : wpStill P l.toArray w.drew (fun a' => wpList P l.toArray Q (l.drop n) a' w.drew) (l.take n) a) : (Code.region id l.toArray true).wp P Q a w := wp_region_still_tail n hm hB h
/-- The next token's place. -/
def nxt (s : ByteArray) (k : Nat) : Nat := k + runL blankB (s.data.toList.drop k)
theorem nxt_le (s : ByteArray) (k : Nat) (h : k ≤ s.size) : k ≤ nxt s k ∧ nxt s k ≤ s.size := by
  have := runL_le blankB (s.data.toList.drop k)
  rw [List.length_drop, Array.length_toList] at this
  have e : s.data.size = s.size := rfl
  unfold nxt; omega
/-- What the closure leaves: the place moved, new memory. -/
def Goes10 (G ba bt : Nat) (s : ByteArray) (q : Nat) (w w' : World) : Prop := w.grownBy w' (some ba) ∧ Cur G ba bt s q w'
theorem Cur.goes {G ba bt : Nat} {s : ByteArray} {k : Nat} {w : World} (h : Cur G ba bt s k w) (q : Nat) {w' : World} (hg : (w.setCell ⟨ba, 0, none⟩ (.int .i64 q)).grownBy w' none) : Goes10 G ba bt s q w w' :=
  ⟨(grown_setX (grown_reflX w (some ba)) 0 (.int .i64 q)).trans (grown_noneX hg (some ba)), (h.set q).keep hg⟩
set_option maxRecDepth 100000 in
set_option maxHeartbeats 1600000 in
theorem next_end (G ba bt k : Nat) (s : ByteArray) (w : World) (hC : Cur G ba bt s k w) (hk : k ≤ s.size) (hs : s.size ≤ 1510) (hq : nxt s k = s.size) :
    Calls Tryz.prog 24 #[.pointer (some ⟨ba, 0, none⟩), .pointer (some ⟨bt, 0, none⟩)] w fun e w' => e = .returned (.tuple #[.agg #[.int .i64 0, .string ⟨#[]⟩, .int .i64 (s.size : Nat)], .nilIface]) ∧ Goes10 G ba bt s s.size w w' := by
  have HR := Lib.hid (fun W => run_blank (s.extract k s.size) W (by rw [ByteArray.size_extract]; omega))
  have hle := nxt_le s k hk
  simp only [extract_to] at HR
  have hlt := World.block_lt_of_cell? w _ hC.a
  have hlu := World.block_lt_of_cell? w _ hC.t
  have HC := Lib.hid hC
  obtain ⟨c0, f0, c1, hne, hga⟩ := hC
  have hsum : k + runL blankB (s.data.toList.drop k) = nxt s k := rfl
  generalize runL blankB (s.data.toList.drop k) = r at *
  generalize nxt s k = q at *
  subst hq
  have r0 : (0 : Int) ≤ r := by omega
  have k0 : (0 : Int) ≤ k := by omega
  have k1 : (k : Int) ≤ s.size := by omega
  have s1 : (s.size : Int) ≤ 1510 := by omega
  have hw : (k : Int) + (r : Int) = (s.size : Int) := by omega
  have hlt' : ba < w.heap.size := hlt
  have hlu' : bt < w.heap.size := hlu
  clear hle hsum hlt hlu
  go_enter Tryz.func24, Tryz.ntmps24
  go_wp2_with fail
  refine region_tail 6 (by kernel_rfl) (by kernel_rfl) ?_
  simp only [List.take_succ_cons, List.take_zero, List.drop_succ_cons, List.drop_zero]
  repeat still_step
  still_call ((HR.out _).mono fun e w'' h => ⟨h.1, h.2.symm⟩)
  repeat still_step
  refine wpStill_nil ?_
  go_wp2_with fail
  exact bodyPost_ret (v := .tuple #[.agg #[.int .i64 0, .string ⟨#[]⟩, .int .i64 (s.size : Nat)], .nilIface]) (by simp [results, Tryz.results24, go_sem]) rfl ⟨rfl, HC.out.goes _ (grown_drew1X (World.grownBy_alloc _ _ _))⟩
theorem grown_setnewX {w w' : World} {row : Option Nat} (h : w.grownBy w' row) {b : Nat} (hb : w.heap.size ≤ b) (i : Nat) (v : Value) : w.grownBy (w'.setCell ⟨b, i, none⟩ v) row := by
  refine ⟨h.os, h.tape, h.output, ?_, fun k hk hne => ?_⟩
  · have := h.size; simpa using this
  · have e : k ≠ b := by omega
    rw [Below.heap_setCell _ _ _ _ e]
    exact h.block k hk hne
theorem Goes10.set {G ba bt : Nat} {s : ByteArray} {q : Nat} {w w' : World} (h : Goes10 G ba bt s q w w') (hba : ba < w.heap.size) (hbt : bt < w.heap.size) {b : Nat} (hb : w.heap.size ≤ b) (i : Nat) (v : Value) : Goes10 G ba bt s q w (w'.setCell ⟨b, i, none⟩ v) := by
  obtain ⟨hg, a, fa, t, ne, ga⟩ := h
  refine ⟨grown_setnewX hg hb i v, ?_, by rw [World.frozen?_setCell]; exact fa, ?_, ne, ga⟩
  · rw [World.cell?_setCell_far _ _ _ _ (by simp; omega)]; exact a
  · rw [World.cell?_setCell_far _ _ _ _ (by simp; omega)]; exact t
theorem Goes10.drew {G ba bt : Nat} {s : ByteArray} {q : Nat} {w w' : World} (h : Goes10 G ba bt s q w w') : Goes10 G ba bt s q w w'.drew :=
  ⟨grown_drew1X h.1, h.2.keep (grown_drew1X (grown_reflX _ _))⟩
theorem three_read (w : World) (b : Nat) (v0 v1 v2 o0 o1 o2 : Value) (h0 : w.cell? ⟨b, 0, none⟩ = some o0) (h1 : w.cell? ⟨b, 1, none⟩ = some o1) (h2 : w.cell? ⟨b, 2, none⟩ = some o2) (o : Obj) :
    ((((w.setCell ⟨b, 0, none⟩ v0).setCell ⟨b, 1, none⟩ v1).setCell ⟨b, 2, none⟩ v2).alloc o).cell? ⟨b, 0, none⟩ = some v0 ∧ ((((w.setCell ⟨b, 0, none⟩ v0).setCell ⟨b, 1, none⟩ v1).setCell ⟨b, 2, none⟩ v2).alloc o).cell? ⟨b, 1, none⟩ = some v1 ∧ ((((w.setCell ⟨b, 0, none⟩ v0).setCell ⟨b, 1, none⟩ v1).setCell ⟨b, 2, none⟩ v2).alloc o).cell? ⟨b, 2, none⟩ = some v2 := by
  have e0 : (w.setCell ⟨b, 0, none⟩ v0).cell? ⟨b, 0, none⟩ = some v0 := World.cell?_setCell_same w _ _ h0
  have e1 : (w.setCell ⟨b, 0, none⟩ v0).cell? ⟨b, 1, none⟩ = some o1 := (World.cell?_setCell_other w _ _ _ (by simp)).trans h1
  have e2 : (w.setCell ⟨b, 0, none⟩ v0).cell? ⟨b, 2, none⟩ = some o2 := (World.cell?_setCell_other w _ _ _ (by simp)).trans h2
  generalize w.setCell ⟨b, 0, none⟩ v0 = x at *
  have f0 : (x.setCell ⟨b, 1, none⟩ v1).cell? ⟨b, 0, none⟩ = some v0 := (World.cell?_setCell_other x _ _ _ (by simp)).trans e0
  have f1 : (x.setCell ⟨b, 1, none⟩ v1).cell? ⟨b, 1, none⟩ = some v1 := World.cell?_setCell_same x _ _ e1
  have f2 : (x.setCell ⟨b, 1, none⟩ v1).cell? ⟨b, 2, none⟩ = some o2 := (World.cell?_setCell_other x _ _ _ (by simp)).trans e2
  generalize x.setCell ⟨b, 1, none⟩ v1 = y at *
  have g0 : (y.setCell ⟨b, 2, none⟩ v2).cell? ⟨b, 0, none⟩ = some v0 := (World.cell?_setCell_other y _ _ _ (by simp)).trans f0
  have g1 : (y.setCell ⟨b, 2, none⟩ v2).cell? ⟨b, 1, none⟩ = some v1 := (World.cell?_setCell_other y _ _ _ (by simp)).trans f1
  have g2 : (y.setCell ⟨b, 2, none⟩ v2).cell? ⟨b, 2, none⟩ = some v2 := World.cell?_setCell_same y _ _ f2
  exact ⟨cell?_alloc_old o g0, cell?_alloc_old o g1, cell?_alloc_old o g2⟩
theorem Goes10.move {G ba bt : Nat} {s : ByteArray} {q : Nat} {w w' : World} (h : Goes10 G ba bt s q w w') (p : Nat) : Goes10 G ba bt s p w (w'.setCell ⟨ba, 0, none⟩ (.int .i64 p)) :=
  ⟨grown_setX h.1 0 _, h.2.set p⟩
theorem Goes10.grow {G ba bt : Nat} {s : ByteArray} {q : Nat} {w w' w2 : World} (h : Goes10 G ba bt s q w w') (hg : w'.grownBy w2 none) : Goes10 G ba bt s q w w2 :=
  ⟨h.1.trans (grown_noneX hg _), h.2.keep hg⟩
theorem new_row {w w2 : World} {o : Obj} (hg : (w.alloc o).drew.grownBy w2 none) : w2.heap[w.heap.size]? = some o :=
  (hg.block w.heap.size (by show w.heap.size < (w.alloc o).heap.size; simp) (by simp)).trans (heap_alloc_new w o)
set_option maxRecDepth 100000 in
set_option maxHeartbeats 3200000 in
theorem next_bad (G ba bt k : Nat) (n g m l : Addr) (s : ByteArray) (w : World) (hE : LxEnv G n g m l w) (hC : Cur G ba bt s k w) (hk : k ≤ s.size) (hs : s.size ≤ 1510) (hq : nxt s k ≠ s.size) (kd N c : Nat) (ht : tokL (s.data.toList.drop (nxt s k)) = (kd, N, c + 1)) (ty : TypeId) (pv : Value) (hv : errV n g m l (c + 1) = .iface ty pv) :
    Calls Tryz.prog 24 #[.pointer (some ⟨ba, 0, none⟩), .pointer (some ⟨bt, 0, none⟩)] w fun e w' => e = .returned (.tuple #[.agg #[.int .i64 0, .string ⟨#[]⟩, .int .i64 0], .iface 38 (.agg #[.int .i64 (nxt s k : Nat), .iface ty pv])]) ∧ Goes10 G ba bt s (nxt s k) w w' := by
  have HR := Lib.hid (fun W => run_blank (s.extract k s.size) W (by rw [ByteArray.size_extract]; omega))
  have hle := nxt_le s k hk
  have HF : Hid (∀ W, w.grownBy W (some ba) → Calls Tryz.prog 27 #[.string (s.extract (nxt s k) s.size)] W fun e w' => e = .returned (.tuple #[.int .i64 kd, .int .i64 N, .iface ty pv]) ∧ W.grownBy w' none) := Lib.hid fun W hW => by
    have h := first_any G n g m l (s.extract (nxt s k) s.size) W (by rw [ByteArray.size_extract]; omega) (by rw [ByteArray.size_extract]; omega) (hE.keepR hW hC.ga)
    rw [extract_to, ht] at h
    refine h.mono fun e w' ⟨he, hg⟩ => ⟨?_, hg⟩
    rw [he, hv]
  simp only [extract_to] at HR
  clear hv
  have hlt := World.block_lt_of_cell? w _ hC.a
  have hlu := World.block_lt_of_cell? w _ hC.t
  have HC := Lib.hid hC
  obtain ⟨c0, f0, c1, hne, hga⟩ := hC
  have hsum : k + runL blankB (s.data.toList.drop k) = nxt s k := rfl
  clear ht
  generalize runL blankB (s.data.toList.drop k) = r at *
  generalize nxt s k = q at *
  have r0 : (0 : Int) ≤ r := by omega
  have k0 : (0 : Int) ≤ k := by omega
  have k1 : (k : Int) ≤ s.size := by omega
  have s1 : (s.size : Int) ≤ 1510 := by omega
  have q0 : (0 : Int) ≤ q := by omega
  have q1 : (q : Int) ≤ s.size := by omega
  have hw : (k : Int) + (r : Int) = (q : Int) := by omega
  have hw2 : IntKind.i64.wrap (q : Int) = (q : Int) := IntWalk.i64_in _ (by omega)
  have tq : ((q : Int) == (s.size : Int)) = false := beq_eq_false_iff_ne.2 (by omega)
  have hlt' : ba < w.heap.size := hlt
  have hlu' : bt < w.heap.size := hlu
  clear hle hsum hlt hlu hq
  go_enter Tryz.func24, Tryz.ntmps24
  go_wp2_with fail
  refine region_tail 6 (by kernel_rfl) (by kernel_rfl) ?_
  simp only [List.take_succ_cons, List.take_zero, List.drop_succ_cons, List.drop_zero]
  repeat still_step
  still_call ((HR.out _).mono fun e w'' h => ⟨h.1, h.2.symm⟩)
  repeat still_step
  refine wpStill_nil ?_
  go_wp2_with fail
  refine (HF.out _ (HC.out.goes q (grown_drew1X (World.grownBy_alloc _ _ _))).1).mono ?_
  rintro e w2 ⟨rfl, hg⟩
  have G2 := Lib.hid (HC.out.goes q ((grown_drew1X (World.grownBy_alloc _ _ _)).trans hg))
  have C2 := G2.out.2
  have hk2 := new_row hg
  simp only [World.size_setCell] at hk2
  have hz2 : w.heap.size < w2.heap.size := by have := hg.size; simp at this; omega
  obtain ⟨d0, d1, d2, e0, e1, e2⟩ := kept3 (b := w.heap.size) (Below.refl _ w2) hz2 hk2
  have m0 := C2.a
  have hlt2 : ba < w2.heap.size := by omega
  clear hg C2 hk2 c0 c1 f0
  go_wp2_with fail
  go_region
  go_wp2_with fail
  exact bodyPost_ret (v := .tuple #[.agg #[.int .i64 0, .string ⟨#[]⟩, .int .i64 0], .iface 38 (.agg #[.int .i64 (q : Nat), .iface ty pv])]) (by simp [results, Tryz.results24, go_sem, d0, d1, d2]) rfl ⟨rfl, by first | exact (((G2.out.set hlt' hlu' (Nat.le_refl _) _ _).set hlt' hlu' (Nat.le_refl _) _ _).set hlt' hlu' (Nat.le_refl _) _ _).drew | exact (((G2.out.drew.set hlt' hlu' (Nat.le_refl _) _ _).set hlt' hlu' (Nat.le_refl _) _ _).set hlt' hlu' (Nat.le_refl _) _ _)⟩
set_option maxRecDepth 100000 in
set_option maxHeartbeats 3200000 in
theorem next_tok (G ba bt k : Nat) (n g m l : Addr) (s : ByteArray) (w : World) (hE : LxEnv G n g m l w) (hC : Cur G ba bt s k w) (hk : k ≤ s.size) (hs : s.size ≤ 1510) (hq : nxt s k ≠ s.size) (kd N : Nat) (ht : tokL (s.data.toList.drop (nxt s k)) = (kd, N, 0)) :
    Calls Tryz.prog 24 #[.pointer (some ⟨ba, 0, none⟩), .pointer (some ⟨bt, 0, none⟩)] w fun e w' => e = .returned (.tuple #[.agg #[.int .i64 kd, .string (s.extract (nxt s k) (nxt s k + N)), .int .i64 (nxt s k : Nat)], .nilIface]) ∧ Goes10 G ba bt s (nxt s k + N) w w' := by
  have HR := Lib.hid (fun W => run_blank (s.extract k s.size) W (by rw [ByteArray.size_extract]; omega))
  have hle := nxt_le s k hk
  have HF : Hid (∀ W, w.grownBy W (some ba) → Calls Tryz.prog 27 #[.string (s.extract (nxt s k) s.size)] W fun e w' => e = .returned (.tuple #[.int .i64 kd, .int .i64 N, .nilIface]) ∧ W.grownBy w' none) := Lib.hid fun W hW => by
    have h := first_any G n g m l (s.extract (nxt s k) s.size) W (by rw [ByteArray.size_extract]; omega) (by rw [ByteArray.size_extract]; omega) (hE.keepR hW hC.ga)
    rw [extract_to, ht] at h
    refine h.mono fun e w' ⟨he, hg⟩ => ⟨?_, hg⟩
    rw [he]; rfl
  simp only [extract_to] at HR
  have hlt := World.block_lt_of_cell? w _ hC.a
  have hlu := World.block_lt_of_cell? w _ hC.t
  have HC := Lib.hid hC
  obtain ⟨c0, f0, c1, hne, hga⟩ := hC
  have hsum : k + runL blankB (s.data.toList.drop k) = nxt s k := rfl
  have hN := (tokL_len _ _ _ _ ht).1
  rw [List.length_drop, Array.length_toList] at hN
  have hsz : s.data.size = s.size := rfl
  clear ht
  generalize runL blankB (s.data.toList.drop k) = r at *
  generalize nxt s k = q at *
  obtain ⟨p, hp⟩ : ∃ p, p = q + N := ⟨_, rfl⟩
  rw [← hp]
  have r0 : (0 : Int) ≤ r := by omega
  have k0 : (0 : Int) ≤ k := by omega
  have k1 : (k : Int) ≤ s.size := by omega
  have s1 : (s.size : Int) ≤ 1510 := by omega
  have q0 : (0 : Int) ≤ q := by omega
  have q1 : (q : Int) ≤ s.size := by omega
  have n0 : (0 : Int) ≤ N := by omega
  have n1 : (q : Int) + (N : Int) ≤ s.size := by omega
  have hw3 : (q : Int) + (N : Int) = (p : Int) := by omega
  have hw4 : IntKind.i64.wrap (p : Int) = (p : Int) := IntWalk.i64_in _ (by omega)
  have z0 : (0 : Int) ≤ (p : Int) := by omega
  have z1 : (p : Int) ≤ s.size := by omega
  have z2 : (q : Int) ≤ (p : Int) := by omega
  have hw : (k : Int) + (r : Int) = (q : Int) := by omega
  have hw2 : IntKind.i64.wrap (q : Int) = (q : Int) := IntWalk.i64_in _ (by omega)
  have tq : ((q : Int) == (s.size : Int)) = false := beq_eq_false_iff_ne.2 (by omega)
  have hlt' : ba < w.heap.size := hlt
  have hlu' : bt < w.heap.size := hlu
  clear hle hsum hlt hlu hq hN hsz n1 hp
  go_enter Tryz.func24, Tryz.ntmps24
  go_wp2_with fail
  refine region_tail 6 (by kernel_rfl) (by kernel_rfl) ?_
  simp only [List.take_succ_cons, List.take_zero, List.drop_succ_cons, List.drop_zero]
  repeat still_step
  still_call ((HR.out _).mono fun e w'' h => ⟨h.1, h.2.symm⟩)
  repeat still_step
  refine wpStill_nil ?_
  go_wp2_with fail
  refine (HF.out _ (HC.out.goes q (grown_drew1X (World.grownBy_alloc _ _ _))).1).mono ?_
  rintro e w2 ⟨rfl, hg⟩
  have G2 := Lib.hid (HC.out.goes q ((grown_drew1X (World.grownBy_alloc _ _ _)).trans hg))
  have C2 := G2.out.2
  have hk2 := new_row hg
  simp only [World.size_setCell] at hk2
  have hz2 : w.heap.size < w2.heap.size := by have := hg.size; simp at this; omega
  obtain ⟨d0, d1, d2, e0, e1, e2⟩ := kept3 (b := w.heap.size) (Below.refl _ w2) hz2 hk2
  have m0 := C2.a
  have m1 := C2.t
  have m2 := C2.fa
  have hlu2 : bt < w2.heap.size := by omega
  have hlt2 : ba < w2.heap.size := by omega
  clear hg C2 hk2 c0 c1 f0
  go_wp2_with fail
  go_region
  go_wp2_with fail
  obtain ⟨x0, x1, x2⟩ := three_read (w2.setCell ⟨ba, 0, none⟩ (.int .i64 p)) w.heap.size (.int .i64 kd) (.string (s.extract q p)) (.int .i64 q) _ _ _ ((World.cell?_setCell_far _ _ _ _ (by simp; omega)).trans d0) ((World.cell?_setCell_far _ _ _ _ (by simp; omega)).trans d1) ((World.cell?_setCell_far _ _ _ _ (by simp; omega)).trans d2) (.cells #[.int .i64 kd, .string (s.extract q p), .int .i64 q] 31)
  exact bodyPost_ret (v := .tuple #[.agg #[.int .i64 kd, .string (s.extract q p), .int .i64 (q : Nat)], .nilIface]) (by simp [results, Tryz.results24, go_sem, x0, x1, x2]) rfl ⟨rfl, (((((G2.out.move p).set hlt' hlu' (Nat.le_refl _) _ _).set hlt' hlu' (Nat.le_refl _) _ _).set hlt' hlu' (Nat.le_refl _) _ _).grow (World.grownBy_alloc _ _ _)).drew⟩
end Go.Proofs.YtiahojbliaaklaaGreatDoor
