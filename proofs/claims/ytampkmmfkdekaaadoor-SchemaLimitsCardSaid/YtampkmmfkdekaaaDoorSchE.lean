/- What schema's full, malformed and Check answer where a table is wrong. -/
import Derived.Test.YtampkmmfkdekaaaDoorSchR
import Derived.Test.YtampkmmfkdekaaaDoorSchAs
import Derived.BigQuiet
namespace Go.Proofs.YtampkmmfkdekaaaDoor
open Go.RowKit

set_option maxHeartbeats 1600000 in
theorem full_many (num m c : Nat) (N : ByteArray) (a : Option Addr) (K : Int) (ty : TypeId) (p : Value) (w : World) (h6 : 6 ≤ num) (hE : w.cell? ⟨1, 0, none⟩ = some (.iface ty p)) :
    Calls Tryd.prog 21 #[.int .i64 num, .agg #[.string N, .slice a m c, .int .i64 K]] w fun e w' => e = .returned (.iface ty p) ∧ w.grownBy w' none := by
  have h6' : (6 : Int) ≤ num := by omega
  have hE2 : ∀ o, (w.alloc o).cell? ⟨1, 0, none⟩ = some (.iface ty p) := fun o => (World.grownBy_alloc w o none).cell hE (by simp)
  go_enter Tryd.func21, Tryd.ntmps21
  go_wp2_with fail
  go_ret
  exact ⟨rfl, World.grownBy_alloc _ _ _⟩
set_option maxHeartbeats 1600000 in
theorem full_wide (num m c : Nat) (N : ByteArray) (a : Option Addr) (K : Int) (ty : TypeId) (p : Value) (w : World) (h6 : num < 6) (h8 : 8 < m) (hE : w.cell? ⟨2, 0, none⟩ = some (.iface ty p)) :
    Calls Tryd.prog 21 #[.int .i64 num, .agg #[.string N, .slice a m c, .int .i64 K]] w fun e w' => e = .returned (.iface ty p) ∧ w.grownBy w' none := by
  have h6' : (num : Int) < 6 := by omega
  have h1' : ((m : Int) == 0) = false := beq_eq_false_iff_ne.2 (by omega)
  have h8' : (8 : Int) < m := by omega
  have hE2 : ∀ o, (w.alloc o).cell? ⟨2, 0, none⟩ = some (.iface ty p) := fun o => (World.grownBy_alloc w o none).cell hE (by simp)
  go_enter Tryd.func21, Tryd.ntmps21
  go_wp2_with fail
  go_ret
  exact ⟨rfl, World.grownBy_alloc _ _ _⟩
set_option maxRecDepth 100000 in
set_option maxHeartbeats 3200000 in
theorem malformed_keys (a : Option Addr) (m cap : Nat) (N : ByteArray) (K : Int) (ty : TypeId) (p : Value) (w : World) (hN : nameB N = true) (hK : K < 1 ∨ (m : Int) < K) (hE : w.cell? ⟨4, 0, none⟩ = some (.iface ty p)) :
    Calls Tryd.prog 22 #[.agg #[.string N, .slice a m cap, .int .i64 K]] w fun e w' => e = .returned (.iface ty p) ∧ w.grownBy w' none := by
  have HN := Lib.hid (fun W => name_any N W)
  rw [hN] at HN
  clear hN
  have hE2 : ∀ o, (w.alloc o).cell? ⟨4, 0, none⟩ = some (.iface ty p) := fun o => (World.grownBy_alloc w o none).cell hE (by simp)
  have K0 := Lib.hid (World.grownBy_alloc w (.cells #[.string N, .slice a m cap, .int .i64 K] 24) none)
  by_cases h1 : K < 1
  · clear hK
    go_enter Tryd.func22, Tryd.ntmps22
    go_wp2_with fail
    refine (HN.out _).mono ?_
    rintro e w1 ⟨rfl, rfl⟩
    go_wp2_with fail
    go_ret
    exact ⟨rfl, K0.out⟩
  · have h2 : (m : Int) < K := by omega
    have h1' : ¬ K < 1 := h1
    clear hK
    go_enter Tryd.func22, Tryd.ntmps22
    go_wp2_with fail
    refine (HN.out _).mono ?_
    rintro e w1 ⟨rfl, rfl⟩
    go_wp2_with fail
    go_ret
    exact ⟨rfl, K0.out⟩
theorem ErrT.grown {G : Nat} {w w' : World} (h : ErrT G w) (hg : w.grownBy w' none) : ErrT G w' := ⟨h.1, hg.cell h.2 (by simp)⟩
theorem grown_set1 {w w' : World} {b : Nat} (h : w.grownBy w' (some b)) (i : Nat) (v : Value) : w.grownBy (w'.setCell ⟨b, i, none⟩ v) (some b) :=
  ⟨h.os, h.tape, h.output, by simpa [World.setCell] using h.size, fun k hk hne => (Below.heap_setCell _ _ _ _ (fun e => hne (by simp [e]))).trans (h.block k hk hne)⟩
theorem HitF.after {w w' : World} {t : Nat} {x y : Int} {ty : TypeId} {p o0 o1 o2 : Value} (h : HitF w t x y ty p w') (h0 : w.cell? ⟨t, 0, none⟩ = some o0) (h1 : w.cell? ⟨t, 1, none⟩ = some o1) (_h2 : w.cell? ⟨t, 2, none⟩ = some o2) :
    w.grownBy w' (some t) ∧ w'.cell? ⟨t, 0, none⟩ = some (.int .i64 x) ∧ w'.cell? ⟨t, 1, none⟩ = some (.int .i64 y) := by
  obtain ⟨w4, hg, rfl⟩ := h
  have g0 : w.grownBy w4 (some t) := ⟨hg.os, hg.tape, hg.output, hg.size, fun k hk _ => hg.block k hk (by simp)⟩
  refine ⟨grown_set1 (grown_set1 (grown_set1 g0 0 _) 1 _) 2 _, ?_, ?_⟩
  · rw [World.cell?_setCell_other _ _ _ _ (by simp), World.cell?_setCell_other _ _ _ _ (by simp)]
    exact World.cell?_setCell_same' _ _ _ (by rw [hg.cell h0 (by simp)]; rfl)
  · rw [World.cell?_setCell_other _ _ _ _ (by simp)]
    exact World.cell?_setCell_same' _ _ _ (by rw [World.cell?_setCell_other _ _ _ _ (by simp), hg.cell h1 (by simp)]; rfl)
theorem grown_then6 {a b c : World} {row row' : Option Nat} (h : a.grownBy b row) (k : b.grownBy c row') (hr : ∀ j, row' = some j → a.heap.size ≤ j) : a.grownBy c row :=
  ⟨k.os.trans h.os, k.tape.trans h.tape, k.output.trans h.output, Nat.le_trans h.size k.size, fun i hi hne => (k.block i (Nat.lt_of_lt_of_le hi h.size) (fun e => by have := hr i e.symm; omega)).trans (h.block i hi hne)⟩
set_option maxHeartbeats 1600000 in
theorem check_bad (a : Option Addr) (n cap G : Nat) (k y : Int) (ty : TypeId) (p : Value) (w : World) (hE : ErrT G w)
    (HR0 : ∀ W, w.grownBy W none → Calls Tryd.prog 14 #[.slice a n cap] W fun e w' => e = .returned (.iface 53 (.agg #[.int .i64 k, .int .i64 y, .iface ty p])) ∧ W.grownBy w' none) :
    Calls Tryd.prog 9 #[.slice a n cap] w fun e w' => e = .returned (.tuple #[.int .i64 k, .int .i64 y]) ∧ w.grownBy w' none := by
  have HR := Lib.hid HR0
  have HE := Lib.hid hE
  have G0 := Lib.hid (World.grownBy_alloc w (.cells #[.int .i64 0, .int .i64 0, .nilIface] 53) none)
  have HB := Lib.hid (box3_new6 w (.int .i64 0) (.int .i64 0) .nilIface 53)
  have HZ : Hid (∀ i, (w.alloc (.cells #[.int .i64 0, .int .i64 0, .nilIface] 53)).frozen? ⟨w.heap.size, i, none⟩ = false) := Lib.hid fun i => by
    have e := heap_alloc_new w (.cells #[.int .i64 0, .int .i64 0, .nilIface] 53)
    simp only [World.frozen?, e]
    simp
  clear HR0 hE
  go_enter Tryd.func9, Tryd.ntmps9
  go_wp2_with fail
  refine (HR.out _ (World.grownBy_alloc _ _ _)).mono ?_
  rintro e w2 ⟨rfl, hg⟩
  have HA := Lib.hid (as_hitF k y ty p w.heap.size G _ _ _ w2 (HE.out.grown (G0.out.trans hg)) (hg.cell HB.out.1 (by simp)) (hg.cell HB.out.2.1 (by simp)) (hg.cell HB.out.2.2 (by simp)) ((hg.frozen_far ⟨w.heap.size, 0, none⟩ (by simp) (by simp)).trans (HZ.out 0)) ((hg.frozen_far ⟨w.heap.size, 1, none⟩ (by simp) (by simp)).trans (HZ.out 1)) ((hg.frozen_far ⟨w.heap.size, 2, none⟩ (by simp) (by simp)).trans (HZ.out 2)))
  have K2 := Lib.hid hg
  clear hg
  go_wp2_with fail
  refine HA.out.mono ?_
  rintro e w3 ⟨rfl, hh⟩
  obtain ⟨hg3, e0, e1⟩ := hh.after (K2.out.cell HB.out.1 (by simp)) (K2.out.cell HB.out.2.1 (by simp)) (K2.out.cell HB.out.2.2 (by simp))
  have K3 := Lib.hid hg3
  clear hg3 hh
  go_wp2_with fail
  go_quiet (fail)
  go_wp2_with fail
  go_ret2
  exact ⟨rfl, grown_drewN6 (grown_then6 (G0.out.trans K2.out) K3.out (fun j e => by cases e; exact Nat.le_refl _)) _⟩
end Go.Proofs.YtampkmmfkdekaaaDoor
