/- Contracts of codec's read at one-cell instances, by their part's contract. -/
import Derived.Test.YtnfpomjcofhppaaDoorRowsR
import Derived.Test.YtnfpomjcofhppaaDoorAs
namespace Go.Proofs.YtnfpomjcofhppaaDoor
open Go.RowKit

theorem box2_cells (w : World) (v0 v1 : Value) (T : TypeId) : (w.alloc (.cells #[v0, v1] T)).cell? ⟨w.heap.size, 0, none⟩ = some v0 ∧ (w.alloc (.cells #[v0, v1] T)).cell? ⟨w.heap.size, 1, none⟩ = some v1 ∧ (w.alloc (.cells #[v0, v1] T)).frozen? ⟨w.heap.size, 0, none⟩ = false ∧ (w.alloc (.cells #[v0, v1] T)).frozen? ⟨w.heap.size, 1, none⟩ = false := by
  have e := heap_alloc_new w (.cells #[v0, v1] T)
  exact ⟨cell_of_row _ _ 0 _ _ _ e, cell_of_row _ _ 1 _ _ _ e, by (unfold World.frozen?; rw [e]; rfl), by (unfold World.frozen?; rw [e]; rfl)⟩
theorem ErrT.keep {G g : Nat} {w w' : World} (h : ErrT G w) (hg : w.grownBy w' (some g)) (hG : G ≤ g) : ErrT G w' := ⟨h.1, hg.cell h.2 (by have := h.1; simp; omega)⟩
theorem ErrT.alloc {G : Nat} {w : World} (h : ErrT G w) (o : Obj) : ErrT G (w.alloc o) := h.keep (g := G) (World.grownBy_alloc _ _ _) (Nat.le_refl _)
theorem HitF.grown {w w' : World} {t : Nat} {x : Int} {ty : TypeId} {p : Value} (h : HitF w t x ty p w') : w.grownBy w' (some t) := by
  obtain ⟨w4, hg, rfl⟩ := h
  exact grown_set (grown_set (grown_none hg _) _ _) _ _
theorem rd_new (w : World) (a : Option Addr) (len cap : Nat) : Rd w.heap.size a len cap 0 (w.alloc (.cells #[.slice a len cap, .int .i64 0] 58)) := heap_alloc_new w _

set_option maxRecDepth 100000 in
set_option maxHeartbeats 1600000 in
theorem readN_yes (a : Option Addr) (len cap k : Nat) (w : World) (Q : World → Value → Prop)
    (HP : Hid (∀ W, w.grownBy W none → Rd w.heap.size a len cap 0 W → Calls Tryd.prog 18 #[.pointer (some ⟨w.heap.size, 0, none⟩)] W (fun e w' => ∃ V, e = .returned (.tuple #[V, .nilIface]) ∧ Q w' V ∧ Goes w.heap.size a len cap W k w'))) :
    Calls Tryd.prog 17 #[.slice a len cap, .func (.func 18) #[] #[]] w fun e w' => ∃ V w2, e = .returned (.tuple #[V, .int .i64 k, .int .i64 0]) ∧ Q w2 V ∧ w2.grownBy w' none ∧ w.grownBy w' none := by
  have HR := Lib.hid (rd_new w a len cap)
  have HG := Lib.hid (World.grownBy_alloc w (.cells #[.slice a len cap, .int .i64 0] 58) none)
  go_enter Tryd.func17, Tryd.ntmps17
  go_wp2_with fail
  refine (HP.out _ HG.out HR.out).mono ?_
  rintro e w2 ⟨V, rfl, hQ, K⟩
  have HQ := Lib.hid hQ
  have HK := Lib.hid K
  obtain ⟨c0, c1, f1, hlt⟩ := (K.2.alloc (.cells #[.int .i64 0, .nilIface] 63)).cells
  clear K hQ
  go_wp2_with fail
  refine (as_nil _ _).mono ?_
  rintro e w3 ⟨rfl, rfl⟩
  go_wp2_with fail
  go_quiet (fail)
  go_wp2_with fail
  go_ret3
  have g2 : w2.grownBy ((w2.alloc (.cells #[.int .i64 0, .nilIface] 63)).drewN nq) none := grown_drewN (World.grownBy_alloc _ _ _) _
  exact ⟨V, w2, rfl, HQ.out, g2, grown_then (grown_then HG.out HK.out.1 (fun j hj => by cases hj; simp)) g2 (by simp)⟩
set_option maxRecDepth 100000 in
set_option maxHeartbeats 1600000 in
theorem readN_no (G : Nat) (a : Option Addr) (len cap : Nat) (w : World) (hE : ErrT G w) (hG : G ≤ w.heap.size)
    (HP : Hid (∀ W, w.grownBy W none → Rd w.heap.size a len cap 0 W → Calls Tryd.prog 18 #[.pointer (some ⟨w.heap.size, 0, none⟩)] W (fun e w' => ∃ V x q, e = .returned (.tuple #[V, x]) ∧ Flaw x ∧ Goes w.heap.size a len cap W q w'))) :
    Calls Tryd.prog 17 #[.slice a len cap, .func (.func 18) #[] #[]] w fun e w' => e = .returned (.tuple #[.int .u64 0, .int .i64 0, .int .i64 2]) ∧ w.grownBy w' none := by
  have HR := Lib.hid (rd_new w a len cap)
  have HG := Lib.hid (World.grownBy_alloc w (.cells #[.slice a len cap, .int .i64 0] 58) none)
  have HE := Lib.hid hE
  clear hE
  go_enter Tryd.func17, Tryd.ntmps17
  go_wp2_with fail
  refine (HP.out _ HG.out HR.out).mono ?_
  rintro e w2 ⟨V, x, q, rfl, ⟨y, t9, q9, rfl⟩, K⟩
  have HK := Lib.hid K
  obtain ⟨c0, c1, f0, f1⟩ := box2_cells w2 (.int .i64 0) .nilIface 63
  have HA := Lib.hid (as_hitF y t9 q9 w2.heap.size G _ _ (w2.alloc (.cells #[.int .i64 0, .nilIface] 63)) (((HE.out.alloc _).keep K.1 hG).alloc _) c0 c1 f0 f1)
  have hs2 := K.1.size
  clear K c0 c1 f0 f1
  go_wp2_with fail
  refine HA.out.mono ?_
  rintro e w3 ⟨rfl, hh⟩
  have HH := Lib.hid hh.grown
  clear hh
  go_wp2_with fail
  go_ret3
  refine ⟨rfl, grown_then (grown_then HG.out HK.out.1 (fun j hj => by cases hj; simp)) ((World.grownBy_alloc _ _ _).trans HH.out) (fun j hj => ?_)⟩
  cases hj
  simp at hs2
  omega

set_option maxRecDepth 100000 in
set_option maxHeartbeats 1600000 in
theorem readL_yes (a : Option Addr) (len cap k : Nat) (w : World) (Q : World → Value → Prop)
    (HP : Hid (∀ W, w.grownBy W none → Rd w.heap.size a len cap 0 W → Calls Tryd.prog 14 #[.pointer (some ⟨w.heap.size, 0, none⟩)] W (fun e w' => ∃ V, e = .returned (.tuple #[V, .nilIface]) ∧ Q w' V ∧ Goes w.heap.size a len cap W k w'))) :
    Calls Tryd.prog 13 #[.slice a len cap, .func (.func 14) #[] #[]] w fun e w' => ∃ V w2, e = .returned (.tuple #[V, .int .i64 k, .int .i64 0]) ∧ Q w2 V ∧ w2.grownBy w' none ∧ w.grownBy w' none := by
  have HR := Lib.hid (rd_new w a len cap)
  have HG := Lib.hid (World.grownBy_alloc w (.cells #[.slice a len cap, .int .i64 0] 58) none)
  go_enter Tryd.func13, Tryd.ntmps13
  go_wp2_with fail
  refine (HP.out _ HG.out HR.out).mono ?_
  rintro e w2 ⟨V, rfl, hQ, K⟩
  have HQ := Lib.hid hQ
  have HK := Lib.hid K
  obtain ⟨c0, c1, f1, hlt⟩ := (K.2.alloc (.cells #[.int .i64 0, .nilIface] 63)).cells
  clear K hQ
  go_wp2_with fail
  refine (as_nil _ _).mono ?_
  rintro e w3 ⟨rfl, rfl⟩
  go_wp2_with fail
  go_quiet (fail)
  go_wp2_with fail
  go_ret3
  have g2 : w2.grownBy ((w2.alloc (.cells #[.int .i64 0, .nilIface] 63)).drewN nq) none := grown_drewN (World.grownBy_alloc _ _ _) _
  exact ⟨V, w2, rfl, HQ.out, g2, grown_then (grown_then HG.out HK.out.1 (fun j hj => by cases hj; simp)) g2 (by simp)⟩
set_option maxRecDepth 100000 in
set_option maxHeartbeats 1600000 in
theorem readL_no (G : Nat) (a : Option Addr) (len cap : Nat) (w : World) (hE : ErrT G w) (hG : G ≤ w.heap.size)
    (HP : Hid (∀ W, w.grownBy W none → Rd w.heap.size a len cap 0 W → Calls Tryd.prog 14 #[.pointer (some ⟨w.heap.size, 0, none⟩)] W (fun e w' => ∃ V x q, e = .returned (.tuple #[V, x]) ∧ Flaw x ∧ Goes w.heap.size a len cap W q w'))) :
    Calls Tryd.prog 13 #[.slice a len cap, .func (.func 14) #[] #[]] w fun e w' => e = .returned (.tuple #[.slice none 0 0, .int .i64 0, .int .i64 2]) ∧ w.grownBy w' none := by
  have HR := Lib.hid (rd_new w a len cap)
  have HG := Lib.hid (World.grownBy_alloc w (.cells #[.slice a len cap, .int .i64 0] 58) none)
  have HE := Lib.hid hE
  clear hE
  go_enter Tryd.func13, Tryd.ntmps13
  go_wp2_with fail
  refine (HP.out _ HG.out HR.out).mono ?_
  rintro e w2 ⟨V, x, q, rfl, ⟨y, t9, q9, rfl⟩, K⟩
  have HK := Lib.hid K
  obtain ⟨c0, c1, f0, f1⟩ := box2_cells w2 (.int .i64 0) .nilIface 63
  have HA := Lib.hid (as_hitF y t9 q9 w2.heap.size G _ _ (w2.alloc (.cells #[.int .i64 0, .nilIface] 63)) (((HE.out.alloc _).keep K.1 hG).alloc _) c0 c1 f0 f1)
  have hs2 := K.1.size
  clear K c0 c1 f0 f1
  go_wp2_with fail
  refine HA.out.mono ?_
  rintro e w3 ⟨rfl, hh⟩
  have HH := Lib.hid hh.grown
  clear hh
  go_wp2_with fail
  go_ret3
  refine ⟨rfl, grown_then (grown_then HG.out HK.out.1 (fun j hj => by cases hj; simp)) ((World.grownBy_alloc _ _ _).trans HH.out) (fun j hj => ?_)⟩
  cases hj
  simp at hs2
  omega

end Go.Proofs.YtnfpomjcofhppaaDoor
