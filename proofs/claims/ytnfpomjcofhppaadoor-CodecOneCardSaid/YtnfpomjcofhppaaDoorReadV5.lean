/- Contracts of codec's read of a value and of ReadValue. -/
import Derived.Test.YtnfpomjcofhppaaDoorRead5
namespace Go.Proofs.YtnfpomjcofhppaaDoor
open Go.RowKit

theorem rd_new1 (w : World) (o : Obj) (a : Option Addr) (len cap : Nat) : Rd (w.heap.size + 1) a len cap 0 ((w.alloc o).alloc (.cells #[.slice a len cap, .int .i64 0] 58)) := by
  have := rd_new (w.alloc o) a len cap
  simp only [World.size_alloc] at this
  exact this
set_option maxRecDepth 100000 in
set_option maxHeartbeats 3200000 in
theorem readV_yes (a : Option Addr) (len cap k : Nat) (v : Vl) (w : World)
    (HP : Hid (∀ W, w.grownBy W none → Rd (w.heap.size + 1) a len cap 0 W → Calls Tryd.prog 16 #[.pointer (some ⟨w.heap.size + 1, 0, none⟩)] W (fun e w' => e = .returned (.tuple #[.agg #[.int .i64 v.k, .int .i64 v.n, .string v.s], .nilIface]) ∧ Goes (w.heap.size + 1) a len cap W k w'))) :
    Calls Tryd.prog 15 #[.slice a len cap, .func (.func 16) #[] #[]] w fun e w' => e = .returned (.tuple #[.agg #[.int .i64 v.k, .int .i64 v.n, .string v.s], .int .i64 k, .int .i64 0]) ∧ w.grownBy w' none := by
  have HR := Lib.hid (rd_new1 w (.cells #[.int .i64 0, .int .i64 0, .string ⟨#[]⟩] 30) a len cap)
  have HG := Lib.hid ((World.grownBy_alloc w (.cells #[.int .i64 0, .int .i64 0, .string ⟨#[]⟩] 30) none).trans (World.grownBy_alloc _ (.cells #[.slice a len cap, .int .i64 0] 58) none))
  have HB0 := Lib.hid (Box3.new w (.int .i64 0) (.int .i64 0) (.string ⟨#[]⟩) 30)
  go_enter Tryd.func15, Tryd.ntmps15
  go_wp2_with fail
  refine (HP.out _ HG.out HR.out).mono ?_
  rintro e w2 ⟨rfl, K⟩
  have HK := Lib.hid K
  have hs2 := K.1.size
  simp only [World.size_alloc] at hs2
  have HB2 := Lib.hid ((HB0.out.keep (World.grownBy_alloc _ (.cells #[.slice a len cap, .int .i64 0] 58) (some (w.heap.size + 1))) (by omega)).keep K.1 (by omega))
  obtain ⟨W5, hW5⟩ : ∃ W5, W5 = (w2.alloc (.cells #[.int .i64 v.k, .int .i64 v.n, .string v.s] 30)).alloc (.cells #[.int .i64 0, .nilIface] 63) := ⟨_, rfl⟩
  have gr5 : w2.grownBy W5 (some (w.heap.size + 1)) := by rw [hW5]; exact (World.grownBy_alloc _ _ _).trans (World.grownBy_alloc _ _ _)
  have b5 : Box3 w2.heap.size W5 (.int .i64 v.k) (.int .i64 v.n) (.string v.s) := by
    rw [hW5]
    exact (Box3.new w2 (.int .i64 v.k) (.int .i64 v.n) (.string v.s) 30).keep (g := w.heap.size) (World.grownBy_alloc _ _ _) (by omega)
  obtain ⟨z0, z1, z2, y0, y1, y2⟩ := HB2.out.keep gr5 (by omega)
  obtain ⟨x0, x1, x2, _, _, _⟩ := b5
  have c1 : W5.cell? ⟨w.heap.size + 1, 1, none⟩ = some (.int .i64 k) := by
    rw [hW5]
    exact ((HK.out.2.alloc (.cells #[.int .i64 v.k, .int .i64 v.n, .string v.s] 30)).alloc (.cells #[.int .i64 0, .nilIface] 63)).cells.2.1
  have GG : Hid (w.grownBy W5 none) := Lib.hid (by
    refine grown_then (grown_then HG.out HK.out.1 (fun j hj => by cases hj; simp)) (row' := none) ?_ (by simp)
    rw [hW5]; exact (World.grownBy_alloc _ _ _).trans (World.grownBy_alloc _ _ _))
  have HW5 := Lib.hid hW5
  clear K gr5
  go_wp2_with fail
  refine (as_nil _ _).mono ?_
  rintro e w3 ⟨rfl, rfl⟩
  rw [← HW5.out]
  clear hW5
  go_wp2_with fail
  go_region
  all_goals
    go_wp2_with fail
    refine bodyPost_ret (v := .tuple #[.agg #[.int .i64 v.k, .int .i64 v.n, .string v.s], .int .i64 k, .int .i64 0]) (by simp [results, Tryd.results15, go_sem, z0, z1, z2]) rfl ⟨rfl, ?_⟩
    first
      | exact grown_new (grown_new (grown_new GG.out (Nat.le_refl _) _ _) (Nat.le_refl _) _ _) (Nat.le_refl _) _ _
      | exact grown_drew (grown_new (grown_new (grown_new GG.out (Nat.le_refl _) _ _) (Nat.le_refl _) _ _) (Nat.le_refl _) _ _)
set_option maxRecDepth 100000 in
set_option maxHeartbeats 3200000 in
theorem readV_no (G : Nat) (a : Option Addr) (len cap : Nat) (w : World) (hE : ErrT G w) (hG : G ≤ w.heap.size)
    (HP : Hid (∀ W, w.grownBy W none → Rd (w.heap.size + 1) a len cap 0 W → Calls Tryd.prog 16 #[.pointer (some ⟨w.heap.size + 1, 0, none⟩)] W (fun e w' => ∃ vk vn vs x q, e = .returned (.tuple #[.agg #[.int .i64 vk, .int .i64 vn, .string vs], x]) ∧ Flaw x ∧ Goes (w.heap.size + 1) a len cap W q w'))) :
    Calls Tryd.prog 15 #[.slice a len cap, .func (.func 16) #[] #[]] w fun e w' => e = .returned (.tuple #[.agg #[.int .i64 0, .int .i64 0, .string ⟨#[]⟩], .int .i64 0, .int .i64 2]) ∧ w.grownBy w' none := by
  have HR := Lib.hid (rd_new1 w (.cells #[.int .i64 0, .int .i64 0, .string ⟨#[]⟩] 30) a len cap)
  have HG := Lib.hid ((World.grownBy_alloc w (.cells #[.int .i64 0, .int .i64 0, .string ⟨#[]⟩] 30) none).trans (World.grownBy_alloc _ (.cells #[.slice a len cap, .int .i64 0] 58) none))
  have HB0 := Lib.hid (Box3.new w (.int .i64 0) (.int .i64 0) (.string ⟨#[]⟩) 30)
  have HE := Lib.hid hE
  clear hE
  go_enter Tryd.func15, Tryd.ntmps15
  go_wp2_with fail
  refine (HP.out _ HG.out HR.out).mono ?_
  rintro e w2 ⟨vk, vn, vs, x, q, rfl, ⟨y, t9, q9, rfl⟩, K⟩
  have HK := Lib.hid K
  have hs2 := K.1.size
  simp only [World.size_alloc] at hs2
  have HB2 := Lib.hid ((HB0.out.keep (World.grownBy_alloc _ (.cells #[.slice a len cap, .int .i64 0] 58) (some (w.heap.size + 1))) (by omega)).keep K.1 (by omega))
  obtain ⟨c0, c1, f0, f1⟩ := box2_cells (w2.alloc (.cells #[.int .i64 vk, .int .i64 vn, .string vs] 30)) (.int .i64 0) .nilIface 63
  simp only [World.size_alloc] at c0 c1 f0 f1
  have HA := Lib.hid (as_hitF y t9 q9 (w2.heap.size + 1) G _ _ ((w2.alloc (.cells #[.int .i64 vk, .int .i64 vn, .string vs] 30)).alloc (.cells #[.int .i64 0, .nilIface] 63)) (((((HE.out.alloc _).alloc _).keep K.1 (by omega)).alloc _).alloc _) c0 c1 f0 f1)
  clear K c0 c1 f0 f1
  go_wp2_with fail
  refine HA.out.mono ?_
  rintro e w3 ⟨rfl, hh⟩
  have HH := Lib.hid hh.grown
  have HG3 : Hid (w.grownBy w3 none) := Lib.hid (grown_then (grown_then HG.out HK.out.1 (fun j hj => by cases hj; simp)) (((World.grownBy_alloc _ _ _).trans (World.grownBy_alloc _ _ _)).trans HH.out) (fun j hj => by cases hj; omega))
  obtain ⟨z0, z1, z2, y0, y1, y2⟩ := HB2.out.keep (((World.grownBy_alloc _ _ _).trans (World.grownBy_alloc _ _ _)).trans HH.out) (by omega)
  have hs3 : w.heap.size < w3.heap.size := block_lt_of_cell z0
  clear hh
  go_wp2_with fail
  refine bodyPost_ret (v := .tuple #[.agg #[.int .i64 0, .int .i64 0, .string ⟨#[]⟩], .int .i64 0, .int .i64 2]) (by simp [results, Tryd.results15, go_sem, z0, z1, z2, hs3, World.cell?_alloc_lt]) rfl ⟨rfl, ?_⟩
  exact (grown_new (grown_new (grown_new HG3.out (Nat.le_refl _) _ _) (Nat.le_refl _) _ _) (Nat.le_refl _) _ _).trans (World.grownBy_alloc _ _ none)
end Go.Proofs.YtnfpomjcofhppaaDoor
