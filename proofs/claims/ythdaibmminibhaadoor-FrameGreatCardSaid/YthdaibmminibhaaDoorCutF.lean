/- Contracts of frame's cut. -/
import Derived.Test.YthdaibmminibhaaDoorTold
namespace Go.Proofs.YthdaibmminibhaaDoor
open Go.RowKit

/-- What cut answers where the bytes don't begin with a frame. -/
def CutNo (w : World) (e : Ending) (w' : World) : Prop := ∃ t p, e = .returned (.tuple #[.agg #[.slice none 0 0, .int .i64 0, .slice none 0 0], .slice none 0 0, .iface 131 (.agg #[.int .i64 2, .iface t p])]) ∧ w.grownBy w' none
theorem row3_new (w : World) (u v x : Value) (T : TypeId) : (w.alloc (.cells #[u, v, x] T)).heap[w.heap.size]? = some (.cells #[u, v, x] T) := heap_alloc_new w _
theorem row3_froz {w : World} {b : Nat} {u v x : Value} {T : TypeId} (e : w.heap[b]? = some (.cells #[u, v, x] T)) (i : Nat) : w.frozen? ⟨b, i, none⟩ = false := by
  unfold World.frozen?; rw [e]; rfl
theorem row3_set {w : World} {b : Nat} {u v x : Value} {T : TypeId} (e : w.heap[b]? = some (.cells #[u, v, x] T)) (u' v' x' : Value) :
    (((w.setCell ⟨b, 0, none⟩ u').setCell ⟨b, 1, none⟩ v').setCell ⟨b, 2, none⟩ x').heap[b]? = some (.cells #[u', v', x'] T) := by
  simp [World.setCell, Array.getElem?_modify, e]
set_option maxHeartbeats 3200000 in
theorem cut_no (G : Nat) (a : Option Addr) (l : List UInt8) (cap : Nat) (w : World) (h : Env3 G w a l cap) (hF : SentF w) (hlen : l.length ≤ 100000000) (hn : msr l = none) :
    Calls Tryd.prog 71 #[.slice a l.length cap] w (CutNo w) := by
  have HA := Lib.hid (fun W (hg : w.grownBy W none) => measure_any G a l cap W (h.keep hg) (hF.keep hg) hlen)
  rw [hn] at HA
  obtain ⟨m, hm⟩ : ∃ m, m = l.length := ⟨_, rfl⟩
  rw [← hm] at HA ⊢
  clear h hF hlen hn hm
  go_enter Tryd.func71, Tryd.ntmps71
  go_wp2_with fail
  refine (HA.out _ (World.grownBy_alloc _ _ _)).mono ?_
  rintro e w1 ⟨_, h2, hg⟩
  obtain ⟨t, p, rfl⟩ := h2 rfl
  clear h2
  have hr : w1.heap[w.heap.size]? = some (.cells #[.slice none 0 0, .int .i64 0, .slice none 0 0] 127) := by
    rw [hg.block _ (by simp) (by simp)]; exact row3_new _ _ _ _ _
  have c0 := cell_of_row _ _ 0 _ _ _ hr
  have c1 := cell_of_row _ _ 1 _ _ _ hr
  have c2 := cell_of_row _ _ 2 _ _ _ hr
  have f0 := row3_froz hr 0
  have f1 := row3_froz hr 1
  have f2 := row3_froz hr 2
  have HR := Lib.hid (row3_set hr (.slice none 0 0) (.int .i64 0) (.slice none 0 0))
  have HG := Lib.hid (grown_new (grown_new (grown_new ((World.grownBy_alloc w (.cells #[.slice none 0 0, .int .i64 0, .slice none 0 0] 127) none).trans hg) (Nat.le_refl _) 0 (.slice none 0 0)) (Nat.le_refl _) 1 (.int .i64 0)) (Nat.le_refl _) 2 (.slice none 0 0))
  clear hg hr
  go_wp2_with fail
  refine bodyPost_ret (v := .tuple #[.agg #[.slice none 0 0, .int .i64 0, .slice none 0 0], .slice none 0 0, .iface 131 (.agg #[.int .i64 2, .iface t p])]) ?_ rfl ⟨t, p, rfl, HG.out⟩
  have hL := run_loadVar_row (P := Tryd.prog) _ w.heap.size 127 127 _ _ _ HR.out Tryd.underlying127 rfl (by kernel_rfl)
  simp [results, Tryd.f71, asAddr, hL]
theorem msr_some {l : List UInt8} {f t : Nat} (h : msr l = some (f, t)) : 1 ≤ f ∧ f ≤ t ∧ t + 4 ≤ l.length := by
  cases l with
  | nil => cases h
  | cons c s =>
    by_cases h83 : c = 83
    · subst h83
      rw [msr_head] at h
      cases hr : readN s with
      | none => rw [hr] at h; cases h
      | some x =>
        obtain ⟨n, k⟩ := x
        rw [hr] at h
        simp only at h
        split at h
        · cases h
          simp
          omega
        · cases h
    · rw [msr_other h83] at h; cases h
set_option maxRecDepth 100000 in
set_option maxHeartbeats 3200000 in
theorem cut_yes (G b off : Nat) (l : List UInt8) (cap f t : Nat) (w : World) (h : Env3 G w (some ⟨b, off, none⟩) l cap) (hF : SentF w) (hlen : l.length ≤ 100000000) (hn : msr l = some (f, t)) (hc : cap ≠ t + 4) :
    Calls Tryd.prog 71 #[.slice (some ⟨b, off, none⟩) l.length cap] w fun e w' => e = .returned (.tuple #[.agg #[.slice (some ⟨b, off, none⟩) t cap, .int .i64 f, .slice (some ⟨b, off + t, none⟩) 4 (cap - t)], .slice (some ⟨b, off + (t + 4), none⟩) (l.length - (t + 4)) (cap - (t + 4)), .nilIface]) ∧ w.grownBy w' none := by
  have HA := Lib.hid (fun W (hg : w.grownBy W none) => measure_any G _ l cap W (h.keep hg) (hF.keep hg) hlen)
  have hcl := h.c
  have hcm := h.m
  obtain ⟨h1, h2, h3⟩ := msr_some hn
  rw [hn] at HA
  obtain ⟨m, hm⟩ : ∃ m, m = l.length := ⟨_, rfl⟩
  rw [← hm] at HA hcl hlen h3 ⊢
  clear h hF hn hm
  have j0 : (f : Int) ≤ t := by omega
  have j1 : (t : Int) + 4 ≤ m := by omega
  have j2 : (m : Int) ≤ cap := by omega
  have j3 : (t : Int) + 4 ≤ cap := by omega
  have j4 : ¬ cap = t := by omega
  have j5 : ¬ (cap : Int) = t := by omega
  have j6 : ¬ (cap : Int) = (t : Int) + 4 := by omega
  go_enter Tryd.func71, Tryd.ntmps71
  go_wp2_with fail
  refine (HA.out _ (World.grownBy_alloc _ _ _)).mono ?_
  rintro e w1 ⟨h2, _, hg⟩
  obtain rfl := h2 _ _ rfl
  clear h2
  have hr : w1.heap[w.heap.size]? = some (.cells #[.slice none 0 0, .int .i64 0, .slice none 0 0] 127) := by
    rw [hg.block _ (by simp) (by simp)]; exact row3_new _ _ _ _ _
  have c0 := cell_of_row _ _ 0 _ _ _ hr
  have c1 := cell_of_row _ _ 1 _ _ _ hr
  have c2 := cell_of_row _ _ 2 _ _ _ hr
  have f0 := row3_froz hr 0
  have f1 := row3_froz hr 1
  have f2 := row3_froz hr 2
  have HR := Lib.hid (row3_set hr (.slice (some ⟨b, off, none⟩) t cap) (.int .i64 f) (.slice (some ⟨b, off + t, none⟩) 4 (cap - t)))
  have HG := Lib.hid (fun u v x => grown_new (grown_new (grown_new ((World.grownBy_alloc w (.cells #[.slice none 0 0, .int .i64 0, .slice none 0 0] 127) none).trans hg) (Nat.le_refl _) 0 u) (Nat.le_refl _) 1 v) (Nat.le_refl _) 2 x)
  clear hg hr
  go_wp2_with fail
  go_region
  go_wp2_with fail
  refine bodyPost_ret (v := .tuple #[.agg #[.slice (some ⟨b, off, none⟩) t cap, .int .i64 f, .slice (some ⟨b, off + t, none⟩) 4 (cap - t)], .slice (some ⟨b, off + (t + 4), none⟩) (m - (t + 4)) (cap - (t + 4)), .nilIface]) ?_ rfl ⟨rfl, grown_drewN (HG.out _ _ _) 1⟩
  have hL := run_loadVar_row (P := Tryd.prog) _ w.heap.size 127 127 _ _ _ (show (((w1.setCell ⟨w.heap.size, 0, none⟩ (.slice (some ⟨b, off, none⟩) t cap)).setCell ⟨w.heap.size, 1, none⟩ (.int .i64 f)).setCell ⟨w.heap.size, 2, none⟩ (.slice (some ⟨b, off + t, none⟩) 4 (cap - t))).drew.heap[w.heap.size]? = _ from HR.out) Tryd.underlying127 rfl (by kernel_rfl)
  simp [results, Tryd.f71, asAddr, hL]
set_option maxRecDepth 100000 in
set_option maxHeartbeats 3200000 in
/-- .. where the room ends with the frame. -/
theorem cut_edge (G b off : Nat) (l : List UInt8) (cap f t : Nat) (w : World) (h : Env3 G w (some ⟨b, off, none⟩) l cap) (hF : SentF w) (hlen : l.length ≤ 100000000) (hn : msr l = some (f, t)) (hc : cap = t + 4) :
    Calls Tryd.prog 71 #[.slice (some ⟨b, off, none⟩) l.length cap] w fun e w' => e = .returned (.tuple #[.agg #[.slice (some ⟨b, off, none⟩) t cap, .int .i64 f, .slice (some ⟨b, off + t, none⟩) 4 (cap - t)], .slice (some ⟨b, off, none⟩) 0 0, .nilIface]) ∧ w.grownBy w' none := by
  have HA := Lib.hid (fun W (hg : w.grownBy W none) => measure_any G _ l cap W (h.keep hg) (hF.keep hg) hlen)
  have hcl := h.c
  have hcm := h.m
  obtain ⟨h1, h2, h3⟩ := msr_some hn
  rw [hn] at HA
  obtain ⟨m, hm⟩ : ∃ m, m = l.length := ⟨_, rfl⟩
  rw [← hm] at HA hcl hlen h3 ⊢
  clear h hF hn hm
  have j0 : (f : Int) ≤ t := by omega
  have j1 : (t : Int) + 4 ≤ m := by omega
  have j2 : (m : Int) ≤ cap := by omega
  have j3 : (t : Int) + 4 ≤ cap := by omega
  have j4 : ¬ cap = t := by omega
  have j5 : ¬ (cap : Int) = t := by omega
  have j7 : (cap : Int) = (t : Int) + 4 := by omega
  obtain rfl : m = t + 4 := by omega
  obtain rfl : cap = t + 4 := hc
  rw [show t + 4 - t = 4 by omega]
  go_enter Tryd.func71, Tryd.ntmps71
  go_wp2_with fail
  refine (HA.out _ (World.grownBy_alloc _ _ _)).mono ?_
  rintro e w1 ⟨h2, _, hg⟩
  obtain rfl := h2 _ _ rfl
  clear h2
  have hr : w1.heap[w.heap.size]? = some (.cells #[.slice none 0 0, .int .i64 0, .slice none 0 0] 127) := by
    rw [hg.block _ (by simp) (by simp)]; exact row3_new _ _ _ _ _
  have c0 := cell_of_row _ _ 0 _ _ _ hr
  have c1 := cell_of_row _ _ 1 _ _ _ hr
  have c2 := cell_of_row _ _ 2 _ _ _ hr
  have f0 := row3_froz hr 0
  have f1 := row3_froz hr 1
  have f2 := row3_froz hr 2
  have HR := Lib.hid (row3_set hr (.slice (some ⟨b, off, none⟩) t (t + 4)) (.int .i64 f) (.slice (some ⟨b, off + t, none⟩) 4 4))
  have HG := Lib.hid (fun u v x => grown_new (grown_new (grown_new ((World.grownBy_alloc w (.cells #[.slice none 0 0, .int .i64 0, .slice none 0 0] 127) none).trans hg) (Nat.le_refl _) 0 u) (Nat.le_refl _) 1 v) (Nat.le_refl _) 2 x)
  clear hg hr
  go_wp2_with fail
  go_region
  go_wp2_with fail
  refine bodyPost_ret (v := .tuple #[.agg #[.slice (some ⟨b, off, none⟩) t (t + 4), .int .i64 f, .slice (some ⟨b, off + t, none⟩) 4 4], .slice (some ⟨b, off, none⟩) 0 0, .nilIface]) ?_ rfl ⟨rfl, grown_drewN (HG.out _ _ _) 1⟩
  have hL := run_loadVar_row (P := Tryd.prog) _ w.heap.size 127 127 _ _ _ (show (((w1.setCell ⟨w.heap.size, 0, none⟩ (.slice (some ⟨b, off, none⟩) t (t + 4))).setCell ⟨w.heap.size, 1, none⟩ (.int .i64 f)).setCell ⟨w.heap.size, 2, none⟩ (.slice (some ⟨b, off + t, none⟩) 4 4)).drew.heap[w.heap.size]? = _ from HR.out) Tryd.underlying127 rfl (by kernel_rfl)
  simp [results, Tryd.f71, asAddr, hL]
end Go.Proofs.YthdaibmminibhaaDoor
