/- Reading bytes: what a reader is in memory, what its calls do to the world; contracts of cut, wrong, next, toInt. -/
import Derived.Test.YtnfpomjcofhppaaDoorReadM
import Derived.Deep.QuietTactic
import Derived.BigQuiet
import Derived.Deep.RegionHeld3
import Derived.Deep.RegionWith
namespace Go.Proofs.YtnfpomjcofhppaaDoor
open Go.RowKit

theorem ret_tup {a b : Array Value} (h : a = b) : Ending.returned (.tuple a) = .returned (.tuple b) := by rw [h]
/-- The slice of bytes at a reads as l in w: nothing, or a row of cells below B. -/
def BAt (B : Nat) (w : World) (a : Option Addr) (l : List UInt8) : Prop :=
  l.length ≤ 9223372036854775807 ∧ (l = [] ∨ ∃ b off, a = some ⟨b, off, none⟩ ∧ b < B ∧ ∀ i, i < l.length → w.cell? ⟨b, off + i, none⟩ = some (bV (l.getD i 0)))
theorem BAt.at {B : Nat} {w : World} {a : Option Addr} {l : List UInt8} (h : BAt B w a l) {i : Nat} (hi : i < l.length) : ∃ b off, a = some ⟨b, off, none⟩ ∧ b < B ∧ w.cell? ⟨b, off + i, none⟩ = some (bV (l.getD i 0)) := by
  rcases h.2 with rfl | ⟨b, off, e, hlt, hc⟩
  · simp at hi
  · exact ⟨b, off, e, hlt, hc i hi⟩
theorem BAt.keep {B : Nat} {w w' : World} {a : Option Addr} {l : List UInt8} (h : BAt B w a l) {row : Option Nat} (hg : w.grownBy w' row) (hr : ∀ k, row = some k → B ≤ k) : BAt B w' a l := by
  refine ⟨h.1, ?_⟩
  rcases h.2 with h1 | ⟨b, off, e, hlt, hc⟩
  · exact .inl h1
  · refine .inr ⟨b, off, e, hlt, fun i hi => ?_⟩
    have hci := hc i hi
    exact hg.cell hci (by intro hk; have := hr b hk.symm; omega)
theorem grown_refl (w : World) (row : Option Nat) : w.grownBy w row := ⟨rfl, rfl, rfl, Nat.le_refl _, fun _ _ _ => rfl⟩
theorem grown_below {w w' : World} (h : Below w.heap.size w w') (row : Option Nat) : w.grownBy w' row := ⟨h.os, h.tape, h.output, h.size, fun i hi _ => h.block i hi⟩
theorem grown_none {w w' : World} (h : w.grownBy w' none) (row : Option Nat) : w.grownBy w' row := ⟨h.os, h.tape, h.output, h.size, fun i hi _ => h.block i hi (by simp)⟩
theorem grown_drew {w w' : World} {row : Option Nat} (h : w.grownBy w' row) : w.grownBy w'.drew row := ⟨h.os, h.tape, h.output, h.size, h.block⟩
theorem grown_drewN {w w' : World} {row : Option Nat} (h : w.grownBy w' row) (n : Nat) : w.grownBy (w'.drewN n) row := ⟨h.os, h.tape, h.output, h.size, h.block⟩
theorem grown_set {w w' : World} {g : Nat} (h : w.grownBy w' (some g)) (i : Nat) (v : Value) : w.grownBy (w'.setCell ⟨g, i, none⟩ v) (some g) := by
  refine ⟨h.os, h.tape, h.output, ?_, fun k hk hne => ?_⟩
  · have := h.size; simpa using this
  · have e : k ≠ g := fun e => hne (by rw [e])
    rw [Below.heap_setCell _ _ _ _ e]
    exact h.block k hk hne
/-- The reader's box at g: a slice, and how many bytes are read. -/
def Rd (g : Nat) (a : Option Addr) (len cap p : Nat) (w : World) : Prop := w.heap[g]? = some (.cells #[.slice a len cap, .int .i64 p] 58 (0, 0))
theorem Rd.cells {g : Nat} {a : Option Addr} {len cap p : Nat} {w : World} (h : Rd g a len cap p w) :
    w.cell? ⟨g, 0, none⟩ = some (.slice a len cap) ∧ w.cell? ⟨g, 1, none⟩ = some (.int .i64 p) ∧ w.frozen? ⟨g, 1, none⟩ = false ∧ g < w.heap.size := by
  have hs : g < w.heap.size := by
    rcases Nat.lt_or_ge g w.heap.size with h' | h'
    · exact h'
    · rw [Rd, Array.getElem?_eq_none h'] at h; cases h
  exact ⟨cell_of_row _ _ 0 _ _ _ h, cell_of_row _ _ 1 _ _ _ h, by unfold Rd at h; simp [World.frozen?, h], hs⟩
theorem Rd.set {g : Nat} {a : Option Addr} {len cap p q : Nat} {w : World} (h : Rd g a len cap p w) : Rd g a len cap q (w.setCell ⟨g, 1, none⟩ (.int .i64 q)) := by
  unfold Rd at h ⊢
  simp [World.setCell, Array.getElem?_modify, h]
theorem Rd.drewN {g : Nat} {a : Option Addr} {len cap p : Nat} {w : World} (h : Rd g a len cap p w) (n : Nat) : Rd g a len cap p (w.drewN n) := h
theorem Rd.below {g : Nat} {a : Option Addr} {len cap p : Nat} {w w' : World} (h : Rd g a len cap p w) (hb : Below w.heap.size w w') : Rd g a len cap p w' := (hb.block g h.cells.2.2.2).trans h
/-- What a call of a reader's does to the world: it reads on to p. -/
def Goes (g : Nat) (a : Option Addr) (len cap : Nat) (w : World) (p : Nat) (w' : World) : Prop := w.grownBy w' (some g) ∧ Rd g a len cap p w'
theorem Goes.trans {g : Nat} {a : Option Addr} {len cap p q : Nat} {w w1 w2 : World} (h : Goes g a len cap w p w1) (k : Goes g a len cap w1 q w2) : Goes g a len cap w q w2 :=
  ⟨h.1.trans k.1, k.2⟩
/-- The program's errors can be read. -/
def Sent (G : Nat) (w : World) : Prop := (5 < G ∧ ∃ t p, w.cell? ⟨5, 0, none⟩ = some (.iface t p)) ∧ (1 < G ∧ ∃ t p, w.cell? ⟨1, 0, none⟩ = some (.iface t p))
  ∧ (2 < G ∧ ∃ t p, w.cell? ⟨2, 0, none⟩ = some (.iface t p)) ∧ (0 < G ∧ ∃ t p, w.cell? ⟨0, 0, none⟩ = some (.iface t p)) ∧ (4 < G ∧ ∃ t p, w.cell? ⟨4, 0, none⟩ = some (.iface t p))
theorem one_keep {G g k : Nat} {w w' : World} (h : k < G ∧ ∃ t p, w.cell? ⟨k, 0, none⟩ = some (.iface t p)) (hg : w.grownBy w' (some g)) (hG : G ≤ g) : k < G ∧ ∃ t p, w'.cell? ⟨k, 0, none⟩ = some (.iface t p) := by
  obtain ⟨h1, t, p, hv⟩ := h
  exact ⟨h1, t, p, hg.cell hv (by simp; omega)⟩
theorem Sent.keep {G g : Nat} {w w' : World} (h : Sent G w) (hg : w.grownBy w' (some g)) (hG : G ≤ g) : Sent G w' :=
  ⟨one_keep h.1 hg hG, one_keep h.2.1 hg hG, one_keep h.2.2.1 hg hG, one_keep h.2.2.2.1 hg hG, one_keep h.2.2.2.2 hg hG⟩
/-- An error of the reader's. -/
def Flaw (v : Value) : Prop := ∃ (x : Int) (t : TypeId) (q : Value), v = .iface 63 (.agg #[.int .i64 x, .iface t q])

set_option maxHeartbeats 800000 in
theorem cut_any (G g : Nat) (a : Option Addr) (len cap p : Nat) (w : World) (hR : Rd g a len cap p w) (hS : Sent G w) :
    Calls Tryd.prog 35 #[.pointer (some ⟨g, 0, none⟩)] w fun e w' => ∃ v n, e = .returned v ∧ Flaw v ∧ w' = w.drewN n := by
  obtain ⟨c0, c1, f1, hlt⟩ := hR.cells
  obtain ⟨_, t, q, hv⟩ := hS.1
  clear hS hR
  go_enter Tryd.func35, Tryd.ntmps35
  go_wp2_with fail
  go_quiet (fail)
  go_wp2_with fail
  go_ret
  exact ⟨_, _, rfl, ⟨_, _, _, rfl⟩, rfl⟩
set_option maxHeartbeats 800000 in
theorem wrong_any (g : Nat) (a : Option Addr) (len cap p : Nat) (t : TypeId) (q : Value) (w : World) (hR : Rd g a len cap p w) :
    Calls Tryd.prog 28 #[.pointer (some ⟨g, 0, none⟩), .iface t q] w fun e w' => ∃ v n, e = .returned v ∧ Flaw v ∧ w' = w.drewN n := by
  obtain ⟨c0, c1, f1, hlt⟩ := hR.cells
  clear hR
  go_enter Tryd.func28, Tryd.ntmps28
  go_wp2_with fail
  go_ret
  exact ⟨_, 0, rfl, ⟨_, _, _, rfl⟩, rfl⟩
set_option maxHeartbeats 1600000 in
theorem next_end (G g : Nat) (a : Option Addr) (len cap : Nat) (w : World) (hR : Rd g a len cap len w) (hS : Sent G w) :
    Calls Tryd.prog 25 #[.pointer (some ⟨g, 0, none⟩)] w fun e w' => ∃ v, e = .returned (.tuple #[.int .u8 0, v]) ∧ Flaw v ∧ Goes g a len cap w len w' := by
  have HC := Lib.hid (fun n => cut_any G g a len cap len (w.drewN n) (hR.drewN n) hS)
  have HR := Lib.hid hR
  obtain ⟨c0, c1, f1, hlt⟩ := hR.cells
  clear hS hR
  go_enter Tryd.func25, Tryd.ntmps25
  go_wp2_with fail
  go_quiet (fail)
  go_wp2_with fail
  refine (HC.out _).mono ?_
  rintro e w' ⟨v, n, rfl, hv, rfl⟩
  go_wp2_with fail
  go_ret2
  exact ⟨_, rfl, hv, grown_drewN (grown_refl _ _) _, HR.out⟩
set_option maxHeartbeats 1600000 in
theorem next_yes (g : Nat) (a : Option Addr) (l : List UInt8) (cap p : Nat) (w : World) (hR : Rd g a l.length cap p w) (hb : BAt g w a l) (hp : p < l.length) :
    Calls Tryd.prog 25 #[.pointer (some ⟨g, 0, none⟩)] w fun e w' => e = .returned (.tuple #[bV (l.getD p 0), .nilIface]) ∧ Goes g a l.length cap w (p + 1) w' := by
  have hm := hb.1
  obtain ⟨b, off, rfl, hbg, hc⟩ := hb.at hp
  have HR := Lib.hid hR
  obtain ⟨c0, c1, f1, hlt⟩ := hR.cells
  have hne : ((p : Int) == (l.length : Int)) = false := beq_eq_false_iff_ne.2 (by omega)
  have hc2 : ∀ (n : Nat) (v : Value), ((w.drewN n).setCell ⟨g, 1, none⟩ v).cell? ⟨b, off + p, none⟩ = some (bV (l.getD p 0)) := fun n v => by
    have := (grown_set (grown_drewN (grown_refl w (some g)) n) 1 v).cell hc (by simp; omega)
    exact this
  generalize l.getD p 0 = c at *
  have i1 : (p : Int) < l.length := by omega
  have i0 : 0 ≤ (p : Int) := by omega
  clear hR hb
  go_enter Tryd.func25, Tryd.ntmps25
  go_wp2_with fail
  go_quiet (fail)
  go_wp2_with fail
  go_quiet (fail)
  go_wp2_with fail
  go_ret2
  exact ⟨rfl, grown_drewN (grown_set (grown_drewN (grown_refl _ _) _) _ _) _, HR.out.set⟩
end Go.Proofs.YtnfpomjcofhppaaDoor
