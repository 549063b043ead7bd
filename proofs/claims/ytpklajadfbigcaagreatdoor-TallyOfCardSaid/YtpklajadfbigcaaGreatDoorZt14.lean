import Derived.Test.YtpklajadfbigcaaGreatDoorZt12
import Derived.OneCell
import Derived.Test.YtpklajadfbigcaaGreatDoorZt00
import Derived.Test.YtpklajadfbigcaaGreatDoorZt13
set_option linter.unusedSimpArgs false
set_option linter.unusedVariables false
namespace Go.Proofs.YtpklajadfbigcaaGreatDoor
open Go.RowKit

structure Only (M : Nat → Prop) (w w' : World) : Prop where
  os : w'.os = w.os
  tape : w'.tape = w.tape
  output : w'.output = w.output
  size : w.heap.size ≤ w'.heap.size
  block : ∀ b, b < w.heap.size → ¬ M b → w'.heap[b]? = w.heap[b]?
theorem Only.refl (M : Nat → Prop) (w : World) : Only M w w := ⟨rfl, rfl, rfl, Nat.le_refl _, fun _ _ _ => rfl⟩
theorem Only.drew {M : Nat → Prop} {w w' : World} (h : Only M w w') : Only M w w'.drew := ⟨h.os, h.tape, h.output, h.size, h.block⟩
theorem Only.drewN {M : Nat → Prop} {w w' : World} (h : Only M w w') (n : Nat) : Only M w (w'.drewN n) := ⟨h.os, h.tape, h.output, h.size, h.block⟩
theorem Only.grown {M : Nat → Prop} {w w1 w2 : World} {row : Option Nat} (h : Only M w w1) (hg : w1.grownBy w2 row) (hr : ∀ j, row = some j → M j ∨ w.heap.size ≤ j) : Only M w w2 :=
  ⟨hg.os.trans h.os, hg.tape.trans h.tape, hg.output.trans h.output, Nat.le_trans h.size hg.size, fun b hb hM => (hg.block b (Nat.lt_of_lt_of_le hb h.size) (fun e => by
    rcases hr b e.symm with h1 | h1
    · exact hM h1
    · omega)).trans (h.block b hb hM)⟩
theorem Only.set {M : Nat → Prop} {w w1 : World} (h : Only M w w1) {g : Nat} (hg : M g ∨ w.heap.size ≤ g) (i : Nat) (u : Value) : Only M w (w1.setCell ⟨g, i, none⟩ u) :=
  ⟨h.os, h.tape, h.output, by simp [World.setCell]; exact h.size, fun b hb hM => (Below.heap_setCell _ _ _ _ (fun e => by
    have e' : b = g := e
    subst e'
    rcases hg with h1 | h1
    · exact hM h1
    · omega)).trans (h.block b hb hM)⟩
theorem Only.trans {M : Nat → Prop} {w w1 w2 : World} (h : Only M w w1) {M' : Nat → Prop} (k : Only M' w1 w2) (hM : ∀ b, M' b → M b ∨ w.heap.size ≤ b) : Only M w w2 :=
  ⟨k.os.trans h.os, k.tape.trans h.tape, k.output.trans h.output, Nat.le_trans h.size k.size, fun b hb hb' => (k.block b (Nat.lt_of_lt_of_le hb h.size) (fun e => by
    rcases hM b e with h1 | h1
    · exact hb' h1
    · omega)).trans (h.block b hb hb')⟩
theorem Only.stays {M S : Nat → Prop} {w w' : World} (h : Only M w w') (hS : ∀ b, S b → b < w.heap.size → ¬ M b) : Stays S w w' := ⟨h.size, fun b hb hlt => h.block b hlt (hS b hb hlt)⟩
theorem Only.cell {M : Nat → Prop} {w w' : World} (h : Only M w w') {b o : Nat} {v : Value} (hc : w.cell? ⟨b, o, none⟩ = some v) (hb : ¬ M b) : w'.cell? ⟨b, o, none⟩ = some v :=
  (World.cell?_of_block (a := ⟨b, o, none⟩) (h.block b (World.block_lt_of_cell? w ⟨b, o, none⟩ hc) hb)).trans hc
theorem Only.below {M : Nat → Prop} {w w' : World} {B : Nat} (h : Only M w w') (hB : B ≤ w.heap.size) (hM : ∀ b, M b → B ≤ b) : Below B w w' := ⟨h.os, h.tape, h.output, h.size, fun b hb => h.block b (by omega) (fun e => by have := hM b e; omega)⟩

end Go.Proofs.YtpklajadfbigcaaGreatDoor
namespace Go.Proofs.YtpklajadfbigcaaGreatDoor
open Go.RowKit

theorem grown_reflX (w : World) (row : Option Nat) : w.grownBy w row := ⟨rfl, rfl, rfl, Nat.le_refl _, fun _ _ _ => rfl⟩
theorem grown_belowX {w w' : World} (h : Below w.heap.size w w') (row : Option Nat) : w.grownBy w' row := ⟨h.os, h.tape, h.output, h.size, fun i hi _ => h.block i hi⟩
structure SenAt (G g : Nat) (a : Addr) (text : List UInt8) (w : World) : Prop where
  lt : g < G
  alt : a.block < G
  var : w.cell? ⟨g, 0, none⟩ = some (.iface 184 (.pointer (some a)))
  str : ∃ s, w.cell? a = some (.string s) ∧ s.data.toList = text
  blk : ∃ c t, w.heap[a.block]? = some (.cells c t (0, 0))
theorem SenAt.keep {G g : Nat} {a : Addr} {text : List UInt8} {w w' : World} (h : SenAt G g a text w) (hg : w.grownBy w' none) : SenAt G g a text w' := by
  obtain ⟨h1, h2, h3, ⟨s, h4, h5⟩, ⟨c, t, h6⟩⟩ := h
  have hlt : a.block < w.heap.size := by
    rcases Nat.lt_or_ge a.block w.heap.size with h | h
    · exact h
    · rw [Array.getElem?_eq_none h] at h6; cases h6
  exact ⟨h1, h2, hg.cell h3 (by simp), ⟨s, hg.cell h4 (by simp), h5⟩, ⟨c, t, by rw [hg.block _ hlt (by simp)]; exact h6⟩⟩
end Go.Proofs.YtpklajadfbigcaaGreatDoor
namespace Go.Proofs.YtpklajadfbigcaaGreatDoor

def RS.bk (s t : RS) : Prop := t.err = none → s.err = none
theorem RS.bk.refl (s : RS) : s.bk s := id
theorem RS.bk.trans {s t u : RS} (h : s.bk t) (h' : t.bk u) : s.bk u := fun e => h (h' e)
def Prd.own : Prd → Prop
  | .mk k c _ _ o _ _ _ => (k = 3 ∨ k = 5 ∨ k = 6 ∨ k = 7 → c ≠ ⟨#[]⟩ ∧ o = ⟨#[]⟩) ∧ (k = 4 → c ≠ ⟨#[]⟩ ∧ o ≠ ⟨#[]⟩) ∧ (¬ (k = 3 ∨ k = 4 ∨ k = 5 ∨ k = 6 ∨ k = 7) → c = ⟨#[]⟩ ∧ o = ⟨#[]⟩)
mutual
def Prd.wf : Prd → Prop
  | .mk k c r v o l ks p => Prd.own (.mk k c r v o l ks p) ∧ Prd.wfs ks
def Prd.wfs : List Prd → Prop
  | [] => True
  | x :: r => x.wf ∧ Prd.wfs r
end
def Itm.wf (x : Itm) : Prop := (x.agg ≠ 1 → x.col ≠ ⟨#[]⟩) ∧ (x.agg = 1 → x.col = ⟨#[]⟩)
end Go.Proofs.YtpklajadfbigcaaGreatDoor
namespace Go.Proofs.YtpklajadfbigcaaGreatDoor
open Go.RowKit

end Go.Proofs.YtpklajadfbigcaaGreatDoor
namespace Go.Proofs.YtpklajadfbigcaaGreatDoor

def Tk.e (t : Tk) : Tk := ⟨t.kind, t.text, 0⟩
def erE (e : Option (Nat × Nat)) : Option (Nat × Nat) := e.map fun p => (0, p.2)
def RS.e (s : RS) : RS := ⟨s.rest.map Tk.e, erE s.err⟩
def Itm.e (x : Itm) : Itm := ⟨x.agg, x.col, 0⟩
def Kyo.e (x : Kyo) : Kyo := ⟨x.item.e, x.desc⟩
mutual
def Prd.e : Prd → Prd
  | .mk k c r v o l ks _ => .mk k c r v o l (Prd.es ks) 0
def Prd.es : List Prd → List Prd
  | [] => []
  | x :: r => x.e :: Prd.es r
end
end Go.Proofs.YtpklajadfbigcaaGreatDoor
