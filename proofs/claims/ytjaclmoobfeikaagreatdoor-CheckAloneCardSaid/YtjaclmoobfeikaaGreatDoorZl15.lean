/- Names rising, each once: sorted and made compact, or put in one by one: the mathematics. tree's walk: what goes through a tree. Queries but for places: what is read hangs on the tokens' kinds and texts alone. -/
import Derived.Test.YtjaclmoobfeikaaGreatDoorZl12
import Derived.Test.YtjaclmoobfeikaaGreatDoorZl14
import Derived.OneCell
import Derived.Test.YtjaclmoobfeikaaGreatDoorZl13
namespace Go.Proofs.YtjaclmoobfeikaaGreatDoor

abbrev Nm := List UInt8
/-- A name put into its place, if it isn't there yet. -/
def insL1 (x : Nm) : List Nm → List Nm
  | [] => [x]
  | y :: r => if x ≤ y then (if x < y then x :: y :: r else y :: r) else y :: insL1 x r
def withN (l : List Nm) (x : Nm) : List Nm := if x = [] then l else insL1 x l
end Go.Proofs.YtjaclmoobfeikaaGreatDoor
namespace Go.Proofs.YtjaclmoobfeikaaGreatDoor
open Go.RowKit

/-- Nothing elder has turned but in blocks of M. -/
structure Only (M : Nat → Prop) (w w' : World) : Prop where
  os : w'.os = w.os
  tape : w'.tape = w.tape
  output : w'.output = w.output
  size : w.heap.size ≤ w'.heap.size
  block : ∀ b, b < w.heap.size → ¬ M b → w'.heap[b]? = w.heap[b]?
theorem Only.refl (M : Nat → Prop) (w : World) : Only M w w := ⟨rfl, rfl, rfl, Nat.le_refl _, fun _ _ _ => rfl⟩
theorem Only.drew {M : Nat → Prop} {w w' : World} (h : Only M w w') : Only M w w'.drew := ⟨h.os, h.tape, h.output, h.size, h.block⟩
theorem Only.drewN {M : Nat → Prop} {w w' : World} (h : Only M w w') (n : Nat) : Only M w (w'.drewN n) := ⟨h.os, h.tape, h.output, h.size, h.block⟩
theorem Only.grown {M : Nat → Prop} {w w1 w2 : World} {row : Option Nat} (h : Only M w w1) (hg : w1.grownBy w2 row) (hr : ∀ j, row = some j → M j ∨ w.heap.size ≤ j) : Only M w w2 :=
  ⟨hg.os.trans h.os, hg.tape.trans h.tape, hg.output.trans h.output, Nat.le_trans h.size hg.size, fun b hb hM => (hg.block b (Nat.lt_of_lt_of_le hb h.size) (fun e => by
    rcases hr b e.symm with h1 | h1
    · exact hM h1
    · omega)).trans (h.block b hb hM)⟩
theorem Only.set {M : Nat → Prop} {w w1 : World} (h : Only M w w1) {g : Nat} (hg : M g ∨ w.heap.size ≤ g) (i : Nat) (u : Value) : Only M w (w1.setCell ⟨g, i, none⟩ u) :=
  ⟨h.os, h.tape, h.output, by simp [World.setCell]; exact h.size, fun b hb hM => (Below.heap_setCell _ _ _ _ (fun e => by
    have e' : b = g := e
    subst e'
    rcases hg with h1 | h1
    · exact hM h1
    · omega)).trans (h.block b hb hM)⟩
theorem Only.trans {M : Nat → Prop} {w w1 w2 : World} (h : Only M w w1) {M' : Nat → Prop} (k : Only M' w1 w2) (hM : ∀ b, M' b → M b ∨ w.heap.size ≤ b) : Only M w w2 :=
  ⟨k.os.trans h.os, k.tape.trans h.tape, k.output.trans h.output, Nat.le_trans h.size k.size, fun b hb hb' => (k.block b (Nat.lt_of_lt_of_le hb h.size) (fun e => by
    rcases hM b e with h1 | h1
    · exact hb' h1
    · omega)).trans (h.block b hb hb')⟩
theorem Only.stays {M S : Nat → Prop} {w w' : World} (h : Only M w w') (hS : ∀ b, S b → b < w.heap.size → ¬ M b) : Stays S w w' := ⟨h.size, fun b hb hlt => h.block b hlt (hS b hb hlt)⟩
theorem Only.cell {M : Nat → Prop} {w w' : World} (h : Only M w w') {b o : Nat} {v : Value} (hc : w.cell? ⟨b, o, none⟩ = some v) (hb : ¬ M b) : w'.cell? ⟨b, o, none⟩ = some v :=
  (World.cell?_of_block (a := ⟨b, o, none⟩) (h.block b (World.block_lt_of_cell? w ⟨b, o, none⟩ hc) hb)).trans hc
theorem Only.below {M : Nat → Prop} {w w' : World} {B : Nat} (h : Only M w w') (hB : B ≤ w.heap.size) (hM : ∀ b, M b → B ≤ b) : Below B w w' := ⟨h.os, h.tape, h.output, h.size, fun b hb => h.block b (by omega) (fun e => by have := hM b e; omega)⟩

end Go.Proofs.YtjaclmoobfeikaaGreatDoor
namespace Go.Proofs.YtjaclmoobfeikaaGreatDoor

def Tk.e (t : Tk) : Tk := ⟨t.kind, t.text, 0⟩
def erE (e : Option (Nat × Nat)) : Option (Nat × Nat) := e.map fun p => (0, p.2)
def RS.e (s : RS) : RS := ⟨s.rest.map Tk.e, erE s.err⟩
def Itm.e (x : Itm) : Itm := ⟨x.agg, x.col, 0⟩
def Kyo.e (x : Kyo) : Kyo := ⟨x.item.e, x.desc⟩
mutual
def Prd.e : Prd → Prd
  | .mk k c r v o l ks _ => .mk k c r v o l (Prd.es ks) 0
def Prd.es : List Prd → List Prd
  | [] => []
  | x :: r => x.e :: Prd.es r
end
theorem Prd.es_map (l : List Prd) : Prd.es l = l.map Prd.e := by
  induction l with
  | nil => rfl
  | cons x r ih => simp [Prd.es, ih]
def Qry.e (q : Qry) : Qry := ⟨q.items.map Itm.e, q.all, q.table, q.cond.e, q.group.map Itm.e, q.order.map Kyo.e, q.limit⟩

end Go.Proofs.YtjaclmoobfeikaaGreatDoor
