/- Names rising, each once: sorted and made compact, or put in one by one: the mathematics. tree's walk: what goes through a tree. Queries but for places: what is read hangs on the tokens' kinds and texts alone. -/
import Derived.Test.YtjaclmoobfeikaaGreatDoorZk12
import Derived.Test.YtjaclmoobfeikaaGreatDoorZk14
import Derived.OneCell
import Derived.Test.YtjaclmoobfeikaaGreatDoorZk13
namespace Go.Proofs.YtjaclmoobfeikaaGreatDoor

abbrev Nm := List UInt8
/-- A name put into its place, if it isn't there yet. -/
def insL1 (x : Nm) : List Nm → List Nm
  | [] => [x]
  | y :: r => if x ≤ y then (if x < y then x :: y :: r else y :: r) else y :: insL1 x r
def withN (l : List Nm) (x : Nm) : List Nm := if x = [] then l else insL1 x l
/-- What follows its like is struck. -/
def compactL : List Nm → List Nm
  | [] => []
  | [a] => [a]
  | a :: b :: r => if a = b then compactL (b :: r) else a :: compactL (b :: r)
theorem nm_lt_of {x y : Nm} (h : x ≤ y) (hn : x ≠ y) : x < y := by
  rcases Classical.em (y ≤ x) with h2 | h2
  · exact absurd (List.le_antisymm h h2) hn
  · exact List.not_le.1 h2
theorem nm_le_of {x y : Nm} (h : x < y) : x ≤ y := by
  rcases List.le_total x y with h2 | h2
  · exact h2
  · exact absurd h (List.not_lt.2 h2)
theorem nm_lt_le {x y z : Nm} (h : x < y) (h2 : y ≤ z) : x < z := by
  rcases Classical.em (z ≤ x) with h3 | h3
  · exact absurd h (List.not_lt.2 (List.le_trans h2 h3))
  · exact List.not_le.1 h3
theorem mem_insL1 (x z : Nm) : ∀ l : List Nm, z ∈ insL1 x l ↔ z = x ∨ z ∈ l
  | [] => by simp [insL1]
  | y :: r => by
    rw [insL1]
    split
    · rename_i h
      split
      · simp
      · rename_i h2
        have : x = y := Classical.byContradiction fun hn => h2 (nm_lt_of h hn)
        subst this
        simp
    · rw [List.mem_cons, mem_insL1 x z r, List.mem_cons]
      constructor
      · rintro (h | h | h)
        · exact .inr (.inl h)
        · exact .inl h
        · exact .inr (.inr h)
      · rintro (h | h | h)
        · exact .inr (.inl h)
        · exact .inl h
        · exact .inr (.inr h)
theorem insL1_sorted (x : Nm) : ∀ l : List Nm, l.Pairwise (· < ·) → (insL1 x l).Pairwise (· < ·)
  | [], _ => by simp [insL1]
  | y :: r, h => by
    rw [insL1]
    rw [List.pairwise_cons] at h
    split
    · split
      · rename_i h2
        rw [List.pairwise_cons]
        refine ⟨fun z hz => ?_, by rw [List.pairwise_cons]; exact h⟩
        rcases List.mem_cons.1 hz with rfl | hz
        · exact h2
        · exact nm_lt_le h2 (nm_le_of (h.1 z hz))
      · rw [List.pairwise_cons]; exact h
    · rename_i h2
      rw [List.pairwise_cons]
      refine ⟨fun z hz => ?_, insL1_sorted x r h.2⟩
      rcases (mem_insL1 x z r).1 hz with rfl | hz
      · exact List.not_le.1 h2
      · exact h.1 z hz
theorem withN_sorted {l : List Nm} (h : l.Pairwise (· < ·)) (x : Nm) : (withN l x).Pairwise (· < ·) := by
  unfold withN
  split
  · exact h
  · exact insL1_sorted x l h
theorem mem_withN {l : List Nm} {x z : Nm} (hz : z ≠ []) : z ∈ withN l x ↔ z = x ∨ z ∈ l := by
  unfold withN
  split
  · rename_i h
    subst h
    simp [hz]
  · exact mem_insL1 x z l
theorem withN_ne {l : List Nm} {x : Nm} (h : ([] : Nm) ∉ l) : ([] : Nm) ∉ withN l x := by
  unfold withN
  split
  · exact h
  · rename_i hx
    rw [mem_insL1]
    rintro (e | e)
    · exact hx e.symm
    · exact h e
theorem foldN : ∀ (M l : List Nm), l.Pairwise (· < ·) → ([] : Nm) ∉ l → (M.foldl withN l).Pairwise (· < ·) ∧ ([] : Nm) ∉ M.foldl withN l ∧ ∀ z, z ≠ [] → (z ∈ M.foldl withN l ↔ z ∈ M ∨ z ∈ l)
  | [], l, h1, h2 => ⟨h1, h2, fun z _ => by simp⟩
  | x :: M, l, h1, h2 => by
    obtain ⟨i1, i2, i3⟩ := foldN M (withN l x) (withN_sorted h1 x) (withN_ne h2)
    refine ⟨i1, i2, fun z hz => ?_⟩
    rw [List.foldl_cons, i3 z hz, mem_withN hz, List.mem_cons]
    constructor
    · rintro (h | h | h)
      · exact .inl (.inr h)
      · exact .inl (.inl h)
      · exact .inr h
    · rintro ((h | h) | h)
      · exact .inr (.inl h)
      · exact .inl h
      · exact .inr (.inr h)
theorem mem_compactL (z : Nm) : ∀ l : List Nm, z ∈ compactL l ↔ z ∈ l
  | [] => by simp [compactL]
  | [a] => by simp [compactL]
  | a :: b :: r => by
    rw [compactL]
    split
    · rename_i h
      subst h
      rw [mem_compactL z (a :: r)]
      simp
    · rw [List.mem_cons, mem_compactL z (b :: r)]
      simp only [List.mem_cons]
theorem compactL_sorted : ∀ l : List Nm, l.Pairwise (fun a b => a ≤ b) → (compactL l).Pairwise (· < ·)
  | [], _ => by simp [compactL]
  | [a], _ => by simp [compactL]
  | a :: b :: r, h => by
    rw [compactL]
    rw [List.pairwise_cons] at h
    split
    · exact compactL_sorted (b :: r) h.2
    · rename_i hn
      rw [List.pairwise_cons]
      refine ⟨fun z hz => ?_, compactL_sorted (b :: r) h.2⟩
      have hz2 := (mem_compactL z (b :: r)).1 hz
      have hab := nm_lt_of (h.1 b (by simp)) hn
      rcases List.mem_cons.1 hz2 with rfl | hz3
      · exact hab
      · exact nm_lt_le hab ((List.pairwise_cons.1 h.2).1 z hz3)
/-- Rising lists of the same names are one. -/
theorem sorted_ext : ∀ l m : List Nm, l.Pairwise (· < ·) → m.Pairwise (· < ·) → (∀ z, z ∈ l ↔ z ∈ m) → l = m
  | [], [], _, _, _ => rfl
  | [], y :: m, _, _, h => by have := (h y).2 (by simp); simp at this
  | x :: l, [], _, _, h => by have := (h x).1 (by simp); simp at this
  | x :: l, y :: m, h1, h2, h => by
    rw [List.pairwise_cons] at h1 h2
    have hxy : x = y := by
      rcases List.mem_cons.1 ((h x).1 (by simp)) with e | e
      · exact e
      · rcases List.mem_cons.1 ((h y).2 (by simp)) with e2 | e2
        · exact e2.symm
        · exact absurd (List.lt_trans (h1.1 y e2) (h2.1 x e)) (List.lt_irrefl x)
    subst hxy
    rw [sorted_ext l m h1.2 h2.2 fun z => ?_]
    constructor
    · intro hz
      rcases List.mem_cons.1 ((h z).1 (List.mem_cons_of_mem _ hz)) with rfl | e
      · exact absurd (h1.1 z hz) (List.lt_irrefl z)
      · exact e
    · intro hz
      rcases List.mem_cons.1 ((h z).2 (List.mem_cons_of_mem _ hz)) with rfl | e
      · exact absurd (h2.1 z hz) (List.lt_irrefl z)
      · exact e
/-- Sorted and made compact is the same as put in one by one. -/
theorem cols_eq (N M : List Nm) (hN : ([] : Nm) ∉ N) (h : ∀ z, z ≠ [] → (z ∈ N ↔ z ∈ M)) : compactL (N.mergeSort fun x y => decide (x ≤ y)) = M.foldl withN [] := by
  obtain ⟨i1, i2, i3⟩ := foldN M [] (by simp) (by simp)
  refine sorted_ext _ _ (compactL_sorted _ ?_) i1 fun z => ?_
  · have := List.pairwise_mergeSort (le := fun (x y : Nm) => decide (x ≤ y)) (fun a b c h1 h2 => by
      simp only [decide_eq_true_eq] at h1 h2 ⊢
      exact List.le_trans h1 h2) (fun a b => by
      simp only [Bool.or_eq_true, decide_eq_true_eq]
      exact List.le_total a b) N
    simpa using this
  · rw [mem_compactL, List.mem_mergeSort]
    by_cases hz : z = []
    · subst hz
      constructor
      · intro e; exact absurd e hN
      · intro e; exact absurd e i2
    · rw [i3 z hz, h z hz]
      simp
end Go.Proofs.YtjaclmoobfeikaaGreatDoor
namespace Go.Proofs.YtjaclmoobfeikaaGreatDoor
open Go.RowKit

/-- Nothing elder has turned but in blocks of M. -/
structure Only (M : Nat → Prop) (w w' : World) : Prop where
  os : w'.os = w.os
  tape : w'.tape = w.tape
  output : w'.output = w.output
  size : w.heap.size ≤ w'.heap.size
  block : ∀ b, b < w.heap.size → ¬ M b → w'.heap[b]? = w.heap[b]?
theorem Only.refl (M : Nat → Prop) (w : World) : Only M w w := ⟨rfl, rfl, rfl, Nat.le_refl _, fun _ _ _ => rfl⟩
theorem Only.drew {M : Nat → Prop} {w w' : World} (h : Only M w w') : Only M w w'.drew := ⟨h.os, h.tape, h.output, h.size, h.block⟩
theorem Only.drewN {M : Nat → Prop} {w w' : World} (h : Only M w w') (n : Nat) : Only M w (w'.drewN n) := ⟨h.os, h.tape, h.output, h.size, h.block⟩
theorem Only.grown {M : Nat → Prop} {w w1 w2 : World} {row : Option Nat} (h : Only M w w1) (hg : w1.grownBy w2 row) (hr : ∀ j, row = some j → M j ∨ w.heap.size ≤ j) : Only M w w2 :=
  ⟨hg.os.trans h.os, hg.tape.trans h.tape, hg.output.trans h.output, Nat.le_trans h.size hg.size, fun b hb hM => (hg.block b (Nat.lt_of_lt_of_le hb h.size) (fun e => by
    rcases hr b e.symm with h1 | h1
    · exact hM h1
    · omega)).trans (h.block b hb hM)⟩
theorem Only.set {M : Nat → Prop} {w w1 : World} (h : Only M w w1) {g : Nat} (hg : M g ∨ w.heap.size ≤ g) (i : Nat) (u : Value) : Only M w (w1.setCell ⟨g, i, none⟩ u) :=
  ⟨h.os, h.tape, h.output, by simp [World.setCell]; exact h.size, fun b hb hM => (Below.heap_setCell _ _ _ _ (fun e => by
    have e' : b = g := e
    subst e'
    rcases hg with h1 | h1
    · exact hM h1
    · omega)).trans (h.block b hb hM)⟩
theorem Only.trans {M : Nat → Prop} {w w1 w2 : World} (h : Only M w w1) {M' : Nat → Prop} (k : Only M' w1 w2) (hM : ∀ b, M' b → M b ∨ w.heap.size ≤ b) : Only M w w2 :=
  ⟨k.os.trans h.os, k.tape.trans h.tape, k.output.trans h.output, Nat.le_trans h.size k.size, fun b hb hb' => (k.block b (Nat.lt_of_lt_of_le hb h.size) (fun e => by
    rcases hM b e with h1 | h1
    · exact hb' h1
    · omega)).trans (h.block b hb hb')⟩
theorem Only.stays {M S : Nat → Prop} {w w' : World} (h : Only M w w') (hS : ∀ b, S b → b < w.heap.size → ¬ M b) : Stays S w w' := ⟨h.size, fun b hb hlt => h.block b hlt (hS b hb hlt)⟩
theorem Only.cell {M : Nat → Prop} {w w' : World} (h : Only M w w') {b o : Nat} {v : Value} (hc : w.cell? ⟨b, o, none⟩ = some v) (hb : ¬ M b) : w'.cell? ⟨b, o, none⟩ = some v :=
  (World.cell?_of_block (a := ⟨b, o, none⟩) (h.block b (World.block_lt_of_cell? w ⟨b, o, none⟩ hc) hb)).trans hc
theorem Only.below {M : Nat → Prop} {w w' : World} {B : Nat} (h : Only M w w') (hB : B ≤ w.heap.size) (hM : ∀ b, M b → B ≤ b) : Below B w w' := ⟨h.os, h.tape, h.output, h.size, fun b hb => h.block b (by omega) (fun e => by have := hM b e; omega)⟩

end Go.Proofs.YtjaclmoobfeikaaGreatDoor
namespace Go.Proofs.YtjaclmoobfeikaaGreatDoor

def Tk.e (t : Tk) : Tk := ⟨t.kind, t.text, 0⟩
def erE (e : Option (Nat × Nat)) : Option (Nat × Nat) := e.map fun p => (0, p.2)
def RS.e (s : RS) : RS := ⟨s.rest.map Tk.e, erE s.err⟩
def Itm.e (x : Itm) : Itm := ⟨x.agg, x.col, 0⟩
def Kyo.e (x : Kyo) : Kyo := ⟨x.item.e, x.desc⟩
mutual
def Prd.e : Prd → Prd
  | .mk k c r v o l ks _ => .mk k c r v o l (Prd.es ks) 0
def Prd.es : List Prd → List Prd
  | [] => []
  | x :: r => x.e :: Prd.es r
end
theorem Prd.es_map (l : List Prd) : Prd.es l = l.map Prd.e := by
  induction l with
  | nil => rfl
  | cons x r ih => simp [Prd.es, ih]
def Qry.e (q : Qry) : Qry := ⟨q.items.map Itm.e, q.all, q.table, q.cond.e, q.group.map Itm.e, q.order.map Kyo.e, q.limit⟩

end Go.Proofs.YtjaclmoobfeikaaGreatDoor
