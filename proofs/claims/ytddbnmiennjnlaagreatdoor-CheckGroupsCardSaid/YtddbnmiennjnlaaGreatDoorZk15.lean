/- Names rising, each once: sorted and made compact, or put in one by one: the mathematics. tree's walk: what goes through a tree. Queries but for places: what is read hangs on the tokens' kinds and texts alone. -/
import Derived.Test.YtddbnmiennjnlaaGreatDoorZk12
import Derived.Test.YtddbnmiennjnlaaGreatDoorZk14
import Derived.OneCell
import Derived.Test.YtddbnmiennjnlaaGreatDoorZk13
namespace Go.Proofs.YtddbnmiennjnlaaGreatDoor

abbrev Nm := List UInt8
/-- A name put into its place, if it isn't there yet. -/
def insL1 (x : Nm) : List Nm → List Nm
  | [] => [x]
  | y :: r => if x ≤ y then (if x < y then x :: y :: r else y :: r) else y :: insL1 x r
def withN (l : List Nm) (x : Nm) : List Nm := if x = [] then l else insL1 x l
/-- What follows its like is struck. -/
def compactL : List Nm → List Nm
  | [] => []
  | [a] => [a]
  | a :: b :: r => if a = b then compactL (b :: r) else a :: compactL (b :: r)
theorem nm_lt_of {x y : Nm} (h : x ≤ y) (hn : x ≠ y) : x < y := by
  rcases Classical.em (y ≤ x) with h2 | h2
  · exact absurd (List.le_antisymm h h2) hn
  · exact List.not_le.1 h2
theorem nm_le_of {x y : Nm} (h : x < y) : x ≤ y := by
  rcases List.le_total x y with h2 | h2
  · exact h2
  · exact absurd h (List.not_lt.2 h2)
theorem nm_lt_le {x y z : Nm} (h : x < y) (h2 : y ≤ z) : x < z := by
  rcases Classical.em (z ≤ x) with h3 | h3
  · exact absurd h (List.not_lt.2 (List.le_trans h2 h3))
  · exact List.not_le.1 h3
theorem mem_insL1 (x z : Nm) : ∀ l : List Nm, z ∈ insL1 x l ↔ z = x ∨ z ∈ l
  | [] => by simp [insL1]
  | y :: r => by
    rw [insL1]
    split
    · rename_i h
      split
      · simp
      · rename_i h2
        have : x = y := Classical.byContradiction fun hn => h2 (nm_lt_of h hn)
        subst this
        simp
    · rw [List.mem_cons, mem_insL1 x z r, List.mem_cons]
      constructor
      · rintro (h | h | h)
        · exact .inr (.inl h)
        · exact .inl h
        · exact .inr (.inr h)
      · rintro (h | h | h)
        · exact .inr (.inl h)
        · exact .inl h
        · exact .inr (.inr h)
theorem insL1_sorted (x : Nm) : ∀ l : List Nm, l.Pairwise (· < ·) → (insL1 x l).Pairwise (· < ·)
  | [], _ => by simp [insL1]
  | y :: r, h => by
    rw [insL1]
    rw [List.pairwise_cons] at h
    split
    · split
      · rename_i h2
        rw [List.pairwise_cons]
        refine ⟨fun z hz => ?_, by rw [List.pairwise_cons]; exact h⟩
        rcases List.mem_cons.1 hz with rfl | hz
        · exact h2
        · exact nm_lt_le h2 (nm_le_of (h.1 z hz))
      · rw [List.pairwise_cons]; exact h
    · rename_i h2
      rw [List.pairwise_cons]
      refine ⟨fun z hz => ?_, insL1_sorted x r h.2⟩
      rcases (mem_insL1 x z r).1 hz with rfl | hz
      · exact List.not_le.1 h2
      · exact h.1 z hz
theorem withN_sorted {l : List Nm} (h : l.Pairwise (· < ·)) (x : Nm) : (withN l x).Pairwise (· < ·) := by
  unfold withN
  split
  · exact h
  · exact insL1_sorted x l h
theorem mem_withN {l : List Nm} {x z : Nm} (hz : z ≠ []) : z ∈ withN l x ↔ z = x ∨ z ∈ l := by
  unfold withN
  split
  · rename_i h
    subst h
    simp [hz]
  · exact mem_insL1 x z l
theorem withN_ne {l : List Nm} {x : Nm} (h : ([] : Nm) ∉ l) : ([] : Nm) ∉ withN l x := by
  unfold withN
  split
  · exact h
  · rename_i hx
    rw [mem_insL1]
    rintro (e | e)
    · exact hx e.symm
    · exact h e
theorem foldN : ∀ (M l : List Nm), l.Pairwise (· < ·) → ([] : Nm) ∉ l → (M.foldl withN l).Pairwise (· < ·) ∧ ([] : Nm) ∉ M.foldl withN l ∧ ∀ z, z ≠ [] → (z ∈ M.foldl withN l ↔ z ∈ M ∨ z ∈ l)
  | [], l, h1, h2 => ⟨h1, h2, fun z _ => by simp⟩
  | x :: M, l, h1, h2 => by
    obtain ⟨i1, i2, i3⟩ := foldN M (withN l x) (withN_sorted h1 x) (withN_ne h2)
    refine ⟨i1, i2, fun z hz => ?_⟩
    rw [List.foldl_cons, i3 z hz, mem_withN hz, List.mem_cons]
    constructor
    · rintro (h | h | h)
      · exact .inl (.inr h)
      · exact .inl (.inl h)
      · exact .inr h
    · rintro ((h | h) | h)
      · exact .inr (.inl h)
      · exact .inl h
      · exact .inr (.inr h)
theorem mem_compactL (z : Nm) : ∀ l : List Nm, z ∈ compactL l ↔ z ∈ l
  | [] => by simp [compactL]
  | [a] => by simp [compactL]
  | a :: b :: r => by
    rw [compactL]
    split
    · rename_i h
      subst h
      rw [mem_compactL z (a :: r)]
      simp
    · rw [List.mem_cons, mem_compactL z (b :: r)]
      simp only [List.mem_cons]
theorem compactL_sorted : ∀ l : List Nm, l.Pairwise (fun a b => a ≤ b) → (compactL l).Pairwise (· < ·)
  | [], _ => by simp [compactL]
  | [a], _ => by simp [compactL]
  | a :: b :: r, h => by
    rw [compactL]
    rw [List.pairwise_cons] at h
    split
    · exact compactL_sorted (b :: r) h.2
    · rename_i hn
      rw [List.pairwise_cons]
      refine ⟨fun z hz => ?_, compactL_sorted (b :: r) h.2⟩
      have hz2 := (mem_compactL z (b :: r)).1 hz
      have hab := nm_lt_of (h.1 b (by simp)) hn
      rcases List.mem_cons.1 hz2 with rfl | hz3
      · exact hab
      · exact nm_lt_le hab ((List.pairwise_cons.1 h.2).1 z hz3)
/-- Rising lists of the same names are one. -/
theorem sorted_ext : ∀ l m : List Nm, l.Pairwise (· < ·) → m.Pairwise (· < ·) → (∀ z, z ∈ l ↔ z ∈ m) → l = m
  | [], [], _, _, _ => rfl
  | [], y :: m, _, _, h => by have := (h y).2 (by simp); simp at this
  | x :: l, [], _, _, h => by have := (h x).1 (by simp); simp at this
  | x :: l, y :: m, h1, h2, h => by
    rw [List.pairwise_cons] at h1 h2
    have hxy : x = y := by
      rcases List.mem_cons.1 ((h x).1 (by simp)) with e | e
      · exact e
      · rcases List.mem_cons.1 ((h y).2 (by simp)) with e2 | e2
        · exact e2.symm
        · exact absurd (List.lt_trans (h1.1 y e2) (h2.1 x e)) (List.lt_irrefl x)
    subst hxy
    rw [sorted_ext l m h1.2 h2.2 fun z => ?_]
    constructor
    · intro hz
      rcases List.mem_cons.1 ((h z).1 (List.mem_cons_of_mem _ hz)) with rfl | e
      · exact absurd (h1.1 z hz) (List.lt_irrefl z)
      · exact e
    · intro hz
      rcases List.mem_cons.1 ((h z).2 (List.mem_cons_of_mem _ hz)) with rfl | e
      · exact absurd (h2.1 z hz) (List.lt_irrefl z)
      · exact e
/-- Sorted and made compact is the same as put in one by one. -/
theorem cols_eq (N M : List Nm) (hN : ([] : Nm) ∉ N) (h : ∀ z, z ≠ [] → (z ∈ N ↔ z ∈ M)) : compactL (N.mergeSort fun x y => decide (x ≤ y)) = M.foldl withN [] := by
  obtain ⟨i1, i2, i3⟩ := foldN M [] (by simp) (by simp)
  refine sorted_ext _ _ (compactL_sorted _ ?_) i1 fun z => ?_
  · have := List.pairwise_mergeSort (le := fun (x y : Nm) => decide (x ≤ y)) (fun a b c h1 h2 => by
      simp only [decide_eq_true_eq] at h1 h2 ⊢
      exact List.le_trans h1 h2) (fun a b => by
      simp only [Bool.or_eq_true, decide_eq_true_eq]
      exact List.le_total a b) N
    simpa using this
  · rw [mem_compactL, List.mem_mergeSort]
    by_cases hz : z = []
    · subst hz
      constructor
      · intro e; exact absurd e hN
      · intro e; exact absurd e i2
    · rw [i3 z hz, h z hz]
      simp
end Go.Proofs.YtddbnmiennjnlaaGreatDoor
namespace Go.Proofs.YtddbnmiennjnlaaGreatDoor
open Go.RowKit

/-- Nothing elder has turned but in blocks of M. -/
structure Only (M : Nat → Prop) (w w' : World) : Prop where
  os : w'.os = w.os
  tape : w'.tape = w.tape
  output : w'.output = w.output
  size : w.heap.size ≤ w'.heap.size
  block : ∀ b, b < w.heap.size → ¬ M b → w'.heap[b]? = w.heap[b]?
theorem Only.refl (M : Nat → Prop) (w : World) : Only M w w := ⟨rfl, rfl, rfl, Nat.le_refl _, fun _ _ _ => rfl⟩
theorem Only.drew {M : Nat → Prop} {w w' : World} (h : Only M w w') : Only M w w'.drew := ⟨h.os, h.tape, h.output, h.size, h.block⟩
theorem Only.drewN {M : Nat → Prop} {w w' : World} (h : Only M w w') (n : Nat) : Only M w (w'.drewN n) := ⟨h.os, h.tape, h.output, h.size, h.block⟩
theorem Only.grown {M : Nat → Prop} {w w1 w2 : World} {row : Option Nat} (h : Only M w w1) (hg : w1.grownBy w2 row) (hr : ∀ j, row = some j → M j ∨ w.heap.size ≤ j) : Only M w w2 :=
  ⟨hg.os.trans h.os, hg.tape.trans h.tape, hg.output.trans h.output, Nat.le_trans h.size hg.size, fun b hb hM => (hg.block b (Nat.lt_of_lt_of_le hb h.size) (fun e => by
    rcases hr b e.symm with h1 | h1
    · exact hM h1
    · omega)).trans (h.block b hb hM)⟩
theorem Only.set {M : Nat → Prop} {w w1 : World} (h : Only M w w1) {g : Nat} (hg : M g ∨ w.heap.size ≤ g) (i : Nat) (u : Value) : Only M w (w1.setCell ⟨g, i, none⟩ u) :=
  ⟨h.os, h.tape, h.output, by simp [World.setCell]; exact h.size, fun b hb hM => (Below.heap_setCell _ _ _ _ (fun e => by
    have e' : b = g := e
    subst e'
    rcases hg with h1 | h1
    · exact hM h1
    · omega)).trans (h.block b hb hM)⟩
theorem Only.trans {M : Nat → Prop} {w w1 w2 : World} (h : Only M w w1) {M' : Nat → Prop} (k : Only M' w1 w2) (hM : ∀ b, M' b → M b ∨ w.heap.size ≤ b) : Only M w w2 :=
  ⟨k.os.trans h.os, k.tape.trans h.tape, k.output.trans h.output, Nat.le_trans h.size k.size, fun b hb hb' => (k.block b (Nat.lt_of_lt_of_le hb h.size) (fun e => by
    rcases hM b e with h1 | h1
    · exact hb' h1
    · omega)).trans (h.block b hb hb')⟩
theorem Only.stays {M S : Nat → Prop} {w w' : World} (h : Only M w w') (hS : ∀ b, S b → b < w.heap.size → ¬ M b) : Stays S w w' := ⟨h.size, fun b hb hlt => h.block b hlt (hS b hb hlt)⟩
theorem Only.cell {M : Nat → Prop} {w w' : World} (h : Only M w w') {b o : Nat} {v : Value} (hc : w.cell? ⟨b, o, none⟩ = some v) (hb : ¬ M b) : w'.cell? ⟨b, o, none⟩ = some v :=
  (World.cell?_of_block (a := ⟨b, o, none⟩) (h.block b (World.block_lt_of_cell? w ⟨b, o, none⟩ hc) hb)).trans hc
theorem Only.below {M : Nat → Prop} {w w' : World} {B : Nat} (h : Only M w w') (hB : B ≤ w.heap.size) (hM : ∀ b, M b → B ≤ b) : Below B w w' := ⟨h.os, h.tape, h.output, h.size, fun b hb => h.block b (by omega) (fun e => by have := hM b e; omega)⟩

/-- Keys from one on. -/
def fromL (key : List Vl) (l : List (List Vl × List Vl)) : List (List Vl × List Vl) := l.filter fun x => !decide (rowsOrd x.1 key < 0)
/-- What is still to come of a stack's tree: its own pair, and what is on its right. -/
def pendT (key : List Vl) : Tre → List (List Vl × List Vl)
  | .nil => []
  | .node _ k v r => (k, v) :: fromL key r.toL
/-- What is still to come of a stack. -/
def remS (key : List Vl) (xs : List (Ptr × Tre)) : List (List Vl × List Vl) := xs.reverse.flatMap fun x => pendT key x.2
theorem remS_snoc (key : List Vl) (xs : List (Ptr × Tre)) (x : Ptr × Tre) : remS key (xs ++ [x]) = pendT key x.2 ++ remS key xs := by
  simp [remS]
theorem fromL_app (key : List Vl) (a b : List (List Vl × List Vl)) : fromL key (a ++ b) = fromL key a ++ fromL key b := by simp [fromL]
theorem fromL_none {key : List Vl} {l : List (List Vl × List Vl)} (h : ∀ x ∈ l, rowsOrd x.1 key < 0) : fromL key l = [] := by
  unfold fromL
  rw [List.filter_eq_nil_iff]
  intro x hx
  simp [h x hx]
/-- Where a node is skipped. -/
theorem skip_eq (hc : Tr.IsOrd rowsOrd) {l r : Tre} {k v key : List Vl} (hs : Tr.Sorted rowsOrd (Tr.toL (.node l k v r))) (hk : rowsOrd k key < 0) : fromL key (Tr.toL (.node l k v r)) = fromL key r.toL := by
  simp only [Tr.toL] at hs ⊢
  obtain ⟨_, _, s3, _, _⟩ := Tr.sorted_mid hs
  rw [fromL_app, fromL_none (l := l.toL) (fun x hx => hc.trans _ _ _ (s3 x hx) hk)]
  simp [fromL, hk]
/-- Where a node is pushed. -/
theorem push_eq {l r : Tre} {k v key : List Vl} (hk : ¬ rowsOrd k key < 0) (xs : List (Ptr × Tre)) (p : Ptr) : fromL key (Tr.toL (.node l k v r)) ++ remS key xs = fromL key l.toL ++ remS key (xs ++ [(p, .node l k v r)]) := by
  rw [remS_snoc]
  simp [Tr.toL, fromL_app, pendT]
  simp [fromL, hk]
theorem sorted_l {l r : Tre} {k v : List Vl} (hs : Tr.Sorted rowsOrd (Tr.toL (.node l k v r))) : Tr.Sorted rowsOrd l.toL := by
  simp only [Tr.toL] at hs; exact (Tr.sorted_mid hs).1
theorem sorted_r {l r : Tre} {k v : List Vl} (hs : Tr.Sorted rowsOrd (Tr.toL (.node l k v r))) : Tr.Sorted rowsOrd r.toL := by
  simp only [Tr.toL] at hs; exact (Tr.sorted_mid hs).2.1

/-- The size that a tree's memory tells. -/
def szOf (p : Value) (w : World) : Nat :=
  match p with
  | .pointer (some a) => match w.cell? ⟨a.block, 5, none⟩ with
    | some (.int _ n) => n.toNat
    | _ => 0
  | _ => 0
theorem szOf_eq {S : Nat → Prop} {w : World} {t : Tre} {p : Ptr} (h : TrAt S w t p) : szOf (.pointer p) w = t.n := by
  cases t with
  | nil => obtain rfl : p = none := h; rfl
  | node l k v r =>
    obtain ⟨b, _, _, _, _, _, _, rfl, _, _, ⟨_, _, _, _, _, c5⟩, _⟩ := h
    simp only [szOf, c5]
    omega
end Go.Proofs.YtddbnmiennjnlaaGreatDoor
namespace Go.Proofs.YtddbnmiennjnlaaGreatDoor

def Tk.e (t : Tk) : Tk := ⟨t.kind, t.text, 0⟩
def erE (e : Option (Nat × Nat)) : Option (Nat × Nat) := e.map fun p => (0, p.2)
def RS.e (s : RS) : RS := ⟨s.rest.map Tk.e, erE s.err⟩
def Itm.e (x : Itm) : Itm := ⟨x.agg, x.col, 0⟩
def Kyo.e (x : Kyo) : Kyo := ⟨x.item.e, x.desc⟩
mutual
def Prd.e : Prd → Prd
  | .mk k c r v o l ks _ => .mk k c r v o l (Prd.es ks) 0
def Prd.es : List Prd → List Prd
  | [] => []
  | x :: r => x.e :: Prd.es r
end
theorem Prd.es_map (l : List Prd) : Prd.es l = l.map Prd.e := by
  induction l with
  | nil => rfl
  | cons x r ih => simp [Prd.es, ih]
def Qry.e (q : Qry) : Qry := ⟨q.items.map Itm.e, q.all, q.table, q.cond.e, q.group.map Itm.e, q.order.map Kyo.e, q.limit⟩

theorem RS.hd_e (s : RS) : s.e.hd = s.hd.e := by
  obtain ⟨l, e⟩ := s
  cases l <;> rfl
theorem RS.hd_text (s : RS) : s.e.hd.text = s.hd.text := by rw [RS.hd_e]; rfl
theorem RS.hd_kind (s : RS) : s.e.hd.kind = s.hd.kind := by rw [RS.hd_e]; rfl
theorem RS.hd_pos (s : RS) : s.e.hd.pos = 0 := by rw [RS.hd_e]; rfl
theorem RS.wrong_e (s : RS) (c : Nat) : s.e.wrong c = (s.wrong c).e := by
  unfold RS.wrong
  rw [RS.hd_pos]
  obtain ⟨l, e⟩ := s
  cases e with
  | none => simp [RS.e, erE, List.map_drop]
  | some p => simp [RS.e, erE, List.map_drop]
theorem RS.pass_e (s : RS) : s.e.pass = s.pass.e := by simp [RS.pass, RS.e]
theorem RS.comes_e (s : RS) (t : ByteArray) : s.e.comes t = s.comes t := by unfold RS.comes; rw [RS.hd_text]
theorem RS.need_e (s : RS) (t : ByteArray) : s.e.need t = (s.need t).e := by
  unfold RS.need
  rw [RS.comes_e, RS.pass_e, RS.wrong_e]
  split <;> rfl
theorem RS.fin_e (s : RS) : s.e.fin = s.fin.e := by
  unfold RS.fin
  rw [RS.hd_kind, RS.wrong_e]
  split <;> rfl
theorem RS.named_e (s : RS) : s.e.named = s.named := by unfold RS.named; rw [RS.hd_kind]
theorem RS.name_e (s : RS) : s.e.name = (s.name.1.e, s.name.2) := by
  unfold RS.name
  rw [RS.named_e, RS.pass_e, RS.wrong_e, RS.hd_text]
  split <;> rfl
theorem RS.literal_e (s : RS) : s.e.literal = (s.literal.1.e, s.literal.2) := by
  unfold RS.literal
  rw [RS.pass_e, RS.wrong_e, RS.hd_text]
  split <;> rfl
theorem RS.rel_e (s : RS) : s.e.rel = (s.rel.1.e, s.rel.2) := by
  unfold RS.rel
  rw [RS.pass_e, RS.hd_text]
  split <;> rfl
theorem listF_e {β : Type} (er : β → β) (most : Nat) (nx : RS → RS × β) (hn : ∀ s, nx s.e = ((nx s).1.e, er (nx s).2)) : ∀ (f : Nat) (s : RS) (acc : List β), listF most nx f s.e (acc.map er) = ((listF most nx f s acc).1.e, (listF most nx f s acc).2.map er)
  | 0, s, acc => rfl
  | f + 1, s, acc => by
    simp only [listF]
    rw [hn, List.length_map, RS.wrong_e]
    dsimp only
    rw [RS.comes_e, RS.pass_e]
    have h := listF_e er most nx hn f (nx s).1.pass (acc ++ [(nx s).2])
    rw [List.map_append] at h
    simp only [List.map_cons, List.map_nil] at h
    rw [h]
    by_cases h1 : acc.length = most
    · simp [h1]
    · simp only [h1, if_false]
      by_cases h2 : (nx s).1.comes bComma = true <;> simp [h2]
theorem partsF_e (word : ByteArray) (pf : RS → RS × Prd) (hn : ∀ s, pf s.e = ((pf s).1.e, (pf s).2.e)) : ∀ (f : Nat) (s : RS) (acc : List Prd), partsF word pf f s.e (acc.map Prd.e) = ((partsF word pf f s acc).1.e, (partsF word pf f s acc).2.map Prd.e)
  | 0, s, acc => rfl
  | f + 1, s, acc => by
    simp only [partsF]
    rw [RS.pass_e, hn, RS.comes_e]
    dsimp only
    have h := partsF_e word pf hn f (pf s.pass).1 (acc ++ [(pf s.pass).2])
    rw [List.map_append] at h
    simp only [List.map_cons, List.map_nil] at h
    rw [h]
    by_cases h2 : s.comes word = true <;> simp [h2]
theorem joinP_e (kind p : Nat) (l : List Prd) : joinP kind 0 (l.map Prd.e) = (joinP kind p l).e := by
  unfold joinP
  match l with
  | [] => simp [Prd.e, Prd.es]
  | [x] => simp
  | x :: y :: r => simp [Prd.e, Prd.es_map]
theorem partsL_e (kind : Nat) (word : ByteArray) (pf : RS → RS × Prd) (hn : ∀ s, pf s.e = ((pf s).1.e, (pf s).2.e)) (s : RS) : partsL kind word pf s.e = ((partsL kind word pf s).1.e, (partsL kind word pf s).2.e) := by
  unfold partsL
  rw [hn, RS.hd_pos]
  dsimp only
  have h := partsF_e word pf hn (pf s).1.rest.length (pf s).1 [(pf s).2]
  simp only [List.map_cons, List.map_nil] at h
  rw [show (pf s).1.e.rest.length = (pf s).1.rest.length by simp [RS.e], h]
  dsimp only
  rw [joinP_e]
theorem notP_e (p : Prd) (n : Nat) : notP p.e 0 = (notP p n).e := by simp [notP, Prd.e, Prd.es]
theorem amongL_e (col : ByteArray) (n : Nat) (s : RS) : amongL col 0 s.e = ((amongL col n s).1.e, (amongL col n s).2.e) := by
  unfold amongL
  rw [RS.comes_e, RS.pass_e, RS.need_e, RS.need_e, RS.literal_e]
  dsimp only
  rw [RS.need_e, RS.literal_e]
  have h := listF_e (fun v : Vl => v) 12 RS.literal RS.literal_e 13 (s.pass.need bOpen) []
  simp only [List.map_id_fun', id, List.map_nil] at h
  rw [h]
  dsimp only
  rw [RS.need_e]
  split <;> simp [Prd.e, Prd.es]
theorem nameP_e (n : Nat) (s : RS) : nameP 0 s.e = ((nameP n s).1.e, (nameP n s).2.e) := by
  unfold nameP
  rw [RS.name_e]
  dsimp only
  generalize s.name.1 = u
  generalize s.name.2 = c
  rw [RS.comes_e, RS.comes_e, RS.pass_e, RS.comes_e, RS.pass_e, RS.need_e, RS.need_e, RS.rel_e]
  dsimp only
  rw [amongL_e c n, amongL_e c n, RS.named_e, RS.name_e, RS.literal_e, notP_e _ n]
  dsimp only
  by_cases h1 : u.comes bIs = true
  · by_cases h2 : u.pass.comes bNot = true <;> simp [h1, h2, Prd.e, Prd.es]
  · by_cases h3 : u.comes bNot = true
    · simp [h1, h3]
    · by_cases h4 : u.rel.2 = 0
      · simp [h1, h3, h4]
      · by_cases h5 : u.rel.1.named = true <;> simp [h1, h3, h4, h5, Prd.e, Prd.es]
theorem truthP_e (v : Vl) (n : Nat) (s : RS) : truthP v 0 s.e = ((truthP v n s).1.e, (truthP v n s).2.e) := by
  unfold truthP
  rw [RS.wrong_e]
  by_cases h : v.k = 1 <;> simp [h, Prd.e, Prd.es]
theorem litP_e (n : Nat) (s : RS) : litP 0 s.e = ((litP n s).1.e, (litP n s).2.e) := by
  unfold litP
  rw [RS.literal_e]
  dsimp only
  generalize s.literal.1 = u
  generalize s.literal.2 = v
  rw [RS.rel_e]
  dsimp only
  rw [truthP_e v n, RS.named_e, RS.name_e, RS.literal_e]
  dsimp only
  by_cases h4 : u.rel.2 = 0
  · simp [h4]
  · by_cases h5 : u.rel.1.named = true <;> simp [h4, h5, Prd.e, Prd.es]
theorem oneF_e : ∀ (d : Nat) (s : RS), oneF d s.e = ((oneF d s).1.e, (oneF d s).2.e)
  | 0, s => by simp [oneF, RS.wrong_e, Prd.none, Prd.e, Prd.es]
  | d + 1, s => by
    simp only [oneF]
    rw [RS.comes_e, RS.comes_e, RS.pass_e, RS.named_e, RS.hd_pos, oneF_e d]
    dsimp only
    rw [partsL_e 9 bOr _ (partsL_e 8 bAnd _ (oneF_e d)), nameP_e s.hd.pos, litP_e s.hd.pos]
    dsimp only
    rw [RS.need_e, notP_e _ s.hd.pos]
    by_cases h1 : s.comes bNot = true
    · simp [h1]
    · by_cases h2 : s.comes bOpen = true
      · simp [h1, h2]
      · by_cases h3 : s.named = true <;> simp [h1, h2, h3]
theorem anyF_e (d : Nat) (s : RS) : anyF d s.e = ((anyF d s).1.e, (anyF d s).2.e) := partsL_e 9 bOr _ (partsL_e 8 bAnd _ (oneF_e d)) s
theorem columnL_e (s : RS) : columnL s.e = ((columnL s).1.e, (columnL s).2.e) := by
  unfold columnL
  rw [RS.name_e, RS.hd_pos]
  rfl
theorem itemL_e (s : RS) : itemL s.e = ((itemL s).1.e, (itemL s).2.e) := by
  unfold itemL
  dsimp only
  rw [RS.hd_text, columnL_e, RS.pass_e, RS.need_e, RS.comes_e, RS.pass_e, RS.need_e, RS.name_e, RS.hd_pos]
  dsimp only
  rw [RS.need_e]
  by_cases h1 : aggT s.hd.text = 0
  · simp [h1]
  · simp only [h1, if_false]
    by_cases h2 : aggT s.hd.text = 2 ∧ (s.pass.need bOpen).comes bStar = true
    · simp only [h2, and_self, if_true]; rfl
    · simp only [h2, if_false]; rfl
theorem keyL_e (s : RS) : keyL s.e = ((keyL s).1.e, (keyL s).2.e) := by
  unfold keyL
  rw [itemL_e]
  dsimp only
  rw [RS.comes_e, RS.comes_e, RS.pass_e]
  by_cases h1 : (itemL s).1.comes bAsc = true
  · simp [h1, Kyo.e]
  · by_cases h2 : (itemL s).1.comes bDesc = true <;> simp [h1, h2, Kyo.e]
theorem limitL_e (s : RS) : limitL s.e = ((limitL s).1.e, (limitL s).2) := by
  unfold limitL
  dsimp only
  rw [RS.hd_kind, RS.hd_text, RS.wrong_e, RS.wrong_e, RS.pass_e]
  by_cases h1 : s.hd.kind = 2
  · by_cases h2 : (litV s.hd.text).n < 0 ∨ 1000 < (litV s.hd.text).n <;> simp [h1, h2]
  · simp [h1]
theorem itemsQ_e (s : RS) : itemsQ s.e = ((itemsQ s).1.e, (itemsQ s).2.1, (itemsQ s).2.2.map Itm.e) := by
  unfold itemsQ
  have h := listF_e Itm.e 8 itemL itemL_e 9 s []
  simp only [List.map_nil] at h
  rw [RS.comes_e, RS.pass_e, h]
  by_cases h1 : s.comes bStar = true <;> simp [h1]
theorem whereQ_e (s : RS) : whereQ s.e = ((whereQ s).1.e, (whereQ s).2.e) := by
  unfold whereQ
  rw [RS.comes_e, RS.pass_e, anyF_e]
  by_cases h1 : s.comes bWhere = true <;> simp [h1, Prd.none, Prd.e, Prd.es]
theorem groupQ_e (s : RS) : groupQ s.e = ((groupQ s).1.e, (groupQ s).2.map Itm.e) := by
  unfold groupQ
  have h := listF_e Itm.e 8 columnL columnL_e 9 (s.pass.need bBy) []
  simp only [List.map_nil] at h
  rw [RS.comes_e, RS.pass_e, RS.need_e, h]
  by_cases h1 : s.comes bGroup = true <;> simp [h1]
theorem orderQ_e (s : RS) : orderQ s.e = ((orderQ s).1.e, (orderQ s).2.map Kyo.e) := by
  unfold orderQ
  have h := listF_e Kyo.e 8 keyL keyL_e 9 (s.pass.need bBy) []
  simp only [List.map_nil] at h
  rw [RS.comes_e, RS.pass_e, RS.need_e, h]
  by_cases h1 : s.comes bOrder = true <;> simp [h1]
theorem limitQ_e (s : RS) : limitQ s.e = ((limitQ s).1.e, (limitQ s).2) := by
  unfold limitQ
  rw [RS.comes_e, RS.pass_e, limitL_e]
  by_cases h1 : s.comes bLimit = true <;> simp [h1]
theorem queryL_e (s : RS) : queryL s.e = ((queryL s).1.e, (queryL s).2.e) := by
  unfold queryL
  rw [RS.need_e, itemsQ_e]
  dsimp only
  rw [RS.need_e, RS.name_e]
  dsimp only
  rw [whereQ_e]
  dsimp only
  rw [groupQ_e]
  dsimp only
  rw [orderQ_e]
  dsimp only
  rw [limitQ_e]
  dsimp only
  rw [RS.fin_e]
  rfl
/-- Tokens that are the same but for places are one query's, but for places. -/
theorem query_same {l l' : List Tk} (h : l.map Tk.e = l'.map Tk.e) : ((queryL ⟨l, none⟩).1.err = none ↔ (queryL ⟨l', none⟩).1.err = none) ∧ (queryL ⟨l, none⟩).2.e = (queryL ⟨l', none⟩).2.e := by
  have h1 := queryL_e ⟨l, none⟩
  have h2 := queryL_e ⟨l', none⟩
  have he : (⟨l, none⟩ : RS).e = (⟨l', none⟩ : RS).e := by simp [RS.e, h]
  rw [he, h2] at h1
  have ha := congrArg Prod.fst h1
  have hb := congrArg Prod.snd h1
  refine ⟨?_, hb.symm⟩
  have hc := congrArg RS.err ha
  simp only [RS.e, erE] at hc
  cases h3 : (queryL ⟨l, none⟩).1.err <;> cases h4 : (queryL ⟨l', none⟩).1.err <;> simp [h3, h4] at hc ⊢
end Go.Proofs.YtddbnmiennjnlaaGreatDoor
