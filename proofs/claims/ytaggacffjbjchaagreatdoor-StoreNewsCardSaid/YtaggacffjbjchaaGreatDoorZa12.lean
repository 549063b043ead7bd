/- tree's walk: what goes through a tree. The store's New at tables that are no catalog. -/
import Derived.Test.YtaggacffjbjchaaGreatDoorZa11
import Derived.OneCell
namespace Go.Proofs.YtaggacffjbjchaaGreatDoor
open Go.RowKit

/-- Nothing elder has turned but in blocks of M. -/
structure Only (M : Nat → Prop) (w w' : World) : Prop where
  os : w'.os = w.os
  tape : w'.tape = w.tape
  output : w'.output = w.output
  size : w.heap.size ≤ w'.heap.size
  block : ∀ b, b < w.heap.size → ¬ M b → w'.heap[b]? = w.heap[b]?
theorem Only.refl (M : Nat → Prop) (w : World) : Only M w w := ⟨rfl, rfl, rfl, Nat.le_refl _, fun _ _ _ => rfl⟩
theorem Only.drew {M : Nat → Prop} {w w' : World} (h : Only M w w') : Only M w w'.drew := ⟨h.os, h.tape, h.output, h.size, h.block⟩
theorem Only.drewN {M : Nat → Prop} {w w' : World} (h : Only M w w') (n : Nat) : Only M w (w'.drewN n) := ⟨h.os, h.tape, h.output, h.size, h.block⟩
theorem Only.grown {M : Nat → Prop} {w w1 w2 : World} {row : Option Nat} (h : Only M w w1) (hg : w1.grownBy w2 row) (hr : ∀ j, row = some j → M j ∨ w.heap.size ≤ j) : Only M w w2 :=
  ⟨hg.os.trans h.os, hg.tape.trans h.tape, hg.output.trans h.output, Nat.le_trans h.size hg.size, fun b hb hM => (hg.block b (Nat.lt_of_lt_of_le hb h.size) (fun e => by
    rcases hr b e.symm with h1 | h1
    · exact hM h1
    · omega)).trans (h.block b hb hM)⟩
theorem Only.set {M : Nat → Prop} {w w1 : World} (h : Only M w w1) {g : Nat} (hg : M g ∨ w.heap.size ≤ g) (i : Nat) (u : Value) : Only M w (w1.setCell ⟨g, i, none⟩ u) :=
  ⟨h.os, h.tape, h.output, by simp [World.setCell]; exact h.size, fun b hb hM => (Below.heap_setCell _ _ _ _ (fun e => by
    have e' : b = g := e
    subst e'
    rcases hg with h1 | h1
    · exact hM h1
    · omega)).trans (h.block b hb hM)⟩
theorem Only.trans {M : Nat → Prop} {w w1 w2 : World} (h : Only M w w1) {M' : Nat → Prop} (k : Only M' w1 w2) (hM : ∀ b, M' b → M b ∨ w.heap.size ≤ b) : Only M w w2 :=
  ⟨k.os.trans h.os, k.tape.trans h.tape, k.output.trans h.output, Nat.le_trans h.size k.size, fun b hb hb' => (k.block b (Nat.lt_of_lt_of_le hb h.size) (fun e => by
    rcases hM b e with h1 | h1
    · exact hb' h1
    · omega)).trans (h.block b hb hb')⟩
theorem Only.stays {M S : Nat → Prop} {w w' : World} (h : Only M w w') (hS : ∀ b, S b → b < w.heap.size → ¬ M b) : Stays S w w' := ⟨h.size, fun b hb hlt => h.block b hlt (hS b hb hlt)⟩
theorem Only.cell {M : Nat → Prop} {w w' : World} (h : Only M w w') {b o : Nat} {v : Value} (hc : w.cell? ⟨b, o, none⟩ = some v) (hb : ¬ M b) : w'.cell? ⟨b, o, none⟩ = some v :=
  (World.cell?_of_block (a := ⟨b, o, none⟩) (h.block b (World.block_lt_of_cell? w ⟨b, o, none⟩ hc) hb)).trans hc
theorem Only.below {M : Nat → Prop} {w w' : World} {B : Nat} (h : Only M w w') (hB : B ≤ w.heap.size) (hM : ∀ b, M b → B ≤ b) : Below B w w' := ⟨h.os, h.tape, h.output, h.size, fun b hb => h.block b (by omega) (fun e => by have := hM b e; omega)⟩

/-- Keys from one on. -/
def fromL (key : List Vl) (l : List (List Vl × List Vl)) : List (List Vl × List Vl) := l.filter fun x => !decide (rowsOrd x.1 key < 0)
/-- What is still to come of a stack's tree: its own pair, and what is on its right. -/
def pendT (key : List Vl) : Tre → List (List Vl × List Vl)
  | .nil => []
  | .node _ k v r => (k, v) :: fromL key r.toL
/-- What is still to come of a stack. -/
def remS (key : List Vl) (xs : List (Ptr × Tre)) : List (List Vl × List Vl) := xs.reverse.flatMap fun x => pendT key x.2
theorem remS_snoc (key : List Vl) (xs : List (Ptr × Tre)) (x : Ptr × Tre) : remS key (xs ++ [x]) = pendT key x.2 ++ remS key xs := by
  simp [remS]
theorem fromL_app (key : List Vl) (a b : List (List Vl × List Vl)) : fromL key (a ++ b) = fromL key a ++ fromL key b := by simp [fromL]
theorem fromL_none {key : List Vl} {l : List (List Vl × List Vl)} (h : ∀ x ∈ l, rowsOrd x.1 key < 0) : fromL key l = [] := by
  unfold fromL
  rw [List.filter_eq_nil_iff]
  intro x hx
  simp [h x hx]
/-- Where a node is skipped. -/
theorem skip_eq (hc : Tr.IsOrd rowsOrd) {l r : Tre} {k v key : List Vl} (hs : Tr.Sorted rowsOrd (Tr.toL (.node l k v r))) (hk : rowsOrd k key < 0) : fromL key (Tr.toL (.node l k v r)) = fromL key r.toL := by
  simp only [Tr.toL] at hs ⊢
  obtain ⟨_, _, s3, _, _⟩ := Tr.sorted_mid hs
  rw [fromL_app, fromL_none (l := l.toL) (fun x hx => hc.trans _ _ _ (s3 x hx) hk)]
  simp [fromL, hk]
/-- Where a node is pushed. -/
theorem push_eq {l r : Tre} {k v key : List Vl} (hk : ¬ rowsOrd k key < 0) (xs : List (Ptr × Tre)) (p : Ptr) : fromL key (Tr.toL (.node l k v r)) ++ remS key xs = fromL key l.toL ++ remS key (xs ++ [(p, .node l k v r)]) := by
  rw [remS_snoc]
  simp [Tr.toL, fromL_app, pendT]
  simp [fromL, hk]
theorem sorted_l {l r : Tre} {k v : List Vl} (hs : Tr.Sorted rowsOrd (Tr.toL (.node l k v r))) : Tr.Sorted rowsOrd l.toL := by
  simp only [Tr.toL] at hs; exact (Tr.sorted_mid hs).1
theorem sorted_r {l r : Tre} {k v : List Vl} (hs : Tr.Sorted rowsOrd (Tr.toL (.node l k v r))) : Tr.Sorted rowsOrd r.toL := by
  simp only [Tr.toL] at hs; exact (Tr.sorted_mid hs).2.1

/-- The size that a tree's memory tells. -/
def szOf (p : Value) (w : World) : Nat :=
  match p with
  | .pointer (some a) => match w.cell? ⟨a.block, 5, none⟩ with
    | some (.int _ n) => n.toNat
    | _ => 0
  | _ => 0
theorem szOf_eq {S : Nat → Prop} {w : World} {t : Tre} {p : Ptr} (h : TrAt S w t p) : szOf (.pointer p) w = t.n := by
  cases t with
  | nil => obtain rfl : p = none := h; rfl
  | node l k v r =>
    obtain ⟨b, _, _, _, _, _, _, rfl, _, _, ⟨_, _, _, _, _, c5⟩, _⟩ := h
    simp only [szOf, c5]
    omega
/-- What a walk has in memory. -/
structure Wlk (S : Nat → Prop) (B : Nat) (w : World) (kp pp dp : Nat) (ka : Ptr) (kc : Nat) (key : List Vl) (v : Value) (xs : List (Ptr × Tre)) : Prop where
  path : w.heap[pp]? = some (.cells #[v] 197 (0, 0))
  own : w.ownsRow B 97 1 v xs.length (xs.map fun x => Value.pointer x.1)
  bp : B ≤ pp
  kbox : w.cell? ⟨kp, 0, none⟩ = some (.slice ka key.length kc)
  krow : RwS S w ka key
  dbox : w.cell? ⟨dp, 0, none⟩ = some (.func (.func 92) #[] #[.pointer (some ⟨kp, 0, none⟩), .pointer (some ⟨pp, 0, none⟩)])
  kp_pp : kp ≠ pp
  dp_pp : dp ≠ pp
  v_pp : v.ownBlock ≠ some pp
  v_kp : v.ownBlock ≠ some kp
  v_dp : v.ownBlock ≠ some dp
  trees : ∀ x ∈ xs, TrAt S w x.2 x.1 ∧ (0 < x.2.n ∧ x.2.n ≤ 500000000) ∧ Tr.Sorted rowsOrd x.2.toL
  low : ∀ b, S b → b < B
  bw : B ≤ w.heap.size
/-- The blocks that a walk writes. -/
def Wlk.M (pp : Nat) (v : Value) (b : Nat) : Prop := b = pp ∨ v.ownBlock = some b
/-- A walk stays where others write. -/
theorem Wlk.keep {S : Nat → Prop} {B : Nat} {w w' : World} {kp pp dp : Nat} {ka : Ptr} {kc : Nat} {key : List Vl} {v : Value} {xs : List (Ptr × Tre)} (h : Wlk S B w kp pp dp ka kc key v xs) {M : Nat → Prop} (ho : Only M w w') (hM : ∀ b, M b → B ≤ b ∧ b ≠ kp ∧ b ≠ pp ∧ b ≠ dp ∧ v.ownBlock ≠ some b) : Wlk S B w' kp pp dp ka kc key v xs := by
  have hst : Stays S w w' := ho.stays (fun b hb _ hm => by have := h.low b hb; have := (hM b hm).1; omega)
  have hpp : pp < w.heap.size := lt_of_block h.path
  refine ⟨(ho.block pp hpp (fun hm => (hM pp hm).2.2.1 rfl)).trans h.path, ?_, h.bp, ho.cell h.kbox (fun hm => (hM kp hm).2.1 rfl), h.krow.keep hst, ho.cell h.dbox (fun hm => (hM dp hm).2.2.2.1 rfl), h.kp_pp, h.dp_pp, h.v_pp, h.v_kp, h.v_dp, fun x hx => ⟨(h.trees x hx).1.keep hst, (h.trees x hx).2⟩, h.low, Nat.le_trans h.bw ho.size⟩
  refine ⟨h.own.1, ?_⟩
  rcases h.own.2 with hn | ⟨g, cap, cur, rfl, hb, hgg, rest⟩
  · exact .inl hn
  · exact .inr ⟨g, cap, cur, rfl, hb, (ho.block g (lt_of_block hgg) (fun hm => (hM g hm).2.2.2.2 rfl)).trans hgg, rest⟩
end Go.Proofs.YtaggacffjbjchaaGreatDoor
namespace Go.Proofs.YtaggacffjbjchaaGreatDoor
open Go.RowKit

set_option maxRecDepth 100000 in
set_option maxHeartbeats 1600000 in
theorem newS_bad (a : Option Addr) (cap G : Nat) (l : List Tb) (w : World) (h : TabsAt w.heap.size w a l) (hcap : l.length ≤ cap) (hcs : ∀ t ∈ l, t.l.length ≤ t.cap) (hw : WhyG w) (hE : ErrT G w) (hr : ¬ RightG l) :
    Calls Tryz.prog 10 #[.slice a l.length cap] w fun e w' => (∃ k y, Flaw6 (FullG l) (MalG l) (TwcG l) l.length k y ∧ e = .returned (.tuple #[.pointer none, .int .i64 y])) ∧ w.grownBy w' none := by
  obtain ⟨FL, hFL⟩ : ∃ FL : Nat → Int → Prop, FL = fun k y => Flaw6 (FullG l) (MalG l) (TwcG l) l.length k y := ⟨_, rfl⟩
  have HC : Hid (∀ W, w.grownBy W none → Calls Tryz.prog 35 #[.slice a l.length cap] W fun e w' => (∃ (k : Nat) (y : Int), FL k y ∧ (y = 3 ∨ y = 2 ∨ y = 23) ∧ e = .returned (.tuple #[.int .i64 k, .int .i64 y])) ∧ W.grownBy w' none) := Lib.hid fun W hW => (check_any a cap G l W ((h.keep hW (by simp)).mono hW.size) hcap hcs (hw.grown hW) (hE.grown hW)).mono fun e w' h => ⟨by
    rcases h.1 with ⟨h, _⟩ | ⟨k, y, h, e⟩
    · exact absurd h hr
    · exact ⟨k, y, by rw [hFL]; exact h, by rcases h.2.2 with ⟨_, h⟩ | ⟨_, _, h⟩ | ⟨_, _, _, h⟩ <;> simp [h], e⟩, h.2⟩
  refine (?_ : Calls Tryz.prog 10 #[.slice a l.length cap] w fun e w' => (∃ (k : Nat) (y : Int), FL k y ∧ e = .returned (.tuple #[.pointer none, .int .i64 y])) ∧ w.grownBy w' none).mono fun e w' ⟨⟨k, y, h, e⟩, g⟩ => ⟨⟨k, y, by rw [hFL] at h; exact h, e⟩, g⟩
  clear h hcap hcs hw hE hr hFL
  generalize l.length = n at *
  go_enter Tryz.func10, Tryz.ntmps10
  go_wp2_with fail
  refine (HC.out _ (grown_refl6 _ _)).mono ?_
  rintro e w2 ⟨⟨k, y, hfl, hy, rfl⟩, hg⟩
  have K2 := Lib.hid hg
  have FH := Lib.hid hfl
  clear hg hfl
  rcases hy with rfl | rfl | rfl
  all_goals
    go_wp2_with fail
    go_ret2
    exact ⟨⟨k, _, FH.out, rfl⟩, K2.out⟩
end Go.Proofs.YtaggacffjbjchaaGreatDoor
