/- What schema's Check answers at any tables. tree's walk: what goes through a tree. The store's New at tables that are no catalog. -/
import Derived.Test.YtnfpomjcofhppaaGreatDoorZb11
import Derived.OneCell
namespace Go.Proofs.YtnfpomjcofhppaaGreatDoor
open Go.RowKit

def FullG (l : List Tb) (i : Nat) : Prop := i < 6 ∧ 1 ≤ (l.getD i default).l.length ∧ (l.getD i default).l.length ≤ 8
def MalG (l : List Tb) (i : Nat) : Prop := nameB (l.getD i default).n = true ∧ 1 ≤ (l.getD i default).k ∧ (l.getD i default).k ≤ (l.getD i default).l.length ∧ ∀ j, j < (l.getD i default).l.length → colGood (l.getD i default).k j ((l.getD i default).l.getD j default)
def TwcG (l : List Tb) (i : Nat) : Prop := Apart6 (l.take i) (l.getD i default).n ∧ Once6 (l.getD i default).l (l.getD i default).l.length
/-- Right: no table of the list is flawed. -/
def RightG (l : List Tb) : Prop := ∀ i, i < l.length → FullG l i ∧ MalG l i ∧ TwcG l i
theorem review_any (a : Option Addr) (cap : Nat) (l : List Tb) (w : World) (h : TabsAt w.heap.size w a l) (hcap : l.length ≤ cap) (hcs : ∀ t ∈ l, t.l.length ≤ t.cap) (hw : WhyG w) :
    Calls Tryz.prog 55 #[.slice a l.length cap] w fun e w' => (RightG l ∧ e = .returned .nilIface ∨ ∃ k y, Flaw6 (FullG l) (MalG l) (TwcG l) l.length k y ∧ ∃ ty p, e = .returned (.iface 145 (.agg #[.int .i64 k, .int .i64 y, .iface ty p]))) ∧ w.grownBy w' none := by
  refine review_walk a cap l w h hcap (FullG l) (MalG l) (TwcG l) (fun k hk W hW => ?_) (fun k hk W hW => ?_) (fun k hk W hW => ?_)
  · exact full_any k _ _ _ _ _ W (hw.grown hW)
  · exact malformed_any _ _ _ _ _ W (((h.2.1 _ (tb_mem hk)).keep hW (by simp)).mono hW.size) (hw.grown hW)
  · have hl : (l.take k).length = k := by rw [List.length_take]; omega
    have := twice_any a (l.getD k default).a cap (l.getD k default).cap (l.take k) (l.getD k default).l (l.getD k default).n (l.getD k default).k W (((h.keep hW (by simp)).mono hW.size).pre (by omega)) (((h.2.1 _ (tb_mem hk)).keep hW (by simp)).mono hW.size) (hcs _ (tb_mem hk)) (hw.grown hW)
    rw [hl] at this
    exact this
theorem Flaw6.not {l : List Tb} {k : Nat} {y : Int} (h : Flaw6 (FullG l) (MalG l) (TwcG l) l.length k y) : ¬ RightG l := fun hr => by
  obtain ⟨h1, h2, h3⟩ := hr k h.1
  rcases h.2.2 with ⟨h, _⟩ | ⟨_, h, _⟩ | ⟨_, _, h, _⟩
  · exact h h1
  · exact h h2
  · exact h h3
set_option maxHeartbeats 1600000 in
/-- Check at any tables. -/
theorem check_any (a : Option Addr) (cap G : Nat) (l : List Tb) (w : World) (h : TabsAt w.heap.size w a l) (hcap : l.length ≤ cap) (hcs : ∀ t ∈ l, t.l.length ≤ t.cap) (hw : WhyG w) (hE : ErrT G w) :
    Calls Tryz.prog 36 #[.slice a l.length cap] w fun e w' => (RightG l ∧ e = .returned (.tuple #[.int .i64 0, .int .i64 0]) ∨ ∃ k y, Flaw6 (FullG l) (MalG l) (TwcG l) l.length k y ∧ e = .returned (.tuple #[.int .i64 k, .int .i64 y])) ∧ w.grownBy w' none := by
  have HR0 : Hid (∀ W, w.grownBy W none → Calls Tryz.prog 55 #[.slice a l.length cap] W fun e w' => (RightG l ∧ e = .returned .nilIface ∨ ∃ k y, Flaw6 (FullG l) (MalG l) (TwcG l) l.length k y ∧ ∃ ty p, e = .returned (.iface 145 (.agg #[.int .i64 k, .int .i64 y, .iface ty p]))) ∧ W.grownBy w' none) := Lib.hid fun W hW => review_any a cap l W ((h.keep hW (by simp)).mono hW.size) hcap hcs (hw.grown hW)
  by_cases hr : RightG l
  · have HR : Hid (∀ W, w.grownBy W none → Calls Tryz.prog 55 #[.slice a l.length cap] W fun e w' => e = .returned .nilIface ∧ W.grownBy w' none) := Lib.hid fun W hW => (HR0.out W hW).mono fun e w' h => ⟨by
      rcases h.1 with ⟨_, h⟩ | ⟨k, y, h, _⟩
      · exact h
      · exact absurd hr h.not, h.2⟩
    have HA := Lib.hid as_nil
    have HQ := Lib.hid hr
    clear HR0 hr h hcap hcs hw hE
    generalize l.length = n at *
    go_enter Tryz.func36, Tryz.ntmps36
    go_wp2_with fail
    refine (HR.out _ (World.grownBy_alloc _ _ _)).mono ?_
    rintro e w2 ⟨rfl, hg⟩
    have K2 := Lib.hid ((World.grownBy_alloc w _ none).trans hg)
    clear hg
    go_wp2_with fail
    refine (HA.out _ _ _).mono ?_
    rintro e w3 ⟨rfl, rfl⟩
    go_wp2_with fail
    go_ret2
    exact ⟨.inl ⟨HQ.out, rfl⟩, K2.out⟩
  · obtain ⟨FL, hFL⟩ : ∃ FL : Nat → Int → Prop, FL = fun k y => Flaw6 (FullG l) (MalG l) (TwcG l) l.length k y := ⟨_, rfl⟩
    have HR : Hid (∀ W, w.grownBy W none → Calls Tryz.prog 55 #[.slice a l.length cap] W fun e w' => (∃ (k : Nat) (y : Int) (ty : TypeId) (p : Value), FL k y ∧ e = .returned (.iface 145 (.agg #[.int .i64 k, .int .i64 y, .iface ty p]))) ∧ W.grownBy w' none) := Lib.hid fun W hW => (HR0.out W hW).mono fun e w' h => ⟨by
      rcases h.1 with ⟨h, _⟩ | ⟨k, y, h, ty, p, e⟩
      · exact absurd h hr
      · exact ⟨k, y, ty, p, by rw [hFL]; exact h, e⟩, h.2⟩
    refine (?_ : Calls Tryz.prog 36 #[.slice a l.length cap] w fun e w' => (∃ (k : Nat) (y : Int), FL k y ∧ e = .returned (.tuple #[.int .i64 k, .int .i64 y])) ∧ w.grownBy w' none).mono fun e w' ⟨⟨k, y, h, e⟩, g⟩ => ⟨.inr ⟨k, y, by rw [hFL] at h; exact h, e⟩, g⟩
    have HE := Lib.hid hE
    clear HR0 hr h hcap hcs hw hE hFL
    generalize l.length = n at *
    have G0 := Lib.hid (World.grownBy_alloc w (.cells #[.int .i64 0, .int .i64 0, .nilIface] 145) none)
    have HB := Lib.hid (box3_new6 w (.int .i64 0) (.int .i64 0) .nilIface 145)
    have HZ : Hid (∀ i, (w.alloc (.cells #[.int .i64 0, .int .i64 0, .nilIface] 145)).frozen? ⟨w.heap.size, i, none⟩ = false) := Lib.hid fun i => by
      have e := heap_alloc_new w (.cells #[.int .i64 0, .int .i64 0, .nilIface] 145)
      simp only [World.frozen?, e]
      simp
    go_enter Tryz.func36, Tryz.ntmps36
    go_wp2_with fail
    refine (HR.out _ (World.grownBy_alloc _ _ _)).mono ?_
    rintro e w2 ⟨⟨k, y, ty, p, hfl, rfl⟩, hg⟩
    have HA := Lib.hid (as_hitF k y ty p w.heap.size G _ _ _ w2 (HE.out.grown (G0.out.trans hg)) (hg.cell HB.out.1 (by simp)) (hg.cell HB.out.2.1 (by simp)) (hg.cell HB.out.2.2 (by simp)) ((hg.frozen_far ⟨w.heap.size, 0, none⟩ (by simp) (by simp)).trans (HZ.out 0)) ((hg.frozen_far ⟨w.heap.size, 1, none⟩ (by simp) (by simp)).trans (HZ.out 1)) ((hg.frozen_far ⟨w.heap.size, 2, none⟩ (by simp) (by simp)).trans (HZ.out 2)))
    have K2 := Lib.hid hg
    have FH := Lib.hid hfl
    clear hg hfl
    go_wp2_with fail
    refine HA.out.mono ?_
    rintro e w3 ⟨rfl, hh⟩
    obtain ⟨hg3, e0, e1⟩ := hh.after (K2.out.cell HB.out.1 (by simp)) (K2.out.cell HB.out.2.1 (by simp)) (K2.out.cell HB.out.2.2 (by simp))
    have K3 := Lib.hid hg3
    clear hg3 hh
    go_wp2_with fail
    go_quiet (fail)
    go_wp2_with fail
    go_ret2
    exact ⟨⟨k, y, FH.out, rfl⟩, grown_drewN6 (grown_then6 (G0.out.trans K2.out) K3.out (fun j e => by cases e; exact Nat.le_refl _)) _⟩
end Go.Proofs.YtnfpomjcofhppaaGreatDoor
namespace Go.Proofs.YtnfpomjcofhppaaGreatDoor
open Go.RowKit

/-- Nothing elder has turned but in blocks of M. -/
structure Only (M : Nat → Prop) (w w' : World) : Prop where
  os : w'.os = w.os
  tape : w'.tape = w.tape
  output : w'.output = w.output
  size : w.heap.size ≤ w'.heap.size
  block : ∀ b, b < w.heap.size → ¬ M b → w'.heap[b]? = w.heap[b]?
theorem Only.refl (M : Nat → Prop) (w : World) : Only M w w := ⟨rfl, rfl, rfl, Nat.le_refl _, fun _ _ _ => rfl⟩
theorem Only.drew {M : Nat → Prop} {w w' : World} (h : Only M w w') : Only M w w'.drew := ⟨h.os, h.tape, h.output, h.size, h.block⟩
theorem Only.drewN {M : Nat → Prop} {w w' : World} (h : Only M w w') (n : Nat) : Only M w (w'.drewN n) := ⟨h.os, h.tape, h.output, h.size, h.block⟩
theorem Only.grown {M : Nat → Prop} {w w1 w2 : World} {row : Option Nat} (h : Only M w w1) (hg : w1.grownBy w2 row) (hr : ∀ j, row = some j → M j ∨ w.heap.size ≤ j) : Only M w w2 :=
  ⟨hg.os.trans h.os, hg.tape.trans h.tape, hg.output.trans h.output, Nat.le_trans h.size hg.size, fun b hb hM => (hg.block b (Nat.lt_of_lt_of_le hb h.size) (fun e => by
    rcases hr b e.symm with h1 | h1
    · exact hM h1
    · omega)).trans (h.block b hb hM)⟩
theorem Only.set {M : Nat → Prop} {w w1 : World} (h : Only M w w1) {g : Nat} (hg : M g ∨ w.heap.size ≤ g) (i : Nat) (u : Value) : Only M w (w1.setCell ⟨g, i, none⟩ u) :=
  ⟨h.os, h.tape, h.output, by simp [World.setCell]; exact h.size, fun b hb hM => (Below.heap_setCell _ _ _ _ (fun e => by
    have e' : b = g := e
    subst e'
    rcases hg with h1 | h1
    · exact hM h1
    · omega)).trans (h.block b hb hM)⟩
theorem Only.trans {M : Nat → Prop} {w w1 w2 : World} (h : Only M w w1) {M' : Nat → Prop} (k : Only M' w1 w2) (hM : ∀ b, M' b → M b ∨ w.heap.size ≤ b) : Only M w w2 :=
  ⟨k.os.trans h.os, k.tape.trans h.tape, k.output.trans h.output, Nat.le_trans h.size k.size, fun b hb hb' => (k.block b (Nat.lt_of_lt_of_le hb h.size) (fun e => by
    rcases hM b e with h1 | h1
    · exact hb' h1
    · omega)).trans (h.block b hb hb')⟩
theorem Only.stays {M S : Nat → Prop} {w w' : World} (h : Only M w w') (hS : ∀ b, S b → b < w.heap.size → ¬ M b) : Stays S w w' := ⟨h.size, fun b hb hlt => h.block b hlt (hS b hb hlt)⟩
theorem Only.cell {M : Nat → Prop} {w w' : World} (h : Only M w w') {b o : Nat} {v : Value} (hc : w.cell? ⟨b, o, none⟩ = some v) (hb : ¬ M b) : w'.cell? ⟨b, o, none⟩ = some v :=
  (World.cell?_of_block (a := ⟨b, o, none⟩) (h.block b (World.block_lt_of_cell? w ⟨b, o, none⟩ hc) hb)).trans hc
theorem Only.below {M : Nat → Prop} {w w' : World} {B : Nat} (h : Only M w w') (hB : B ≤ w.heap.size) (hM : ∀ b, M b → B ≤ b) : Below B w w' := ⟨h.os, h.tape, h.output, h.size, fun b hb => h.block b (by omega) (fun e => by have := hM b e; omega)⟩

/-- Keys from one on. -/
def fromL (key : List Vl) (l : List (List Vl × List Vl)) : List (List Vl × List Vl) := l.filter fun x => !decide (rowsOrd x.1 key < 0)
/-- What is still to come of a stack's tree: its own pair, and what is on its right. -/
def pendT (key : List Vl) : Tre → List (List Vl × List Vl)
  | .nil => []
  | .node _ k v r => (k, v) :: fromL key r.toL
/-- What is still to come of a stack. -/
def remS (key : List Vl) (xs : List (Ptr × Tre)) : List (List Vl × List Vl) := xs.reverse.flatMap fun x => pendT key x.2
theorem remS_snoc (key : List Vl) (xs : List (Ptr × Tre)) (x : Ptr × Tre) : remS key (xs ++ [x]) = pendT key x.2 ++ remS key xs := by
  simp [remS]
theorem fromL_app (key : List Vl) (a b : List (List Vl × List Vl)) : fromL key (a ++ b) = fromL key a ++ fromL key b := by simp [fromL]
theorem fromL_none {key : List Vl} {l : List (List Vl × List Vl)} (h : ∀ x ∈ l, rowsOrd x.1 key < 0) : fromL key l = [] := by
  unfold fromL
  rw [List.filter_eq_nil_iff]
  intro x hx
  simp [h x hx]
/-- Where a node is skipped. -/
theorem skip_eq (hc : Tr.IsOrd rowsOrd) {l r : Tre} {k v key : List Vl} (hs : Tr.Sorted rowsOrd (Tr.toL (.node l k v r))) (hk : rowsOrd k key < 0) : fromL key (Tr.toL (.node l k v r)) = fromL key r.toL := by
  simp only [Tr.toL] at hs ⊢
  obtain ⟨_, _, s3, _, _⟩ := Tr.sorted_mid hs
  rw [fromL_app, fromL_none (l := l.toL) (fun x hx => hc.trans _ _ _ (s3 x hx) hk)]
  simp [fromL, hk]
/-- Where a node is pushed. -/
theorem push_eq {l r : Tre} {k v key : List Vl} (hk : ¬ rowsOrd k key < 0) (xs : List (Ptr × Tre)) (p : Ptr) : fromL key (Tr.toL (.node l k v r)) ++ remS key xs = fromL key l.toL ++ remS key (xs ++ [(p, .node l k v r)]) := by
  rw [remS_snoc]
  simp [Tr.toL, fromL_app, pendT]
  simp [fromL, hk]
theorem sorted_l {l r : Tre} {k v : List Vl} (hs : Tr.Sorted rowsOrd (Tr.toL (.node l k v r))) : Tr.Sorted rowsOrd l.toL := by
  simp only [Tr.toL] at hs; exact (Tr.sorted_mid hs).1
theorem sorted_r {l r : Tre} {k v : List Vl} (hs : Tr.Sorted rowsOrd (Tr.toL (.node l k v r))) : Tr.Sorted rowsOrd r.toL := by
  simp only [Tr.toL] at hs; exact (Tr.sorted_mid hs).2.1

/-- The size that a tree's memory tells. -/
def szOf (p : Value) (w : World) : Nat :=
  match p with
  | .pointer (some a) => match w.cell? ⟨a.block, 5, none⟩ with
    | some (.int _ n) => n.toNat
    | _ => 0
  | _ => 0
theorem szOf_eq {S : Nat → Prop} {w : World} {t : Tre} {p : Ptr} (h : TrAt S w t p) : szOf (.pointer p) w = t.n := by
  cases t with
  | nil => obtain rfl : p = none := h; rfl
  | node l k v r =>
    obtain ⟨b, _, _, _, _, _, _, rfl, _, _, ⟨_, _, _, _, _, c5⟩, _⟩ := h
    simp only [szOf, c5]
    omega
/-- What a walk has in memory. -/
structure Wlk (S : Nat → Prop) (B : Nat) (w : World) (kp pp dp : Nat) (ka : Ptr) (kc : Nat) (key : List Vl) (v : Value) (xs : List (Ptr × Tre)) : Prop where
  path : w.heap[pp]? = some (.cells #[v] 192 (0, 0))
  own : w.ownsRow B 79 1 v xs.length (xs.map fun x => Value.pointer x.1)
  bp : B ≤ pp
  kbox : w.cell? ⟨kp, 0, none⟩ = some (.slice ka key.length kc)
  krow : RwS S w ka key
  dbox : w.cell? ⟨dp, 0, none⟩ = some (.func (.func 84) #[] #[.pointer (some ⟨kp, 0, none⟩), .pointer (some ⟨pp, 0, none⟩)])
  kp_pp : kp ≠ pp
  dp_pp : dp ≠ pp
  v_pp : v.ownBlock ≠ some pp
  v_kp : v.ownBlock ≠ some kp
  v_dp : v.ownBlock ≠ some dp
  trees : ∀ x ∈ xs, TrAt S w x.2 x.1 ∧ (0 < x.2.n ∧ x.2.n ≤ 500000000) ∧ Tr.Sorted rowsOrd x.2.toL
  low : ∀ b, S b → b < B
  bw : B ≤ w.heap.size
/-- The blocks that a walk writes. -/
def Wlk.M (pp : Nat) (v : Value) (b : Nat) : Prop := b = pp ∨ v.ownBlock = some b
/-- A walk stays where others write. -/
theorem Wlk.keep {S : Nat → Prop} {B : Nat} {w w' : World} {kp pp dp : Nat} {ka : Ptr} {kc : Nat} {key : List Vl} {v : Value} {xs : List (Ptr × Tre)} (h : Wlk S B w kp pp dp ka kc key v xs) {M : Nat → Prop} (ho : Only M w w') (hM : ∀ b, M b → B ≤ b ∧ b ≠ kp ∧ b ≠ pp ∧ b ≠ dp ∧ v.ownBlock ≠ some b) : Wlk S B w' kp pp dp ka kc key v xs := by
  have hst : Stays S w w' := ho.stays (fun b hb _ hm => by have := h.low b hb; have := (hM b hm).1; omega)
  have hpp : pp < w.heap.size := lt_of_block h.path
  refine ⟨(ho.block pp hpp (fun hm => (hM pp hm).2.2.1 rfl)).trans h.path, ?_, h.bp, ho.cell h.kbox (fun hm => (hM kp hm).2.1 rfl), h.krow.keep hst, ho.cell h.dbox (fun hm => (hM dp hm).2.2.2.1 rfl), h.kp_pp, h.dp_pp, h.v_pp, h.v_kp, h.v_dp, fun x hx => ⟨(h.trees x hx).1.keep hst, (h.trees x hx).2⟩, h.low, Nat.le_trans h.bw ho.size⟩
  refine ⟨h.own.1, ?_⟩
  rcases h.own.2 with hn | ⟨g, cap, cur, rfl, hb, hgg, rest⟩
  · exact .inl hn
  · exact .inr ⟨g, cap, cur, rfl, hb, (ho.block g (lt_of_block hgg) (fun hm => (hM g hm).2.2.2.2 rfl)).trans hgg, rest⟩
end Go.Proofs.YtnfpomjcofhppaaGreatDoor
namespace Go.Proofs.YtnfpomjcofhppaaGreatDoor
open Go.RowKit

set_option maxRecDepth 100000 in
set_option maxHeartbeats 1600000 in
theorem newS_bad (a : Option Addr) (cap G : Nat) (l : List Tb) (w : World) (h : TabsAt w.heap.size w a l) (hcap : l.length ≤ cap) (hcs : ∀ t ∈ l, t.l.length ≤ t.cap) (hw : WhyG w) (hE : ErrT G w) (hr : ¬ RightG l) :
    Calls Tryz.prog 17 #[.slice a l.length cap] w fun e w' => (∃ k y, Flaw6 (FullG l) (MalG l) (TwcG l) l.length k y ∧ e = .returned (.tuple #[.pointer none, .int .i64 y])) ∧ w.grownBy w' none := by
  obtain ⟨FL, hFL⟩ : ∃ FL : Nat → Int → Prop, FL = fun k y => Flaw6 (FullG l) (MalG l) (TwcG l) l.length k y := ⟨_, rfl⟩
  have HC : Hid (∀ W, w.grownBy W none → Calls Tryz.prog 36 #[.slice a l.length cap] W fun e w' => (∃ (k : Nat) (y : Int), FL k y ∧ (y = 3 ∨ y = 2 ∨ y = 23) ∧ e = .returned (.tuple #[.int .i64 k, .int .i64 y])) ∧ W.grownBy w' none) := Lib.hid fun W hW => (check_any a cap G l W ((h.keep hW (by simp)).mono hW.size) hcap hcs (hw.grown hW) (hE.grown hW)).mono fun e w' h => ⟨by
    rcases h.1 with ⟨h, _⟩ | ⟨k, y, h, e⟩
    · exact absurd h hr
    · exact ⟨k, y, by rw [hFL]; exact h, by rcases h.2.2 with ⟨_, h⟩ | ⟨_, _, h⟩ | ⟨_, _, _, h⟩ <;> simp [h], e⟩, h.2⟩
  refine (?_ : Calls Tryz.prog 17 #[.slice a l.length cap] w fun e w' => (∃ (k : Nat) (y : Int), FL k y ∧ e = .returned (.tuple #[.pointer none, .int .i64 y])) ∧ w.grownBy w' none).mono fun e w' ⟨⟨k, y, h, e⟩, g⟩ => ⟨⟨k, y, by rw [hFL] at h; exact h, e⟩, g⟩
  clear h hcap hcs hw hE hr hFL
  generalize l.length = n at *
  go_enter Tryz.func17, Tryz.ntmps17
  go_wp2_with fail
  refine (HC.out _ (grown_refl6 _ _)).mono ?_
  rintro e w2 ⟨⟨k, y, hfl, hy, rfl⟩, hg⟩
  have K2 := Lib.hid hg
  have FH := Lib.hid hfl
  clear hg hfl
  rcases hy with rfl | rfl | rfl
  all_goals
    go_wp2_with fail
    go_ret2
    exact ⟨⟨k, _, FH.out, rfl⟩, K2.out⟩
end Go.Proofs.YtnfpomjcofhppaaGreatDoor
