/- The laws' Make. Any catalog's store in memory, behind commits; commits that come in. An act done to both. Acts in memory; Fits. tree's From, with what is known of the memory of its rows: it may be written. Trees and lists that are kept, one after the other. The law TreeStays walked. What TreePlays makes of an act: copies of its rows, and what is written into them. What TreePlays writes into rows of its own: blocks that are overwritten. What TreePlays writes into the rows that From gave. A snapshot's rows with their memory known whole; lists of them. Lists of slices of rows: one's own, and in memory. The store's Since, told as one; what refuses has a number; a snapshot of a store that is. What opens the arguments of layer 6's laws: tables, rows, a place with a value. What opens the arguments of layer 9's laws: catalogs, operations, commits. What the laws of layer 9 share. -/
import Derived.Test.YtaggacffjbjchaaGreatDoorZa37
import Derived.Deep.RegionHeld
import Derived.Test.YtaggacffjbjchaaGreatDoorZa22
import Derived.Deep.RegionWith
import Derived.Deep.RegionHeld3
import Derived.Deep.MidRow
import Derived.Deep.Upon
import Derived.Test.YtaggacffjbjchaaGreatDoorZa07
import Derived.ProofKit
import Derived.OpenShut
import Derived.Deep.Slices
import Derived.Deep.Fields
import Derived.ChangeSame
import Derived.Lib.SmallJoins
namespace Go.Proofs.YtaggacffjbjchaaGreatDoor
open Go.RowKit

theorem SAt.mono {B B' : Nat} {w : World} {s : Stm} (h : SAt B w s) (hB : B' ≤ B) : SAt B' w s :=
  ⟨h.blk, h.jou, h.win, h.cat, h.tre, h.few, h.kept, h.vers, h.ok, h.hcc, h.trs, h.nsb, fun k hk => Nat.le_trans hB (h.low k hk), h.v0, h.v1⟩
set_option maxRecDepth 100000 in
set_option maxHeartbeats 1600000 in
theorem newS_ok9 (a : Option Addr) (cap G : Nat) (S : Nat → Prop) (l : List Tb) (w : World) (h : TbsS S w a l) (hcap : l.length ≤ cap) (hcs : ∀ t ∈ l, t.l.length ≤ t.cap) (hw : WhyG w) (hE : ErrT G w) (hr : RightG l) :
    Calls Tryz.prog 10 #[.slice a l.length cap] w fun e w' => (∃ s : Stm, e = .returned (.tuple #[.pointer (some ⟨s.b, 0, none⟩), .int .i64 0]) ∧ SAt w.heap.size w' s ∧ s.v = 0 ∧ s.cs = [] ∧ s.sn = [default] ∧ s.ts.map Tb.p = l.map Tb.p ∧ TbsS (fun b => w.heap.size ≤ b ∧ ¬ s.M b) w' s.ca s.ts) ∧ w.grownBy w' none := by
  have hl : l.length ≤ 100 := by
    rcases Nat.lt_or_ge 6 l.length with h | h
    · have := (hr 6 h).1.1; omega
    · omega
  have hcl : ∀ t ∈ l, t.l.length ≤ 100 := fun t ht => by
    obtain ⟨i, hi, rfl⟩ := List.getElem_of_mem ht
    have := (hr i hi).1.2.2
    simp only [List.getD, List.getElem?_eq_getElem hi, Option.getD_some] at this
    omega
  have HC : Hid (Calls Tryz.prog 35 #[.slice a l.length cap] w fun e w' => e = .returned (.tuple #[.int .i64 0, .int .i64 0]) ∧ w.grownBy w' none) := Lib.hid ((check_any a cap G l w h.tabs hcap hcs hw hE).mono fun e w' h => ⟨by
    rcases h.1 with ⟨_, h⟩ | ⟨k, y, h, _⟩
    · exact h
    · exact absurd hr h.not, h.2⟩)
  have HQ := Lib.hid hr
  have HP := Lib.hid (fun W (hW : w.grownBy W none) => copiedT_any S a cap l W (h.keep (.of hW)) hl hcl)
  have HJ := Lib.hid newJ_any
  have Hl := Lib.hid hl
  clear h hl hcl hcap hcs hw hE hr
  go_enter Tryz.func10, Tryz.ntmps10
  go_wp2_with fail
  refine HC.out.mono ?_
  rintro e w2 ⟨rfl, hg⟩
  have K2 := Lib.hid hg
  clear hg
  go_wp2_with fail
  refine (HJ.out _).mono ?_
  rintro e w3 ⟨⟨J, rfl, hJ, hjs⟩, hg⟩
  have K3 := Lib.hid (K2.out.trans hg)
  have J3 := Lib.hid hjs
  have JE := Lib.hid hJ
  have KJ := Lib.hid hg
  clear hg hjs hJ
  go_wp2_with fail
  refine (HP.out _ K3.out).mono ?_
  rintro e w4 ⟨⟨a', cap', l', rfl, e1, e2, e3, e4, e5⟩, hg⟩
  have K4 := Lib.hid hg
  have P1 := Lib.hid e1
  have P2 := Lib.hid e2
  have P3 := Lib.hid e3
  have P4 := Lib.hid e4
  have P5 := Lib.hid e5
  clear hg e1 e2 e3 e4 e5
  go_wp2_with fail
  go_ret2
  refine ⟨⟨newStm (w4.heap.size + 1) J w4.heap.size cap' a' l', rfl, ?_, rfl, rfl, rfl, P3.out, ?_⟩, K3.out.trans (K4.out.trans ((World.grownBy_alloc _ _ _).trans (World.grownBy_alloc _ _ _)))⟩
  rotate_left
  · have hJl := J3.out.jn.lt
    have h3 := K3.out.size
    have h4 := K4.out.size
    refine (P4.out.mono fun b hb1 hb2 => ⟨by omega, fun hm => ?_⟩).keep (.of ((World.grownBy_alloc _ _ none).trans (World.grownBy_alloc _ _ none)))
    rcases hm with h | h | h | h
    · simp only [newStm] at h; omega
    · simp [newStm, bk] at h
    · simp only [newStm] at h; omega
    · simp [newStm, bk] at h; omega
  rw [← P1.out]
  exact new_sat w.heap.size J cap' a' l' w3 w4 J3.out (by rw [JE.out]; exact K2.out.size) K4.out P4.out (catOk_of HQ.out P3.out P5.out) (by rw [P1.out]; exact P2.out)
/-- A store of a catalog, just made. -/
def Fresh9 (l : List Tb) (B : Nat) (w : World) (s : Stm) : Prop := SAt B w s ∧ s.v = 0 ∧ s.cs = [] ∧ s.sn = [default] ∧ s.ts.map Tb.p = l.map Tb.p ∧ TbsS (fun b => B ≤ b ∧ ¬ s.M b) w s.ca s.ts
theorem Fresh9.keep {l : List Tb} {B B' : Nat} {w w' : World} {s : Stm} (h : Fresh9 l B w s) (hB : B' ≤ B) (hg : w.grownBy w' none) : Fresh9 l B' w' s := ⟨(h.1.mono hB).keepG hg, h.2.1, h.2.2.1, h.2.2.2.1, h.2.2.2.2.1, (h.2.2.2.2.2.mono (fun b _ hb => ⟨by omega, hb.2⟩)).keep (.of hg)⟩
/-- An elder block is overwritten. -/
theorem Fresh9.only9 {l : List Tb} {B B' : Nat} {w w' : World} {s : Stm} {M : Nat → Prop} (h : Fresh9 l B w s) (ho : Only M w w') (hM : ∀ k, M k → k < B) (hB : B' ≤ B) : Fresh9 l B' w' s := by
  obtain ⟨h, v0, c0, n0, p0, ct⟩ := h
  have hno : ∀ k, s.M k → ¬ M k := fun k hk e => by have := h.low k hk; have := hM k e; omega
  have ct' : TbsS (fun b => B ≤ b ∧ ¬ s.M b) w' s.ca s.ts := ct.keep (ho.stays (fun b hb _ e => by have := hM b e; omega))
  refine ⟨⟨?_, ⟨?_, h.jou.win.keep ho (fun k hk => hno k (.inr (.inl hk))), fun x hx => by rw [c0] at hx; simp at hx, h.jou.neJ, h.jou.rJ, h.jou.ra, fun k hk => Nat.lt_of_lt_of_le (h.jou.rl k hk) ho.size, h.jou.vers⟩, h.win.keep ho (fun k hk => hno k (.inr (.inr (.inr hk)))), ct'.mono (fun b _ hb => hb.2), fun x hx i hi => ?_, h.few, h.kept, h.vers, h.ok, h.hcc, h.trs, h.nsb, fun k hk => Nat.le_trans hB (h.low k hk), h.v0, h.v1⟩, v0, c0, n0, p0, ct'.mono (fun b _ hb => ⟨by omega, hb.2⟩)⟩
  · exact (ho.block s.b (h.lt _ (.inr (.inr (.inl rfl)))) (hno _ (.inr (.inr (.inl rfl))))).trans h.blk
  · exact (ho.block s.J (h.lt _ (.inl rfl)) (hno _ (.inl rfl))).trans h.jou.jn
  · have ht := h.tre x hx i hi
    rw [n0] at hx
    obtain rfl : x = default := by simpa using hx
    exact ht
theorem few_right {l : List Tb} (h : RightG l) : fewB l = true := by
  have h6 : l.length ≤ 6 := by
    rcases Nat.lt_or_ge 6 l.length with h' | h'
    · have := (h 6 h').1.1; omega
    · exact h'
  unfold fewB
  rw [Bool.and_eq_true, List.all_eq_true]
  refine ⟨by simp; omega, fun t ht => ?_⟩
  obtain ⟨i, hi, rfl⟩ := List.getElem_of_mem ht
  have := (h i hi).1.2.2
  simp only [List.getD, List.getElem?_eq_getElem hi, Option.getD_some] at this
  simp; omega
theorem three_keep {W : World} {g b : Nat} {x0 x1 x2 : Value} (h : W.cell? ⟨g, 0, none⟩ = some x0 ∧ W.cell? ⟨g, 1, none⟩ = some x1 ∧ W.cell? ⟨g, 2, none⟩ = some x2) (hne : b < g) (v0 v1 v2 : Value) :
    ((((W.setCell ⟨b, 0, none⟩ v0).setCell ⟨b, 1, none⟩ v1).setCell ⟨b, 2, none⟩ v2).cell? ⟨g, 0, none⟩ = some x0 ∧ (((W.setCell ⟨b, 0, none⟩ v0).setCell ⟨b, 1, none⟩ v1).setCell ⟨b, 2, none⟩ v2).cell? ⟨g, 1, none⟩ = some x1 ∧ (((W.setCell ⟨b, 0, none⟩ v0).setCell ⟨b, 1, none⟩ v1).setCell ⟨b, 2, none⟩ v2).cell? ⟨g, 2, none⟩ = some x2) := by
  have e : (((W.setCell ⟨b, 0, none⟩ v0).setCell ⟨b, 1, none⟩ v1).setCell ⟨b, 2, none⟩ v2).heap[g]? = W.heap[g]? := by
    rw [Below.heap_setCell _ _ _ _ (by show g ≠ b; omega), Below.heap_setCell _ _ _ _ (by show g ≠ b; omega), Below.heap_setCell _ _ _ _ (by show g ≠ b; omega)]
  exact ⟨(World.cell?_of_block (a := ⟨g, 0, none⟩) e).trans h.1, (World.cell?_of_block (a := ⟨g, 1, none⟩) e).trans h.2.1, (World.cell?_of_block (a := ⟨g, 2, none⟩) e).trans h.2.2⟩
theorem three_block {W : World} {b : Nat} {T : TypeId} {x y z : Value} (h : W.heap[b]? = some (.cells #[x, y, z] T (0, 0))) (v0 v1 v2 : Value) : (((W.setCell ⟨b, 0, none⟩ v0).setCell ⟨b, 1, none⟩ v1).setCell ⟨b, 2, none⟩ v2).heap[b]? = some (.cells #[v0, v1, v2] T (0, 0)) := by
  have h0 := heap_setCell_same _ _ 0 _ _ v0 h
  have h1 := heap_setCell_same _ _ 1 _ _ v1 h0
  have h2 := heap_setCell_same _ _ 2 _ _ v2 h1
  simpa using h2
theorem three_grown {w W : World} {b : Nat} (hg : w.grownBy W none) (hb : w.heap.size ≤ b) (v0 v1 v2 : Value) : w.grownBy (((W.setCell ⟨b, 0, none⟩ v0).setCell ⟨b, 1, none⟩ v1).setCell ⟨b, 2, none⟩ v2) none :=
  grown_cell9 (grown_cell9 (grown_cell9 hg hb 0 v0) hb 1 v1) hb 2 v2
def Made9 (a : Ptr) (n cap : Nat) (l : List Tb) (w : World) (e : Ending) (w' : World) : Prop :=
  (e = .returned (.tuple #[.pointer none, .agg #[.slice none 0 0, .slice none 0 0, .slice none 0 0], .bool false])) ∨ (RightG l ∧ ∃ s p, e = .returned (.tuple #[.pointer (some ⟨Stm.b s, 0, none⟩), .agg #[.slice a n cap, .slice (some ⟨p, 0, none⟩) 1 1, .slice none 0 0], .bool true]) ∧ Fresh9 l w.heap.size w' s)
set_option maxRecDepth 100000 in
set_option maxHeartbeats 6400000 in
theorem make_any (G : Nat) (a : Option Addr) (cap : Nat) (l : List Tb) (w : World) (h : TabsAt w.heap.size w a l) (hcap : l.length ≤ cap) (hcs : ∀ t ∈ l, t.l.length ≤ t.cap) (hN : ∀ t ∈ l, t.n.size ≤ 9223372036854775807 ∧ ∀ i, i < t.l.length → (t.l.getD i default).n.size ≤ 9223372036854775807) (hw : WhyG w) (hE : ErrT G w) :
    Calls Tryz.prog 17 #[.slice a l.length cap] w fun e w' => Made9 a l.length cap l w e w' ∧ w.grownBy w' none := by
  have HF : Hid (∀ W, w.grownBy W none → Calls Tryz.prog 9 #[.slice a l.length cap] W fun e w' => e = .returned (.bool (fewB l)) ∧ W.grownBy w' none) := Lib.hid fun W hW => few_any (fun _ => True) a cap l W (.of ((h.keep hW (by simp)).mono hW.size)) hcap
  by_cases hr : RightG l
  · have HN : Hid (∀ W, w.grownBy W none → Calls Tryz.prog 10 #[.slice a l.length cap] W fun e w' => (∃ b, e = .returned (.tuple #[.pointer (some ⟨b, 0, none⟩), .int .i64 0]) ∧ Hid (∃ s : Stm, s.b = b ∧ Fresh9 l W.heap.size w' s)) ∧ W.grownBy w' none) := Lib.hid fun W hW => (newS_ok9 a cap G (fun _ => True) l W (.of ((h.keep hW (by simp)).mono hW.size)) hcap hcs (hw.grown hW) (hE.grown hW) hr).mono fun e w' ⟨⟨s, h1, h2, h3, h4, h5, h6, h8⟩, h7⟩ => ⟨⟨s.b, h1, Lib.hid ⟨s, rfl, h2, h3, h4, h5, h6, h8⟩⟩, h7⟩
    have HR : Hid (∀ W, w.grownBy W none → Calls Tryz.prog 11 #[.slice a l.length cap] W fun e w' => (∃ p, e = .returned (.tuple #[.agg #[.slice a l.length cap, .slice (some ⟨p, 0, none⟩) 1 1, .slice none 0 0], .int .i64 0])) ∧ W.grownBy w' none) := Lib.hid fun W hW => (refNew_any a cap l W ((h.keep hW (by simp)).mono hW.size) hcap hcs hN).mono fun e w' h => ⟨by
      rcases h.1 with ⟨_, v, ⟨p, q, rfl, _⟩, h⟩ | ⟨k, y, h, _⟩
      · exact ⟨p, h⟩
      · exact absurd hr h.not, h.2⟩
    have Hr := Lib.hid hr
    rw [few_right hr] at HF
    clear h hcap hcs hN hw hE hr
    generalize hn : l.length = n at *
    go_enter Tryz.func17, Tryz.ntmps17
    go_wp2_with fail
    have g0 := World.grownBy_alloc w (.cells #[.slice none 0 0, .slice none 0 0, .slice none 0 0] 32) none
    have b0 := heap_alloc_new w (.cells #[.slice none 0 0, .slice none 0 0, .slice none 0 0] 32)
    refine (HN.out _ g0).mono ?_
    rintro e w2 ⟨⟨b, rfl, hs⟩, hg2⟩
    have b0 := (hg2.block _ (by simp) (by simp)).trans b0
    have G2 := Lib.hid (g0.trans hg2)
    have FS := Lib.hid hs.out
    clear hs hg2 g0
    go_wp2_with fail
    refine (HR.out _ G2.out).mono ?_
    rintro e w3 ⟨⟨p, rfl⟩, hg3⟩
    have b0 := (hg3.block _ (Array.getElem?_eq_some_iff.1 b0).1 (by simp)).trans b0
    have g4 := World.grownBy_alloc w3 (.cells #[.slice a n cap, .slice (some ⟨p, 0, none⟩) 1 1, .slice none 0 0] 32) none
    have d0 := heap_alloc_new w3 (.cells #[.slice a n cap, .slice (some ⟨p, 0, none⟩) 1 1, .slice none 0 0] 32)
    have b4 := (g4.block _ (Array.getElem?_eq_some_iff.1 b0).1 (by simp)).trans b0
    have G4 := Lib.hid (G2.out.trans (hg3.trans g4))
    have G24 := Lib.hid (hg3.trans g4)
    have BB : Hid (∀ W, (w3.alloc (.cells #[.slice a n cap, .slice (some ⟨p, 0, none⟩) 1 1, .slice none 0 0] 32)).grownBy W none → W.heap[w.heap.size]? = some (.cells #[.slice none 0 0, .slice none 0 0, .slice none 0 0] 32 (0, 0)) ∧ W.heap[w3.heap.size]? = some (.cells #[.slice a n cap, .slice (some ⟨p, 0, none⟩) 1 1, .slice none 0 0] 32 (0, 0))) := Lib.hid fun W hW => ⟨(hW.block _ (Array.getElem?_eq_some_iff.1 b4).1 (by simp)).trans b4, (hW.block _ (Array.getElem?_eq_some_iff.1 d0).1 (by simp)).trans d0⟩
    have NE := Lib.hid (show w.heap.size < w3.heap.size from (Array.getElem?_eq_some_iff.1 b0).1)
    clear hg3 b0 g4 d0 b4
    obtain ⟨e0, e1⟩ := BB.out _ (grown_reflT _ none)
    have x0 := cell_of_row _ _ 0 _ _ _ e1
    have x1 := cell_of_row _ _ 1 _ _ _ e1
    have x2 := cell_of_row _ _ 2 _ _ _ e1
    simp at x0 x1 x2
    go_wp2_with fail
    clear e0 e1
    obtain ⟨e0, e1⟩ := BB.out _ (grown_reflT _ none)
    have y0 := cell_of_row _ _ 0 _ _ _ e0
    have y1 := cell_of_row _ _ 1 _ _ _ e0
    have y2 := cell_of_row _ _ 2 _ _ _ e0
    simp at y0 y1 y2
    clear x0 x1 x2
    have SS := Lib.hid (fun W (hW : (w3.alloc (.cells #[.slice a n cap, .slice (some ⟨p, 0, none⟩) 1 1, .slice none 0 0] 32)).grownBy W none) => show W.cell? ⟨w3.heap.size, 0, none⟩ = some (.slice a n cap) ∧ W.cell? ⟨w3.heap.size, 1, none⟩ = some (.slice (some ⟨p, 0, none⟩) 1 1) ∧ W.cell? ⟨w3.heap.size, 2, none⟩ = some (.slice none 0 0) from ⟨cell_of_row _ _ 0 _ _ _ (BB.out _ hW).2, cell_of_row _ _ 1 _ _ _ (BB.out _ hW).2, cell_of_row _ _ 2 _ _ _ (BB.out _ hW).2⟩)
    refine wp_region_held_drew (S := (fun W => W.cell? ⟨w3.heap.size, 0, none⟩ = some (.slice a n cap) ∧ W.cell? ⟨w3.heap.size, 1, none⟩ = some (.slice (some ⟨p, 0, none⟩) 1 1) ∧ W.cell? ⟨w3.heap.size, 2, none⟩ = some (.slice none 0 0))) (by kernel_rfl) (SS.out _ (grown_drewT (grown_reflT _ none))) (fun hHeld => ?_)
    refine wpAnyH_take (i := 0) (v := ?va0) rfl (by kernel_rfl) (by kernel_rfl) (by kernel_rfl) (fun _ _ _ h => h) (Or.inl ⟨by rfl, ?ya0⟩) (by assumption) ?ra0
    case ya0 => (intro w hSw; (try dsimp only at hSw); go_simp; try with_reducible rfl)
    simp only [Act.put, List.getElem_toArray, List.getElem_cons_zero, List.size_toArray, List.length_cons, List.length_nil, Nat.reduceAdd, Array.replicate, List.replicate, List.setIfInBounds_toArray, List.set_cons_zero, List.set_cons_succ]
    refine wpAnyH_take (i := 1) (v := ?va1) rfl (by kernel_rfl) (by kernel_rfl) (by kernel_rfl) (fun _ _ _ h => h) (Or.inl ⟨by rfl, ?ya1⟩) (by assumption) ?ra1
    case ya1 => (intro w hSw; (try dsimp only at hSw); go_simp; try with_reducible rfl)
    simp only [Act.put, List.getElem_toArray, List.getElem_cons_succ, List.getElem_cons_zero, List.setIfInBounds_toArray, List.set_cons_zero, List.set_cons_succ]
    refine wpAnyH_take (i := 2) (v := ?va2) rfl (by kernel_rfl) (by kernel_rfl) (by kernel_rfl) (fun _ _ _ h => h) (Or.inl ⟨by rfl, ?ya2⟩) (by assumption) ?ra2
    case ya2 => (intro w hSw; (try dsimp only at hSw); go_simp; try with_reducible rfl)
    simp only [Act.put, List.getElem_toArray, List.getElem_cons_succ, List.getElem_cons_zero, List.setIfInBounds_toArray, List.set_cons_zero, List.set_cons_succ]
    refine wpAnyH_ready (rs := [3]) (by kernel_rfl) (by simp) ?_
    refine AllReadyH.cons rfl (fun K' hK => ?_) AllReadyH.nil
    go_simp
    go_at_call 9
    refine (HF.out _ (grown_drewT G4.out)).mono ?_
    rintro e w5 ⟨rfl, hg5⟩
    have G5 := Lib.hid ((grown_drewT (grown_reflT _ none)).trans hg5)
    obtain ⟨h0, h1⟩ := BB.out _ G5.out
    have z0 := cell_of_row _ _ 0 _ _ _ h0
    have z1 := cell_of_row _ _ 1 _ _ _ h0
    have z2 := cell_of_row _ _ 2 _ _ _ h0
    have f0 := froz_of h0 0
    have f1 := froz_of h0 1
    have f2 := froz_of h0 2
    simp at z0 z1 z2
    have H0 := Lib.hid h0
    clear hg5 h0 h1 y0 y1 y2
    refine hK.out _ _ (SS.out _ G5.out) (fun hHeld => ?_)
    clear hK K'
    simp only [List.setIfInBounds_toArray, List.set_cons_zero, List.set_cons_succ]
    refine wpAnyH_take (i := 4) (v := ?va4) rfl (by kernel_rfl) (by kernel_rfl) (by kernel_rfl) (fun _ _ _ h => h) (Or.inl ⟨by rfl, ?ya4⟩) (by assumption) ?ra4
    case ya4 => (intro w hSw; (try dsimp only at hSw); go_simp; try with_reducible rfl)
    simp only [Act.put, List.getElem_toArray, List.getElem_cons_succ, List.getElem_cons_zero, List.setIfInBounds_toArray, List.set_cons_zero, List.set_cons_succ]
    refine wpAnyH_take (i := 5) (v := ?va5) rfl (by kernel_rfl) (by kernel_rfl) (by kernel_rfl) (fun _ _ _ h => h) (Or.inl ⟨by rfl, ?ya5⟩) (by assumption) ?ra5
    case ya5 => (intro w hSw; (try dsimp only at hSw); go_simp; try with_reducible rfl)
    simp only [Act.put, List.getElem_toArray, List.getElem_cons_succ, List.getElem_cons_zero, List.setIfInBounds_toArray, List.set_cons_zero, List.set_cons_succ]
    refine wpAnyH_take (i := 6) (v := ?va6) rfl (by kernel_rfl) (by kernel_rfl) (by kernel_rfl) (fun _ _ _ h => h) (Or.inl ⟨by rfl, ?ya6⟩) (by assumption) ?ra6
    case ya6 => (intro w hSw; (try dsimp only at hSw); go_simp; try with_reducible rfl)
    simp only [Act.put, List.getElem_toArray, List.getElem_cons_succ, List.getElem_cons_zero, List.setIfInBounds_toArray, List.set_cons_zero, List.set_cons_succ]
    refine wpAnyH_take (i := 7) (v := ?va7) rfl (by kernel_rfl) (by kernel_rfl) (by kernel_rfl) (fun _ _ _ h => h) (Or.inl ⟨by rfl, ?ya7⟩) (by assumption) ?ra7
    case ya7 => (intro w hSw; (try dsimp only at hSw); go_simp; try with_reducible rfl)
    simp only [Act.put, List.getElem_toArray, List.getElem_cons_succ, List.getElem_cons_zero, List.setIfInBounds_toArray, List.set_cons_zero, List.set_cons_succ]
    refine wpAnyH_take (i := 8) (v := ?va8) rfl (by kernel_rfl) (by kernel_rfl) (by kernel_rfl) (fun _ _ _ h => h) (Or.inl ⟨by rfl, ?ya8⟩) (by assumption) ?ra8
    case ya8 => (intro w hSw; (try dsimp only at hSw); go_simp; try with_reducible rfl)
    simp only [Act.put, List.getElem_toArray, List.getElem_cons_succ, List.getElem_cons_zero, List.setIfInBounds_toArray, List.set_cons_zero, List.set_cons_succ]
    refine wpAnyH_take (i := 9) (v := ?va9) rfl (by kernel_rfl) (by kernel_rfl) (by kernel_rfl) (fun _ _ _ h => h) (Or.inl ⟨by rfl, ?ya9⟩) (by assumption) ?ra9
    case ya9 => (intro w hSw; (try dsimp only at hSw); go_simp; try with_reducible rfl)
    simp only [Act.put, List.getElem_toArray, List.getElem_cons_succ, List.getElem_cons_zero, List.setIfInBounds_toArray, List.set_cons_zero, List.set_cons_succ]
    refine wpAnyH_take (i := 10) (v := ?va10) rfl (by kernel_rfl) (by kernel_rfl) (by kernel_rfl) (fun _ _ _ h => h) (Or.inl ⟨by rfl, ?ya10⟩) (by assumption) ?ra10
    case ya10 => (intro w hSw; (try dsimp only at hSw); go_simp; try with_reducible rfl)
    simp only [Act.put, List.getElem_toArray, List.getElem_cons_succ, List.getElem_cons_zero, List.setIfInBounds_toArray, List.set_cons_zero, List.set_cons_succ]
    refine wpAnyH_take (i := 11) (v := ?va11) rfl (by kernel_rfl) (by kernel_rfl) (by kernel_rfl) (fun _ _ _ h => h) (Or.inl ⟨by rfl, ?ya11⟩) (by assumption) ?ra11
    case ya11 => (intro w hSw; (try dsimp only at hSw); go_simp; try with_reducible rfl)
    simp only [Act.put, List.getElem_toArray, List.getElem_cons_succ, List.getElem_cons_zero, List.setIfInBounds_toArray, List.set_cons_zero, List.set_cons_succ]
    refine wpAnyH_take (i := 12) (v := ?va12) rfl (by kernel_rfl) (by kernel_rfl) (by kernel_rfl) (fun _ _ _ h => h) (Or.inl ⟨by rfl, ?ya12⟩) (by assumption) ?ra12
    case ya12 => (intro w hSw; (try dsimp only at hSw); go_simp; try with_reducible rfl)
    simp only [Act.put, List.getElem_toArray, List.getElem_cons_succ, List.getElem_cons_zero, List.setIfInBounds_toArray, List.set_cons_zero, List.set_cons_succ]
    refine wpAnyH_take (i := 13) (v := ?va13) rfl (by kernel_rfl) (by kernel_rfl) (by kernel_rfl) (fun _ _ _ h => h) (Or.inl ⟨by rfl, ?ya13⟩) (by assumption) ?ra13
    case ya13 => (intro w hSw; (try dsimp only at hSw); go_simp; try with_reducible rfl)
    simp only [Act.put, List.getElem_toArray, List.getElem_cons_succ, List.getElem_cons_zero, List.setIfInBounds_toArray, List.set_cons_zero, List.set_cons_succ]
    refine wpAnyH_take (i := 14) (v := ?va14) rfl (by kernel_rfl) (by kernel_rfl) (by kernel_rfl) (fun _ _ _ h => h) (Or.inl ⟨by rfl, ?ya14⟩) (by assumption) ?ra14
    case ya14 => (intro w hSw; (try dsimp only at hSw); go_simp; try with_reducible rfl)
    simp only [Act.put, List.getElem_toArray, List.getElem_cons_succ, List.getElem_cons_zero, List.setIfInBounds_toArray, List.set_cons_zero, List.set_cons_succ]
    refine wpAnyH_take (i := 15) (v := ?va15) rfl (by kernel_rfl) (by kernel_rfl) (by kernel_rfl) (fun _ _ _ h => h) (Or.inl ⟨by rfl, ?ya15⟩) (by assumption) ?ra15
    case ya15 => (intro w hSw; (try dsimp only at hSw); go_simp; try with_reducible rfl)
    simp only [Act.put, List.getElem_toArray, List.getElem_cons_succ, List.getElem_cons_zero, List.setIfInBounds_toArray, List.set_cons_zero, List.set_cons_succ]
    refine wpAnyH_take (i := 16) (v := ?va16) rfl (by kernel_rfl) (by kernel_rfl) (by kernel_rfl) (fun _ _ _ h => h) (Or.inl ⟨by rfl, ?ya16⟩) (by assumption) ?ra16
    case ya16 => (intro w hSw; (try dsimp only at hSw); go_simp; try with_reducible rfl)
    simp only [Act.put, List.getElem_toArray, List.getElem_cons_succ, List.getElem_cons_zero, List.setIfInBounds_toArray, List.set_cons_zero, List.set_cons_succ]
    refine wpAnyH_ready (rs := [17]) (by kernel_rfl) (by simp) ?_
    refine AllReadyH.cons rfl (fun K' hK => ?_) AllReadyH.nil
    go_simp
    refine hK.out _ _ (three_keep (SS.out _ G5.out) NE.out _ _ _) (fun hHeld => ?_)
    clear hK K'
    simp only [List.setIfInBounds_toArray, List.set_cons_zero, List.set_cons_succ]
    refine wpAnyH_take (i := 18) (v := ?va18) rfl (by kernel_rfl) (by kernel_rfl) (by kernel_rfl) (fun _ _ _ h => h) (Or.inl ⟨by rfl, ?ya18⟩) (by assumption) ?ra18
    case ya18 => (intro w hSw; (try dsimp only at hSw); go_simp; try with_reducible rfl)
    simp only [Act.put, List.getElem_toArray, List.getElem_cons_succ, List.getElem_cons_zero, List.setIfInBounds_toArray, List.set_cons_zero, List.set_cons_succ]
    refine wpAnyH_done (by kernel_rfl) ?_ _
    go_wp2_with fail
    have hb3 := three_block H0.out (.slice a n cap) (.slice (some ⟨p, 0, none⟩) 1 1) (.slice none 0 0)
    have q0 := cell_of_row _ _ 0 _ _ _ hb3
    have q1 := cell_of_row _ _ 1 _ _ _ hb3
    have q2 := cell_of_row _ _ 2 _ _ _ hb3
    simp at q0 q1 q2
    refine bodyPost_ret (v := .tuple #[.pointer (some ⟨b, 0, none⟩), .agg #[.slice a n cap, .slice (some ⟨p, 0, none⟩) 1 1, .slice none 0 0], .bool true]) (by simp [results, Tryz.results17, go_sem, q0, q1, q2]) rfl ?_
    have g6 := three_grown (b := w.heap.size) (G4.out.trans G5.out) (Nat.le_refl _) (.slice a n cap) (.slice (some ⟨p, 0, none⟩) 1 1) (.slice none 0 0)
    obtain ⟨s, rfl, hs⟩ := FS.out
    refine ⟨.inr ⟨Hr.out, s, p, rfl, ?_⟩, g6⟩
    have h9 := hs.keep (Nat.le_refl _) (G24.out.trans G5.out)
    exact h9.only9 (M := fun k => k = w.heap.size) (((Only.one _ w5 0 _).trans (Only.one _ _ 1 _) (fun _ e => .inl e)).trans (Only.one _ _ 2 _) (fun _ e => .inl e)) (fun k e => by have e' : k = w.heap.size := e; simp; omega) (by simp)
  · have HN : Hid (∀ W, w.grownBy W none → Calls Tryz.prog 10 #[.slice a l.length cap] W fun e w' => (∃ y : Int, (y == 0) = false ∧ e = .returned (.tuple #[.pointer none, .int .i64 y])) ∧ W.grownBy w' none) := Lib.hid fun W hW => (newS_bad a cap G l W ((h.keep hW (by simp)).mono hW.size) hcap hcs (hw.grown hW) (hE.grown hW) hr).mono fun e w' ⟨⟨k, y, h1, h2⟩, h3⟩ => ⟨⟨y, by rcases h1.2.2 with ⟨_, h⟩ | ⟨_, _, h⟩ | ⟨_, _, _, h⟩ <;> simp [h], h2⟩, h3⟩
    have HR : Hid (∀ W, w.grownBy W none → Calls Tryz.prog 11 #[.slice a l.length cap] W fun e w' => (∃ y : Int, e = .returned (.tuple #[.agg #[.slice none 0 0, .slice none 0 0, .slice none 0 0], .int .i64 y])) ∧ W.grownBy w' none) := Lib.hid fun W hW => (refNew_any a cap l W ((h.keep hW (by simp)).mono hW.size) hcap hcs hN).mono fun e w' h => ⟨by
      rcases h.1 with ⟨h, _⟩ | ⟨k, y, _, h⟩
      · exact absurd h hr
      · exact ⟨y, h⟩, h.2⟩
    obtain ⟨fb, hfb⟩ : ∃ fb, fb = fewB l := ⟨_, rfl⟩
    rw [← hfb] at HF
    clear h hcap hcs hN hw hE hr hfb
    generalize hn : l.length = n at *
    go_enter Tryz.func17, Tryz.ntmps17
    go_wp2_with fail
    have g0 := World.grownBy_alloc w (.cells #[.slice none 0 0, .slice none 0 0, .slice none 0 0] 32) none
    have b0 := heap_alloc_new w (.cells #[.slice none 0 0, .slice none 0 0, .slice none 0 0] 32)
    refine (HN.out _ g0).mono ?_
    rintro e w2 ⟨⟨y, hy, rfl⟩, hg2⟩
    have b0 := (hg2.block _ (by simp) (by simp)).trans b0
    have G2 := Lib.hid (g0.trans hg2)
    clear hg2 g0
    go_wp2_with fail
    refine (HR.out _ G2.out).mono ?_
    rintro e w3 ⟨⟨y', rfl⟩, hg3⟩
    have b0 := (hg3.block _ (Array.getElem?_eq_some_iff.1 b0).1 (by simp)).trans b0
    have g4 := World.grownBy_alloc w3 (.cells #[.slice none 0 0, .slice none 0 0, .slice none 0 0] 32) none
    have d0 := heap_alloc_new w3 (.cells #[.slice none 0 0, .slice none 0 0, .slice none 0 0] 32)
    have b4 := (g4.block _ (Array.getElem?_eq_some_iff.1 b0).1 (by simp)).trans b0
    have G4 := Lib.hid (G2.out.trans (hg3.trans g4))
    have BB : Hid (∀ W, (w3.alloc (.cells #[.slice none 0 0, .slice none 0 0, .slice none 0 0] 32)).grownBy W none → W.heap[w.heap.size]? = some (.cells #[.slice none 0 0, .slice none 0 0, .slice none 0 0] 32 (0, 0)) ∧ W.heap[w3.heap.size]? = some (.cells #[.slice none 0 0, .slice none 0 0, .slice none 0 0] 32 (0, 0))) := Lib.hid fun W hW => ⟨(hW.block _ (Array.getElem?_eq_some_iff.1 b4).1 (by simp)).trans b4, (hW.block _ (Array.getElem?_eq_some_iff.1 d0).1 (by simp)).trans d0⟩
    have NE := Lib.hid (show w.heap.size < w3.heap.size from (Array.getElem?_eq_some_iff.1 b0).1)
    clear hg3 b0 g4 d0 b4
    have SS := Lib.hid (fun W (hW : (w3.alloc (.cells #[.slice none 0 0, .slice none 0 0, .slice none 0 0] 32)).grownBy W none) => show W.cell? ⟨w3.heap.size, 0, none⟩ = some (.slice none 0 0) ∧ W.cell? ⟨w3.heap.size, 1, none⟩ = some (.slice none 0 0) ∧ W.cell? ⟨w3.heap.size, 2, none⟩ = some (.slice none 0 0) from ⟨cell_of_row _ _ 0 _ _ _ (BB.out _ hW).2, cell_of_row _ _ 1 _ _ _ (BB.out _ hW).2, cell_of_row _ _ 2 _ _ _ (BB.out _ hW).2⟩)
    go_wp2_with fail
    have y0 := 0
    have y1 := 0
    have y2 := 0
    cases fb
    · refine wp_region_held_drew (S := (fun W => W.cell? ⟨w3.heap.size, 0, none⟩ = some (.slice none 0 0) ∧ W.cell? ⟨w3.heap.size, 1, none⟩ = some (.slice none 0 0) ∧ W.cell? ⟨w3.heap.size, 2, none⟩ = some (.slice none 0 0))) (by kernel_rfl) (SS.out _ (grown_drewT (grown_reflT _ none))) (fun hHeld => ?_)
      refine wpAnyH_take (i := 0) (v := ?vc0) rfl (by kernel_rfl) (by kernel_rfl) (by kernel_rfl) (fun _ _ _ h => h) (Or.inl ⟨by rfl, ?yc0⟩) (by assumption) ?rc0
      case yc0 => (intro w hSw; (try dsimp only at hSw); go_simp; try with_reducible rfl)
      simp only [Act.put, List.getElem_toArray, List.getElem_cons_zero, List.size_toArray, List.length_cons, List.length_nil, Nat.reduceAdd, Array.replicate, List.replicate, List.setIfInBounds_toArray, List.set_cons_zero, List.set_cons_succ]
      refine wpAnyH_take (i := 1) (v := ?vc1) rfl (by kernel_rfl) (by kernel_rfl) (by kernel_rfl) (fun _ _ _ h => h) (Or.inl ⟨by rfl, ?yc1⟩) (by assumption) ?rc1
      case yc1 => (intro w hSw; (try dsimp only at hSw); go_simp; try with_reducible rfl)
      simp only [Act.put, List.getElem_toArray, List.getElem_cons_succ, List.getElem_cons_zero, List.setIfInBounds_toArray, List.set_cons_zero, List.set_cons_succ]
      refine wpAnyH_take (i := 2) (v := ?vc2) rfl (by kernel_rfl) (by kernel_rfl) (by kernel_rfl) (fun _ _ _ h => h) (Or.inl ⟨by rfl, ?yc2⟩) (by assumption) ?rc2
      case yc2 => (intro w hSw; (try dsimp only at hSw); go_simp; try with_reducible rfl)
      simp only [Act.put, List.getElem_toArray, List.getElem_cons_succ, List.getElem_cons_zero, List.setIfInBounds_toArray, List.set_cons_zero, List.set_cons_succ]
      refine wpAnyH_ready (rs := [3]) (by kernel_rfl) (by simp) ?_
      refine AllReadyH.cons rfl (fun K' hK => ?_) AllReadyH.nil
      go_simp
      go_at_call 9
      refine (HF.out _ (grown_drewT G4.out)).mono ?_
      rintro e w5 ⟨rfl, hg5⟩
      have G5 := Lib.hid ((grown_drewT (grown_reflT _ none)).trans hg5)
      obtain ⟨h0, h1⟩ := BB.out _ G5.out
      have z0 := cell_of_row _ _ 0 _ _ _ h0
      have z1 := cell_of_row _ _ 1 _ _ _ h0
      have z2 := cell_of_row _ _ 2 _ _ _ h0
      have f0 := froz_of h0 0
      have f1 := froz_of h0 1
      have f2 := froz_of h0 2
      simp at z0 z1 z2
      have H0 := Lib.hid h0
      clear hg5 h0 h1 y0 y1 y2
      refine hK.out _ _ (SS.out _ G5.out) (fun hHeld => ?_)
      clear hK K'
      simp only [List.setIfInBounds_toArray, List.set_cons_zero, List.set_cons_succ]
      refine wpAnyH_take (i := 4) (v := ?vc4) rfl (by kernel_rfl) (by kernel_rfl) (by kernel_rfl) (fun _ _ _ h => h) (Or.inl ⟨by rfl, ?yc4⟩) (by assumption) ?rc4
      case yc4 => (intro w hSw; (try dsimp only at hSw); go_simp; try with_reducible rfl)
      simp only [Act.put, List.getElem_toArray, List.getElem_cons_succ, List.getElem_cons_zero, List.setIfInBounds_toArray, List.set_cons_zero, List.set_cons_succ]
      refine wpAnyH_take (i := 5) (v := undef) rfl (by kernel_rfl) (by kernel_rfl) (by kernel_rfl) (fun _ _ _ h => h) (Or.inr ⟨by rfl, rfl⟩) (by assumption) ?_
      simp only [Act.put, List.getElem_toArray, List.getElem_cons_succ, List.getElem_cons_zero, List.setIfInBounds_toArray, List.set_cons_zero, List.set_cons_succ]
      refine wpAnyH_take (i := 6) (v := undef) rfl (by kernel_rfl) (by kernel_rfl) (by kernel_rfl) (fun _ _ _ h => h) (Or.inr ⟨by rfl, rfl⟩) (by assumption) ?_
      simp only [Act.put, List.getElem_toArray, List.getElem_cons_succ, List.getElem_cons_zero, List.setIfInBounds_toArray, List.set_cons_zero, List.set_cons_succ]
      refine wpAnyH_take (i := 7) (v := ?vc7) rfl (by kernel_rfl) (by kernel_rfl) (by kernel_rfl) (fun _ _ _ h => h) (Or.inl ⟨by rfl, ?yc7⟩) (by assumption) ?rc7
      case yc7 => (intro w hSw; (try dsimp only at hSw); go_simp; try with_reducible rfl)
      simp only [Act.put, List.getElem_toArray, List.getElem_cons_succ, List.getElem_cons_zero, List.setIfInBounds_toArray, List.set_cons_zero, List.set_cons_succ]
      refine wpAnyH_take (i := 8) (v := ?vc8) rfl (by kernel_rfl) (by kernel_rfl) (by kernel_rfl) (fun _ _ _ h => h) (Or.inl ⟨by rfl, ?yc8⟩) (by assumption) ?rc8
      case yc8 => (intro w hSw; (try dsimp only at hSw); go_simp; try with_reducible rfl)
      simp only [Act.put, List.getElem_toArray, List.getElem_cons_succ, List.getElem_cons_zero, List.setIfInBounds_toArray, List.set_cons_zero, List.set_cons_succ]
      refine wpAnyH_take (i := 9) (v := undef) rfl (by kernel_rfl) (by kernel_rfl) (by kernel_rfl) (fun _ _ _ h => h) (Or.inr ⟨by rfl, rfl⟩) (by assumption) ?_
      simp only [Act.put, List.getElem_toArray, List.getElem_cons_succ, List.getElem_cons_zero, List.setIfInBounds_toArray, List.set_cons_zero, List.set_cons_succ]
      refine wpAnyH_take (i := 10) (v := undef) rfl (by kernel_rfl) (by kernel_rfl) (by kernel_rfl) (fun _ _ _ h => h) (Or.inr ⟨by rfl, rfl⟩) (by assumption) ?_
      simp only [Act.put, List.getElem_toArray, List.getElem_cons_succ, List.getElem_cons_zero, List.setIfInBounds_toArray, List.set_cons_zero, List.set_cons_succ]
      refine wpAnyH_take (i := 11) (v := ?vc11) rfl (by kernel_rfl) (by kernel_rfl) (by kernel_rfl) (fun _ _ _ h => h) (Or.inl ⟨by rfl, ?yc11⟩) (by assumption) ?rc11
      case yc11 => (intro w hSw; (try dsimp only at hSw); go_simp; try with_reducible rfl)
      simp only [Act.put, List.getElem_toArray, List.getElem_cons_succ, List.getElem_cons_zero, List.setIfInBounds_toArray, List.set_cons_zero, List.set_cons_succ]
      refine wpAnyH_take (i := 12) (v := ?vc12) rfl (by kernel_rfl) (by kernel_rfl) (by kernel_rfl) (fun _ _ _ h => h) (Or.inl ⟨by rfl, ?yc12⟩) (by assumption) ?rc12
      case yc12 => (intro w hSw; (try dsimp only at hSw); go_simp; try with_reducible rfl)
      simp only [Act.put, List.getElem_toArray, List.getElem_cons_succ, List.getElem_cons_zero, List.setIfInBounds_toArray, List.set_cons_zero, List.set_cons_succ]
      refine wpAnyH_take (i := 13) (v := undef) rfl (by kernel_rfl) (by kernel_rfl) (by kernel_rfl) (fun _ _ _ h => h) (Or.inr ⟨by rfl, rfl⟩) (by assumption) ?_
      simp only [Act.put, List.getElem_toArray, List.getElem_cons_succ, List.getElem_cons_zero, List.setIfInBounds_toArray, List.set_cons_zero, List.set_cons_succ]
      refine wpAnyH_take (i := 14) (v := undef) rfl (by kernel_rfl) (by kernel_rfl) (by kernel_rfl) (fun _ _ _ h => h) (Or.inr ⟨by rfl, rfl⟩) (by assumption) ?_
      simp only [Act.put, List.getElem_toArray, List.getElem_cons_succ, List.getElem_cons_zero, List.setIfInBounds_toArray, List.set_cons_zero, List.set_cons_succ]
      refine wpAnyH_take (i := 15) (v := ?vc15) rfl (by kernel_rfl) (by kernel_rfl) (by kernel_rfl) (fun _ _ _ h => h) (Or.inl ⟨by rfl, ?yc15⟩) (by assumption) ?rc15
      case yc15 => (intro w hSw; (try dsimp only at hSw); go_simp; try with_reducible rfl)
      simp only [Act.put, List.getElem_toArray, List.getElem_cons_succ, List.getElem_cons_zero, List.setIfInBounds_toArray, List.set_cons_zero, List.set_cons_succ]
      refine wpAnyH_take (i := 16) (v := ?vc16) rfl (by kernel_rfl) (by kernel_rfl) (by kernel_rfl) (fun _ _ _ h => h) (Or.inl ⟨by rfl, ?yc16⟩) (by assumption) ?rc16
      case yc16 => (intro w hSw; (try dsimp only at hSw); go_simp; try with_reducible rfl)
      simp only [Act.put, List.getElem_toArray, List.getElem_cons_succ, List.getElem_cons_zero, List.setIfInBounds_toArray, List.set_cons_zero, List.set_cons_succ]
      refine wpAnyH_ready (rs := [17]) (by kernel_rfl) (by simp) ?_
      refine AllReadyH.cons rfl (fun K' hK => ?_) AllReadyH.nil
      go_simp
      refine hK.out _ _ (three_keep (SS.out _ G5.out) NE.out _ _ _) (fun hHeld => ?_)
      clear hK K'
      simp only [List.setIfInBounds_toArray, List.set_cons_zero, List.set_cons_succ]
      refine wpAnyH_take (i := 18) (v := ?vc18) rfl (by kernel_rfl) (by kernel_rfl) (by kernel_rfl) (fun _ _ _ h => h) (Or.inl ⟨by rfl, ?yc18⟩) (by assumption) ?rc18
      case yc18 => (intro w hSw; (try dsimp only at hSw); go_simp; try with_reducible rfl)
      simp only [Act.put, List.getElem_toArray, List.getElem_cons_succ, List.getElem_cons_zero, List.setIfInBounds_toArray, List.set_cons_zero, List.set_cons_succ]
      refine wpAnyH_done (by kernel_rfl) ?_ _
      go_wp2_with fail
      have hb3 := three_block H0.out (.slice none 0 0) (.slice none 0 0) (.slice none 0 0)
      have q0 := cell_of_row _ _ 0 _ _ _ hb3
      have q1 := cell_of_row _ _ 1 _ _ _ hb3
      have q2 := cell_of_row _ _ 2 _ _ _ hb3
      simp at q0 q1 q2
      refine bodyPost_ret (v := .tuple #[.pointer none, .agg #[.slice none 0 0, .slice none 0 0, .slice none 0 0], .bool false]) (by simp [results, Tryz.results17, go_sem, q0, q1, q2]) rfl ?_
      exact ⟨.inl rfl, three_grown (b := w.heap.size) (G4.out.trans G5.out) (Nat.le_refl _) _ _ _⟩
    · refine wp_region_held_drew (S := (fun W => W.cell? ⟨w3.heap.size, 0, none⟩ = some (.slice none 0 0) ∧ W.cell? ⟨w3.heap.size, 1, none⟩ = some (.slice none 0 0) ∧ W.cell? ⟨w3.heap.size, 2, none⟩ = some (.slice none 0 0))) (by kernel_rfl) (SS.out _ (grown_drewT (grown_reflT _ none))) (fun hHeld => ?_)
      refine wpAnyH_take (i := 0) (v := ?vb0) rfl (by kernel_rfl) (by kernel_rfl) (by kernel_rfl) (fun _ _ _ h => h) (Or.inl ⟨by rfl, ?yb0⟩) (by assumption) ?rb0
      case yb0 => (intro w hSw; (try dsimp only at hSw); go_simp; try with_reducible rfl)
      simp only [Act.put, List.getElem_toArray, List.getElem_cons_zero, List.size_toArray, List.length_cons, List.length_nil, Nat.reduceAdd, Array.replicate, List.replicate, List.setIfInBounds_toArray, List.set_cons_zero, List.set_cons_succ]
      refine wpAnyH_take (i := 1) (v := ?vb1) rfl (by kernel_rfl) (by kernel_rfl) (by kernel_rfl) (fun _ _ _ h => h) (Or.inl ⟨by rfl, ?yb1⟩) (by assumption) ?rb1
      case yb1 => (intro w hSw; (try dsimp only at hSw); go_simp; try with_reducible rfl)
      simp only [Act.put, List.getElem_toArray, List.getElem_cons_succ, List.getElem_cons_zero, List.setIfInBounds_toArray, List.set_cons_zero, List.set_cons_succ]
      refine wpAnyH_take (i := 2) (v := ?vb2) rfl (by kernel_rfl) (by kernel_rfl) (by kernel_rfl) (fun _ _ _ h => h) (Or.inl ⟨by rfl, ?yb2⟩) (by assumption) ?rb2
      case yb2 => (intro w hSw; (try dsimp only at hSw); go_simp; try with_reducible rfl)
      simp only [Act.put, List.getElem_toArray, List.getElem_cons_succ, List.getElem_cons_zero, List.setIfInBounds_toArray, List.set_cons_zero, List.set_cons_succ]
      refine wpAnyH_ready (rs := [3]) (by kernel_rfl) (by simp) ?_
      refine AllReadyH.cons rfl (fun K' hK => ?_) AllReadyH.nil
      go_simp
      go_at_call 9
      refine (HF.out _ (grown_drewT G4.out)).mono ?_
      rintro e w5 ⟨rfl, hg5⟩
      have G5 := Lib.hid ((grown_drewT (grown_reflT _ none)).trans hg5)
      obtain ⟨h0, h1⟩ := BB.out _ G5.out
      have z0 := cell_of_row _ _ 0 _ _ _ h0
      have z1 := cell_of_row _ _ 1 _ _ _ h0
      have z2 := cell_of_row _ _ 2 _ _ _ h0
      have f0 := froz_of h0 0
      have f1 := froz_of h0 1
      have f2 := froz_of h0 2
      simp at z0 z1 z2
      have H0 := Lib.hid h0
      clear hg5 h0 h1 y0 y1 y2
      refine hK.out _ _ (SS.out _ G5.out) (fun hHeld => ?_)
      clear hK K'
      simp only [List.setIfInBounds_toArray, List.set_cons_zero, List.set_cons_succ]
      refine wpAnyH_take (i := 4) (v := ?vb4) rfl (by kernel_rfl) (by kernel_rfl) (by kernel_rfl) (fun _ _ _ h => h) (Or.inl ⟨by rfl, ?yb4⟩) (by assumption) ?rb4
      case yb4 => (intro w hSw; (try dsimp only at hSw); go_simp; try with_reducible rfl)
      simp only [Act.put, List.getElem_toArray, List.getElem_cons_succ, List.getElem_cons_zero, List.setIfInBounds_toArray, List.set_cons_zero, List.set_cons_succ]
      refine wpAnyH_take (i := 5) (v := ?vb5) rfl (by kernel_rfl) (by kernel_rfl) (by kernel_rfl) (fun _ _ _ h => h) (Or.inl ⟨by rfl, ?yb5⟩) (by assumption) ?rb5
      case yb5 => (intro w hSw; (try dsimp only at hSw); go_simp; try with_reducible rfl)
      simp only [Act.put, List.getElem_toArray, List.getElem_cons_succ, List.getElem_cons_zero, List.setIfInBounds_toArray, List.set_cons_zero, List.set_cons_succ]
      refine wpAnyH_take (i := 6) (v := ?vb6) rfl (by kernel_rfl) (by kernel_rfl) (by kernel_rfl) (fun _ _ _ h => h) (Or.inl ⟨by rfl, ?yb6⟩) (by assumption) ?rb6
      case yb6 => (intro w hSw; (try dsimp only at hSw); go_simp; try with_reducible rfl)
      simp only [Act.put, List.getElem_toArray, List.getElem_cons_succ, List.getElem_cons_zero, List.setIfInBounds_toArray, List.set_cons_zero, List.set_cons_succ]
      refine wpAnyH_take (i := 7) (v := ?vb7) rfl (by kernel_rfl) (by kernel_rfl) (by kernel_rfl) (fun _ _ _ h => h) (Or.inl ⟨by rfl, ?yb7⟩) (by assumption) ?rb7
      case yb7 => (intro w hSw; (try dsimp only at hSw); go_simp; try with_reducible rfl)
      simp only [Act.put, List.getElem_toArray, List.getElem_cons_succ, List.getElem_cons_zero, List.setIfInBounds_toArray, List.set_cons_zero, List.set_cons_succ]
      refine wpAnyH_take (i := 8) (v := ?vb8) rfl (by kernel_rfl) (by kernel_rfl) (by kernel_rfl) (fun _ _ _ h => h) (Or.inl ⟨by rfl, ?yb8⟩) (by assumption) ?rb8
      case yb8 => (intro w hSw; (try dsimp only at hSw); go_simp; try with_reducible rfl)
      simp only [Act.put, List.getElem_toArray, List.getElem_cons_succ, List.getElem_cons_zero, List.setIfInBounds_toArray, List.set_cons_zero, List.set_cons_succ]
      refine wpAnyH_take (i := 9) (v := undef) rfl (by kernel_rfl) (by kernel_rfl) (by kernel_rfl) (fun _ _ _ h => h) (Or.inr ⟨by rfl, rfl⟩) (by assumption) ?_
      simp only [Act.put, List.getElem_toArray, List.getElem_cons_succ, List.getElem_cons_zero, List.setIfInBounds_toArray, List.set_cons_zero, List.set_cons_succ]
      refine wpAnyH_take (i := 10) (v := undef) rfl (by kernel_rfl) (by kernel_rfl) (by kernel_rfl) (fun _ _ _ h => h) (Or.inr ⟨by rfl, rfl⟩) (by assumption) ?_
      simp only [Act.put, List.getElem_toArray, List.getElem_cons_succ, List.getElem_cons_zero, List.setIfInBounds_toArray, List.set_cons_zero, List.set_cons_succ]
      refine wpAnyH_take (i := 11) (v := ?vb11) rfl (by kernel_rfl) (by kernel_rfl) (by kernel_rfl) (fun _ _ _ h => h) (Or.inl ⟨by rfl, ?yb11⟩) (by assumption) ?rb11
      case yb11 => (intro w hSw; (try dsimp only at hSw); go_simp; try with_reducible rfl)
      simp only [Act.put, List.getElem_toArray, List.getElem_cons_succ, List.getElem_cons_zero, List.setIfInBounds_toArray, List.set_cons_zero, List.set_cons_succ]
      refine wpAnyH_take (i := 12) (v := ?vb12) rfl (by kernel_rfl) (by kernel_rfl) (by kernel_rfl) (fun _ _ _ h => h) (Or.inl ⟨by rfl, ?yb12⟩) (by assumption) ?rb12
      case yb12 => (intro w hSw; (try dsimp only at hSw); go_simp; try with_reducible rfl)
      simp only [Act.put, List.getElem_toArray, List.getElem_cons_succ, List.getElem_cons_zero, List.setIfInBounds_toArray, List.set_cons_zero, List.set_cons_succ]
      refine wpAnyH_take (i := 13) (v := undef) rfl (by kernel_rfl) (by kernel_rfl) (by kernel_rfl) (fun _ _ _ h => h) (Or.inr ⟨by rfl, rfl⟩) (by assumption) ?_
      simp only [Act.put, List.getElem_toArray, List.getElem_cons_succ, List.getElem_cons_zero, List.setIfInBounds_toArray, List.set_cons_zero, List.set_cons_succ]
      refine wpAnyH_take (i := 14) (v := undef) rfl (by kernel_rfl) (by kernel_rfl) (by kernel_rfl) (fun _ _ _ h => h) (Or.inr ⟨by rfl, rfl⟩) (by assumption) ?_
      simp only [Act.put, List.getElem_toArray, List.getElem_cons_succ, List.getElem_cons_zero, List.setIfInBounds_toArray, List.set_cons_zero, List.set_cons_succ]
      refine wpAnyH_take (i := 15) (v := ?vb15) rfl (by kernel_rfl) (by kernel_rfl) (by kernel_rfl) (fun _ _ _ h => h) (Or.inl ⟨by rfl, ?yb15⟩) (by assumption) ?rb15
      case yb15 => (intro w hSw; (try dsimp only at hSw); go_simp; try with_reducible rfl)
      simp only [Act.put, List.getElem_toArray, List.getElem_cons_succ, List.getElem_cons_zero, List.setIfInBounds_toArray, List.set_cons_zero, List.set_cons_succ]
      refine wpAnyH_take (i := 16) (v := ?vb16) rfl (by kernel_rfl) (by kernel_rfl) (by kernel_rfl) (fun _ _ _ h => h) (Or.inl ⟨by rfl, ?yb16⟩) (by assumption) ?rb16
      case yb16 => (intro w hSw; (try dsimp only at hSw); go_simp; try with_reducible rfl)
      simp only [Act.put, List.getElem_toArray, List.getElem_cons_succ, List.getElem_cons_zero, List.setIfInBounds_toArray, List.set_cons_zero, List.set_cons_succ]
      refine wpAnyH_ready (rs := [17]) (by kernel_rfl) (by simp) ?_
      refine AllReadyH.cons rfl (fun K' hK => ?_) AllReadyH.nil
      go_simp
      refine hK.out _ _ (three_keep (SS.out _ G5.out) NE.out _ _ _) (fun hHeld => ?_)
      clear hK K'
      simp only [List.setIfInBounds_toArray, List.set_cons_zero, List.set_cons_succ]
      refine wpAnyH_take (i := 18) (v := ?vb18) rfl (by kernel_rfl) (by kernel_rfl) (by kernel_rfl) (fun _ _ _ h => h) (Or.inl ⟨by rfl, ?yb18⟩) (by assumption) ?rb18
      case yb18 => (intro w hSw; (try dsimp only at hSw); go_simp; try with_reducible rfl)
      simp only [Act.put, List.getElem_toArray, List.getElem_cons_succ, List.getElem_cons_zero, List.setIfInBounds_toArray, List.set_cons_zero, List.set_cons_succ]
      refine wpAnyH_done (by kernel_rfl) ?_ _
      go_wp2_with fail
      have hb3 := three_block H0.out (.slice none 0 0) (.slice none 0 0) (.slice none 0 0)
      have q0 := cell_of_row _ _ 0 _ _ _ hb3
      have q1 := cell_of_row _ _ 1 _ _ _ hb3
      have q2 := cell_of_row _ _ 2 _ _ _ hb3
      simp at q0 q1 q2
      refine bodyPost_ret (v := .tuple #[.pointer none, .agg #[.slice none 0 0, .slice none 0 0, .slice none 0 0], .bool false]) (by simp [results, Tryz.results17, go_sem, q0, q1, q2]) rfl ?_
      exact ⟨.inl rfl, three_grown (b := w.heap.size) (G4.out.trans G5.out) (Nat.le_refl _) _ _ _⟩
end Go.Proofs.YtaggacffjbjchaaGreatDoor
namespace Go.Proofs.YtaggacffjbjchaaGreatDoor
open Go.RowKit

/-- Operations that come in: rows of any length. -/
def OpR (S : Nat → Prop) (w : World) (a : Ptr) (l : List Om) : Prop :=
  l.length ≤ 9223372036854775807 ∧ (∀ o ∈ l, (o.r.l.length ≤ 4294967296 → RwS S w o.r.a o.r.l) ∧ o.r.l.length ≤ o.r.cap) ∧ (l = [] ∨ ∃ b off, a = some ⟨b, off, none⟩ ∧ S b ∧ b < w.heap.size ∧ ∀ i, i < l.length → w.cell? ⟨b, off + i * 3, none⟩ = some (.int .i64 (l.getD i default).k) ∧ w.cell? ⟨b, off + i * 3 + 1, none⟩ = some (.string (l.getD i default).n) ∧ w.cell? ⟨b, off + i * 3 + 2, none⟩ = some (l.getD i default).r.v)
theorem OpR.keep {S : Nat → Prop} {w w' : World} {a : Ptr} {l : List Om} (h : OpR S w a l) (hk : Stays S w w') : OpR S w' a l := by
  refine ⟨h.1, fun o ho => ⟨fun hl => ((h.2.1 o ho).1 hl).keep hk, (h.2.1 o ho).2⟩, h.2.2.imp id fun ⟨b, off, e, hs, hlt, hc⟩ => ⟨b, off, e, hs, Nat.lt_of_lt_of_le hlt hk.1, fun i hi => ?_⟩⟩
  have hb := hk.2 b hs hlt
  exact ⟨(World.cell?_of_block (a := ⟨b, _, none⟩) hb).trans (hc i hi).1, (World.cell?_of_block (a := ⟨b, _, none⟩) hb).trans (hc i hi).2.1, (World.cell?_of_block (a := ⟨b, _, none⟩) hb).trans (hc i hi).2.2⟩
theorem OpR.ops {S : Nat → Prop} {w : World} {a : Ptr} {l : List Om} (h : OpR S w a l) (hl : ∀ o ∈ l, o.r.l.length ≤ 20) : OpS S w a l := ⟨h.1, fun o ho => ⟨(h.2.1 o ho).1 (by have := hl o ho; omega), (h.2.1 o ho).2⟩, h.2.2⟩
theorem OpR.at {S : Nat → Prop} {w : World} {a : Ptr} {l : List Om} (h : OpR S w a l) {i : Nat} (hi : i < l.length) : ∃ b off, a = some ⟨b, off, none⟩ ∧ w.cell? ⟨b, off + i * 3, none⟩ = some (.int .i64 (l.getD i default).k) ∧ w.cell? ⟨b, off + i * 3 + 1, none⟩ = some (.string (l.getD i default).n) ∧ w.cell? ⟨b, off + i * 3 + 2, none⟩ = some (l.getD i default).r.v := by
  rcases h.2.2 with h0 | ⟨b, off, e, _, _, hc⟩
  · rw [h0] at hi; simp at hi
  · exact ⟨b, off, e, hc i hi⟩
/-- It answers a truth; if it is true, P. -/
def BoolF (P : Prop) (e : Ending) : Prop := ∃ b : Bool, e = .returned (.bool b) ∧ (b = true → P)
set_option maxRecDepth 100000 in
set_option maxHeartbeats 1600000 in
theorem fits_anyR (S : Nat → Prop) (a : Option Addr) (cap : Nat) (l : List Om) (w : World) (h : OpR S w a l) (hcap : l.length ≤ cap) :
    Calls Tryz.prog 16 #[.slice a l.length cap] w fun e w' => BoolF (∀ o ∈ l, o.r.l.length ≤ 20) e ∧ w.grownBy w' none := by
  have H := Lib.hid h
  have hn9 := h.1
  obtain ⟨n, hn⟩ : ∃ n, n = l.length := ⟨_, rfl⟩
  have Hn := Lib.hid hn
  rw [← hn] at hcap hn9 ⊢
  clear h hn
  go_enter Tryz.func16, Tryz.ntmps16
  go_wp2_with fail
  go_loopw [7] (fun s7 wr => ∃ j : Nat, s7 = .int .i64 j ∧ j ≤ n ∧ Hid ((∀ i, i < j → (l.getD i default).r.l.length ≤ 20) ∧ w.grownBy wr none)) (fun s7 _ => n - (intOf s7).toNat)
  case atStart => exact ⟨0, rfl, by omega, Lib.hid ⟨fun i hi => by omega, grown_reflT _ _⟩⟩
  case round =>
    obtain ⟨j, rfl, hj, K⟩ := hrel
    by_cases hlt : j < n
    · obtain ⟨b, off, rfl, c0, c1, c2⟩ := (H.out.keep (.of K.out.2)).at (i := j) (by rw [← Hn.out]; exact hlt)
      have HX : Hid (∀ q, (l.getD j default).r.l.length = q → q ≤ 20 → ∀ i, i < j + 1 → (l.getD i default).r.l.length ≤ 20) := Lib.hid fun q hq h i hi => by
        rcases Nat.lt_or_ge i j with e | e
        · exact K.out.1 i e
        · rw [show i = j by omega, hq]; exact h
      generalize l.getD j default = x at *
      obtain ⟨xk, xn, ⟨xa, xc, xl⟩⟩ := x
      simp only [Rw.v] at c0 c1 c2 HX
      obtain ⟨xm, hxm⟩ : ∃ xm, xl.length = xm := ⟨_, rfl⟩
      have HX := Lib.hid (HX.out xm hxm)
      rw [hxm] at c2
      clear hxm
      have j0 : (j : Int) ≤ cap := by omega
      have KA := Lib.hid (K.out.2.trans (World.grownBy_alloc wr (.cells #[.int .i64 xk, .string xn, .slice xa xm xc] 82) none))
      by_cases hq : (20 : Int) < xm
      · go_wp2_with fail
        go_ret
        exact ⟨⟨false, rfl, fun h => by cases h⟩, KA.out⟩
      · go_wp2_with fail
        go_roundw
        case rel => exact ⟨j + 1, by go_num, by omega, Lib.hid ⟨HX.out (by omega), KA.out⟩⟩
        case measure => simp [intOf]; omega
    · obtain rfl : n = j := by omega
      have HP : Hid (∀ o ∈ l, o.r.l.length ≤ 20) := Lib.hid fun o ho => by
        obtain ⟨i, hi, rfl⟩ := List.getElem_of_mem ho
        have := K.out.1 i (by rw [Hn.out]; exact hi)
        simpa [List.getD, hi] using this
      go_wp2_with fail
      all_goals
        go_ret
        exact ⟨⟨_, rfl, fun _ => HP.out⟩, K.out.2⟩
/-- A commit that comes in. -/
structure Cw where
  a : Ptr
  cap : Nat
  l : List Om
instance : Inhabited Cw := ⟨⟨none, 0, []⟩⟩
def Cw.v (x : Cw) : Value := .slice x.a x.l.length x.cap
def CmG (S : Nat → Prop) (w : World) (a : Ptr) (l : List Cw) : Prop :=
  l.length ≤ 9223372036854775807 ∧ (∀ x ∈ l, OpR S w x.a x.l ∧ x.l.length ≤ x.cap) ∧ (l = [] ∨ ∃ b off, a = some ⟨b, off, none⟩ ∧ S b ∧ b < w.heap.size ∧ ∀ i, i < l.length → w.cell? ⟨b, off + i, none⟩ = some (l.getD i default).v)
theorem CmG.keep {S : Nat → Prop} {w w' : World} {a : Ptr} {l : List Cw} (h : CmG S w a l) (hk : Stays S w w') : CmG S w' a l :=
  ⟨h.1, fun x hx => ⟨(h.2.1 x hx).1.keep hk, (h.2.1 x hx).2⟩, h.2.2.imp id fun ⟨b, off, e, hs, hlt, hc⟩ => ⟨b, off, e, hs, Nat.lt_of_lt_of_le hlt hk.1, fun i hi => (World.cell?_of_block (a := ⟨b, _, none⟩) (hk.2 b hs hlt)).trans (hc i hi)⟩⟩
theorem CmG.at {S : Nat → Prop} {w : World} {a : Ptr} {l : List Cw} (h : CmG S w a l) {i : Nat} (hi : i < l.length) : (∃ b off, a = some ⟨b, off, none⟩ ∧ w.cell? ⟨b, off + i, none⟩ = some (l.getD i default).v) ∧ OpR S w (l.getD i default).a (l.getD i default).l ∧ (l.getD i default).l.length ≤ (l.getD i default).cap := by
  refine ⟨?_, h.2.1 _ (by simp [List.getD, hi])⟩
  rcases h.2.2 with h0 | ⟨b, off, e, _, _, hc⟩
  · rw [h0] at hi; simp at hi
  · exact ⟨b, off, e, hc i hi⟩
/-- A store of any catalog. -/
structure XG (w0 : World) (G b : Nat) (l : List Tb) (w : World) (s : Stm) : Prop where
  at_ : SAt w0.heap.size w s
  err : ErrT G w
  hb : s.b = b
  ts : s.ts.map Tb.p = l.map Tb.p
  gb : G ≤ w0.heap.size
  gr : w0.grownBy w none
section
variable {w0 w w2 : World} {G b : Nat} {l : List Tb} {s s' : Stm}
theorem XG.keepG (h : XG w0 G b l w s) (hg : w.grownBy w2 none) : XG w0 G b l w2 s := ⟨h.at_.keepG hg, h.err.grown hg, h.hb, h.ts, h.gb, h.gr.trans hg⟩
theorem Fresh9.xg {l : List Tb} (h : Fresh9 l w0.heap.size w s) (hE : ErrT G w0) (hG : G ≤ w0.heap.size) (hg : w0.grownBy w none) : XG w0 G s.b l w s := ⟨h.1, hE.grown hg, rfl, h.2.2.2.2.1, hG, hg⟩
/-- What isn't the store's stays, and isn't the next one's. -/
def Apart9 (s s' : Stm) (w w' : World) : Prop := w.heap.size ≤ w'.heap.size ∧ ∀ j, j < w.heap.size → ¬ s.M j → ¬ s'.M j ∧ w'.heap[j]? = w.heap[j]?
theorem Apart9.refl (s : Stm) (w : World) : Apart9 s s w w := ⟨Nat.le_refl _, fun _ _ h => ⟨h, rfl⟩⟩
theorem Apart9.trans {s1 s2 s3 : Stm} {w1 w2 w3 : World} (h : Apart9 s1 s2 w1 w2) (h' : Apart9 s2 s3 w2 w3) : Apart9 s1 s3 w1 w3 :=
  ⟨Nat.le_trans h.1 h'.1, fun j hj hM => by
    obtain ⟨a1, a2⟩ := h.2 j hj hM
    obtain ⟨b1, b2⟩ := h'.2 j (Nat.lt_of_lt_of_le hj h.1) a1
    exact ⟨b1, b2.trans a2⟩⟩
theorem Apart9.grown {s s2 : Stm} {w1 w2 w3 : World} (h : Apart9 s s2 w1 w2) (hg : w2.grownBy w3 none) : Apart9 s s2 w1 w3 :=
  ⟨Nat.le_trans h.1 hg.size, fun j hj hM => ⟨(h.2 j hj hM).1, (hg.block j (Nat.lt_of_lt_of_le hj h.1) (by simp)).trans (h.2 j hj hM).2⟩⟩
theorem Apart9.stays {w' : World} (h : Apart9 s s' w w') : Stays (fun j => ¬ s.M j ∧ j < w.heap.size) w w' := ⟨h.1, fun j hj _ => (h.2 j hj.2 hj.1).2⟩
theorem Apart9.snp {w' : World} {p cc : Nat} {ca : Ptr} {ts : List Tb} {x : Sn} (h : Apart9 s s' w w') (hp : Snp (fun k => ¬ s.M k) w p ca cc ts x) : Snp (fun k => ¬ s'.M k) w' p ca cc ts x := by
  have hlt := (Array.getElem?_eq_some_iff.1 hp.blk).1
  exact ⟨((h.2 p hlt hp.own).2).trans hp.blk, ((hp.cat.mono (fun b hb hm => (⟨hm, hb⟩ : ¬ s.M b ∧ b < w.heap.size))).keep h.stays).mono (fun b _ hb => (h.2 b hb.2 hb.1).1), fun i hi => (((hp.tre i hi).mono (fun b hb hm => (⟨hm, hb⟩ : ¬ s.M b ∧ b < w.heap.size))).keep h.stays).mono (fun b _ hb => (h.2 b hb.2 hb.1).1), (h.2 p hlt hp.own).1⟩
theorem XG.commit (h : XG w0 G b l w s) (oa : Ptr) (oc : Nat) (ol : List Om) (ho : OpS (fun j => ¬ s.M j) w oa ol) (hoc : ol.length ≤ oc) (hv : s.v < 100000) :
    Calls Tryz.prog 18 #[.pointer (some ⟨b, 0, none⟩), .slice oa ol.length oc] w fun e w' => (∃ v, e = .returned v) ∧ ∃ s', XG w0 G b l w' s' ∧ s.v ≤ s'.v ∧ s'.v ≤ s.v + 1 ∧ Apart9 s s' w w' := by
  have hc := commit_any w0.heap.size G s oa oc ol w h.at_ h.err ho hoc hv h.gr.size
  rw [h.hb] at hc
  refine hc.mono ?_
  rintro e w' (⟨c, _, rfl, hg⟩ | ⟨ms, s', a, cap, cl, _, rfl, _, _, _, hw⟩)
  · exact ⟨⟨_, rfl⟩, s, h.keepG hg, Int.le_refl _, by omega, (Apart9.refl s w).grown hg⟩
  · have hg : w0.grownBy w' none := only_grown h.gr hw.only h.at_.low
    refine ⟨⟨_, rfl⟩, s', ⟨hw.at_, h.err.only hw.only (fun j hj => Nat.le_trans h.gb (h.at_.low j hj)), hw.b.trans h.hb, by rw [hw.ts]; exact h.ts, h.gb, hg⟩, by rw [hw.v]; omega, by rw [hw.v]; omega, hw.only.size, fun j hj hM => ⟨fun e => ?_, hw.only.block j hj hM⟩⟩
    rcases hw.M j e with e | e
    · exact hM e
    · omega
theorem XG.ops (h : XG w0 G b l w s) {oa : Ptr} {ol : List Om} {S : Nat → Prop} (hS : ∀ j, S j → j < w0.heap.size) (ho : OpS S w oa ol) : OpS (fun j => ¬ s.M j) w oa ol := ho.mono (fun j _ hj e => by have := h.at_.low j e; have := hS j hj; omega)
end
end Go.Proofs.YtaggacffjbjchaaGreatDoor
namespace Go.Proofs.YtaggacffjbjchaaGreatDoor
open Go.RowKit

/-- What an act makes of both. -/
def Done (S S2 : Nat → Prop) (d : Bool) (K R : Rw) (t : Tre) (l : List Pw) (W : World) (q a' : Ptr) (cap' : Nat) : Prop := (doP d K R l).length ≤ cap' ∧ TrAt S W (doT d K R t) q ∧ PsS S2 W a' (doP d K R l)
end Go.Proofs.YtaggacffjbjchaaGreatDoor
namespace Go.Proofs.YtaggacffjbjchaaGreatDoor
open Go.RowKit

structure Aw where
  d : Bool
  k : Rw
  r : Rw
instance : Inhabited Aw := ⟨⟨false, default, default⟩⟩
/-- A slice of acts in memory. -/
def AcAt (w : World) (a : Ptr) (l : List Aw) : Prop :=
  l.length ≤ 9223372036854775807 ∧ (∀ x ∈ l, RowAt w x.k.a x.k.l ∧ RowAt w x.r.a x.r.l) ∧ (l = [] ∨ ∃ b off, a = some ⟨b, off, none⟩ ∧ b < w.heap.size ∧ ∀ i, i < l.length → w.cell? ⟨b, off + i * 3, none⟩ = some (.bool (l.getD i default).d) ∧ w.cell? ⟨b, off + i * 3 + 1, none⟩ = some (l.getD i default).k.v ∧ w.cell? ⟨b, off + i * 3 + 2, none⟩ = some (l.getD i default).r.v)
theorem AcAt.keep {w w' : World} {a : Ptr} {l : List Aw} (h : AcAt w a l) (hg : Below w.heap.size w w') : AcAt w' a l := by
  refine ⟨h.1, fun x hx => ⟨(h.2.1 x hx).1.keep hg, (h.2.1 x hx).2.keep hg⟩, h.2.2.imp id fun ⟨b, off, e, hlt, hc⟩ => ⟨b, off, e, Nat.lt_of_lt_of_le hlt hg.size, fun i hi => ?_⟩⟩
  exact ⟨(hg.cell (p := ⟨b, _, none⟩) hlt).trans (hc i hi).1, (hg.cell (p := ⟨b, _, none⟩) hlt).trans (hc i hi).2.1, (hg.cell (p := ⟨b, _, none⟩) hlt).trans (hc i hi).2.2⟩
theorem AcAt.at {w : World} {a : Ptr} {l : List Aw} (h : AcAt w a l) {i : Nat} (hi : i < l.length) : (∃ b off, a = some ⟨b, off, none⟩ ∧ w.cell? ⟨b, off + i * 3, none⟩ = some (.bool (l.getD i default).d) ∧ w.cell? ⟨b, off + i * 3 + 1, none⟩ = some (l.getD i default).k.v ∧ w.cell? ⟨b, off + i * 3 + 2, none⟩ = some (l.getD i default).r.v) ∧ RowAt w (l.getD i default).k.a (l.getD i default).k.l ∧ RowAt w (l.getD i default).r.a (l.getD i default).r.l := by
  refine ⟨?_, h.2.1 _ (by simp [List.getD, hi])⟩
  rcases h.2.2 with h0 | ⟨b, off, e, _, hc⟩
  · rw [h0] at hi; simp at hi
  · exact ⟨b, off, e, hc i hi⟩
theorem RowAt.rws {w : World} {a : Ptr} {l : List Vl} (h : RowAt w a l) (hl : l.length ≤ 10) : RwS (fun _ => True) w a l :=
  ⟨by omega, h.2.1, h.2.2.imp id fun ⟨b, off, e, hlt, hc⟩ => ⟨b, off, e, trivial, hlt, hc⟩⟩
def fitA (x : Aw) : Prop := x.k.l.length ≤ 10 ∧ x.r.l.length ≤ 10 ∧ x.k.l.all Vl.good = true ∧ x.r.l.all Vl.good = true ∧ (x.d = false → x.r.l.length ≠ 0)
theorem take_atA {D : List Aw} {j : Nat} (h : j < D.length) : D.take (j + 1) = D.take j ++ [D.getD j default] := by
  rw [List.take_succ_eq_append_getElem h]; simp [List.getD, h]
def FitsB (l : List Aw) (b : Bool) : Prop := b = true → l.length ≤ 200 ∧ ∀ x ∈ l, fitA x
def SaysFit (l : List Aw) (w : World) (e : Ending) (w' : World) : Prop := (∃ b, e = .returned (.bool b) ∧ FitsB l b) ∧ w.grownBy w' none
theorem says_fit {l : List Aw} {w w' : World} {b : Bool} (hb : FitsB l b) (hg : w.grownBy w' none) : SaysFit l w (.returned (.bool b)) w' := ⟨⟨b, rfl, hb⟩, hg⟩
theorem says_no {l : List Aw} {w w' : World} (hg : w.grownBy w' none) : SaysFit l w (.returned (.bool false)) w' := says_fit (fun h => by cases h) hg
end Go.Proofs.YtaggacffjbjchaaGreatDoor
namespace Go.Proofs.YtaggacffjbjchaaGreatDoor
open Go.RowKit

/-- A row's block is known whole, and not frozen. -/
def Fz (S : Nat → Prop) (W : World) (x : Rw) : Prop := x.l = [] ∨ ∃ b off cs T, x.a = some ⟨b, off, none⟩ ∧ S b ∧ b < W.heap.size ∧ W.heap[b]? = some (.cells cs T (0, 0))
def RwF (S : Nat → Prop) (W : World) (x : Rw) : Prop := RwS S W x.a x.l ∧ Fz S W x
theorem RwF.keep {S : Nat → Prop} {w w' : World} {x : Rw} (h : RwF S w x) (hk : Stays S w w') : RwF S w' x :=
  ⟨h.1.keep hk, h.2.imp id fun ⟨b, off, cs, T, e, hs, hlt, hc⟩ => ⟨b, off, cs, T, e, hs, Nat.lt_of_lt_of_le hlt hk.1, (hk.2 b hs hlt).trans hc⟩⟩
theorem RwF.mono {S S' : Nat → Prop} {w : World} {x : Rw} (h : RwF S w x) (hs : ∀ b, b < w.heap.size → S b → S' b) : RwF S' w x :=
  ⟨h.1.mono hs, h.2.imp id fun ⟨b, off, cs, T, e, h1, hlt, hc⟩ => ⟨b, off, cs, T, e, hs b hlt h1, hlt, hc⟩⟩
theorem own_rwF {S : Nat → Prop} {B cap : Nat} {w : World} {a : Ptr} {l : List Vl} (h : w.ownsRow B 79 3 (.slice a l.length cap) l.length (l.flatMap vCT)) (hS : ∀ b, B ≤ b → S b) (hl : l.length ≤ 4294967296) (hs : ∀ x ∈ l, x.s.size ≤ maxLen) : RwF S w ⟨a, cap, l⟩ := by
  obtain ⟨a', cap', hv, hr⟩ := own_rw h hS hl hs
  cases hv
  refine ⟨hr, ?_⟩
  rcases h.2 with ⟨_, h0⟩ | ⟨g, cc, cur, e, hb, hg, _⟩
  · exact .inl (List.eq_nil_of_length_eq_zero h0)
  · cases e
    exact .inr ⟨g, 0, cur, _, rfl, hS g hb, (Array.getElem?_eq_some_iff.1 hg).1, hg⟩
set_option maxRecDepth 100000 in
set_option maxHeartbeats 1600000 in
theorem clone2_any (S : Nat → Prop) (a : Option Addr) (cap : Nat) (l : List Vl) (w : World) (h : RowAt w a l) (hl : l.length ≤ 4294967296) (hS : ∀ b, w.heap.size ≤ b → S b) :
    Calls Tryz.prog 77 #[.slice a l.length cap] w fun e w' => (∃ a' cap', e = .returned (.slice a' l.length cap') ∧ RwF S w' ⟨a', cap', l⟩) ∧ w.grownBy w' none := by
  cases a with
  | none =>
    obtain rfl : l = [] := by
      rcases h.2.2 with h | ⟨b, off, e, _⟩
      · exact h
      · cases e
    have hE : ∀ w, (binOp .eql 67 (.slice none 0 cap) (.slice none 0 0)).run Tryz.prog w = .ok (.bool true) w := fun w => Lib.run_eql_slice_nil w _ _ _ _ _ _ _ Tryz.underlying67
    clear h hS hl
    go_enter Tryz.func77, Tryz.ntmps77
    go_wp2_with fail
    go_ret
    exact ⟨⟨none, 0, rfl, ⟨by simp, by simp, .inl rfl⟩, .inl rfl⟩, grown_reflT _ _⟩
  | some ad =>
    have HC : Hid (∀ W, w.grownBy W none → ∀ j u, (l.flatMap vCT)[j]? = some u → W.cell? (ad.add j) = some u) := Lib.hid fun W hW j u hj => by
      rcases h.2.2 with h0 | ⟨b, off, e, hlt, hc⟩
      · rw [h0] at hj; simp at hj
      · cases e
        have := vl_cells (w := W) (b := b) (off := off) (r := l) (fun i hi => ⟨hW.cell (hc i hi).1 (by simp), hW.cell (hc i hi).2.1 (by simp), hW.cell (hc i hi).2.2 (by simp)⟩) l.length 0 (by omega) j u (by simpa using hj)
        simpa using this
    have Hs := Lib.hid h.2.1
    have HL := Lib.hid (vCT_len l)
    obtain ⟨m, hm⟩ : ∃ m, m = l.length := ⟨_, rfl⟩
    have Hm := Lib.hid hm
    rw [← hm] at HL hl ⊢
    clear h hm
    obtain ⟨i0, hi, hz0, hz1, hz2⟩ := info_partsT val_infoT
    have hE : ∀ w, (binOp .eql 67 (.slice (some ad) m cap) (.slice none 0 0)).run Tryz.prog w = .ok (.bool false) w := fun w => Lib.run_eql_slice_nil w _ _ _ _ _ _ _ Tryz.underlying67
    go_enter Tryz.func77, Tryz.ntmps77
    go_wp2_with (at_builtin; refine wpList_append_own _ rfl _ _ 67 rfl w.heap.size 79 i0 (.agg #[.int .i64 0, .int .i64 0, .string ⟨#[]⟩]) 3 32 Tryz.underlying67 hi hz0 hz1 hz2 rfl (by decide) _ 0 [] rfl (own_madeT _ _ w _ _ rfl (Nat.le_refl _)) ad m cap (l.flatMap vCT) rfl HL.out ?c1 ?c2 ?c3 ?c4 ?c5 ?_)
    case c1 => exact HC.out _ (World.grownBy_alloc _ _ _)
    case c2 => exact vCT_one _
    case c3 => unfold maxLen; omega
    case c4 => omega
    case c5 => simp
    intro v' w3 hown' hgrow _
    have K3 := Lib.hid (grown_thenT (World.grownBy_alloc w _ none) hgrow (by intro j hj; simp [Value.ownBlock] at hj; omega))
    have O3 := Lib.hid (show w3.ownsRow w.heap.size 79 3 v' l.length (l.flatMap vCT) by rw [← Hm.out]; simpa using hown')
    clear hown' hgrow
    go_wp2_with fail
    go_ret
    obtain ⟨a', cap', hv, hr⟩ := own_rw O3.out hS (by rw [← Hm.out]; exact hl) Hs.out
    have O4 := O3.out
    rw [hv] at O4
    have hF := own_rwF O4 hS (by rw [← Hm.out]; exact hl) Hs.out
    rw [← Hm.out] at hv
    exact ⟨⟨a', cap', congrArg Ending.returned hv, hF⟩, K3.out⟩
structure FromInv2 (w : World) (kp pp dp : Nat) (ka : Ptr) (kc : Nat) (key : List Vl) (R : List (List Vl)) (vo : Value) (wr : World) (v : Value) (xs : List (Ptr × Tre)) (done : List Rw) (rest : List (List Vl × List Vl)) : Prop where
  wlk : Wlk (fun b => b < w.heap.size) w.heap.size wr kp pp dp ka kc key v xs
  rem : remS key xs = rest
  all : done.map Rw.l ++ rest.map Prod.snd = R
  own : wr.ownsRow w.heap.size 67 1 vo done.length (done.map Rw.v)
  rows : ∀ x ∈ done, RwF (Sr w pp v vo) wr x
  o_pp : vo.ownBlock ≠ some pp
  o_kp : vo.ownBlock ≠ some kp
  o_dp : vo.ownBlock ≠ some dp
  o_v : ∀ g, vo.ownBlock = some g → v.ownBlock ≠ some g
  grown : w.grownBy wr none
/-- The walk has gone on. -/
theorem FromInv2.next {w : World} {kp pp dp : Nat} {ka : Ptr} {kc : Nat} {key : List Vl} {R : List (List Vl)} {vo : Value} {wr w1 : World} {v v' : Value} {xs xs' : List (Ptr × Tre)} {done : List Rw} {k r : List Vl} {rest : List (List Vl × List Vl)} (h : FromInv2 w kp pp dp ka kc key R vo wr v xs done ((k, r) :: rest))
    (hw : Wlk (fun b => b < w.heap.size) w.heap.size w1 kp pp dp ka kc key v' xs') (hg : ∀ g, v'.ownBlock = some g → v.ownBlock = some g ∨ wr.heap.size ≤ g) (ho : Only (Wlk.M pp v) wr w1) :
    w1.ownsRow w.heap.size 67 1 vo done.length (done.map Rw.v) ∧ (∀ x ∈ done, RwF (Sr w pp v' vo) w1 x) ∧ (∀ g, vo.ownBlock = some g → v'.ownBlock ≠ some g) ∧ w.grownBy w1 none := by
  have hvo : ∀ g, vo.ownBlock = some g → g < wr.heap.size := fun g hg => (World.ownsRow.lt h.own g hg).2
  refine ⟨own_only h.own ho (fun g hg' hm => ?_), fun x hx => ?_, fun g hg' hv => ?_, only_grown h.grown ho (fun b hb => ?_)⟩
  · rcases hm with rfl | hm
    · exact h.o_pp hg'
    · exact h.o_v g hg' hm
  · have h1 := (h.rows x hx).mono (S' := fun b => Sr w pp v vo b ∧ Sr w pp v' vo b) (fun b hb hs => ⟨hs, hs.1, hs.2.1, fun e => by
      rcases hg b e with q | q
      · exact hs.2.2.1 q
      · omega, hs.2.2.2⟩)
    refine (h1.keep (ho.stays (fun b hs _ hm => ?_))).mono (fun b _ hs => hs.2)
    rcases hm with rfl | hm
    · exact hs.1.2.1 rfl
    · exact hs.1.2.2.1 hm
  · rcases hg g hv with q | q
    · exact h.o_v g hg' q
    · have := hvo g hg'; omega
  · rcases hb with rfl | hb
    · exact h.wlk.bp
    · exact (World.ownsRow.lt h.wlk.own b hb).1
/-- A row has been appended. -/
theorem FromInv2.push {w : World} {kp pp dp : Nat} {ka : Ptr} {kc : Nat} {key : List Vl} {R : List (List Vl)} {vo : Value} {wr w1 w2 w4 : World} {v v' : Value} {xs xs' : List (Ptr × Tre)} {done : List Rw} {k r : List Vl} {rest : List (List Vl × List Vl)} (h : FromInv2 w kp pp dp ka kc key R vo wr v xs done ((k, r) :: rest))
    (hw : Wlk (fun b => b < w.heap.size) w.heap.size w1 kp pp dp ka kc key v' xs') (hg : ∀ g, v'.ownBlock = some g → v.ownBlock = some g ∨ wr.heap.size ≤ g) (ho : Only (Wlk.M pp v) wr w1) (hr : remS key xs' = rest)
    {ra : Ptr} {rc : Nat} (hrow : RwF (fun b => w1.heap.size ≤ b) w2 ⟨ra, rc, r⟩) (h12 : w1.grownBy w2 none) {o : Obj} {g cap : Nat}
    (hown : w4.ownsRow w.heap.size 67 1 (.slice (some ⟨g, 0, none⟩) (done.length + 1) cap) (done.length + 1) (done.map Rw.v ++ [.slice ra r.length rc])) (hgr : (w2.alloc o).grownBy w4 vo.ownBlock) (hgb : vo.ownBlock = some g ∨ g = (w2.alloc o).heap.size) :
    FromInv2 w kp pp dp ka kc key R (.slice (some ⟨g, 0, none⟩) (done.length + 1) cap) w4 v' xs' (done ++ [⟨ra, rc, r⟩]) rest := by
  obtain ⟨a1, a2, a3, a4⟩ := h.next hw hg ho
  have g13 : w1.grownBy (w2.alloc o) none := h12.trans (World.grownBy_alloc w2 o none)
  have hw3 := hw.grown g13
  have o34 : Only (fun b => vo.ownBlock = some b) (w2.alloc o) w4 := (Only.refl _ _).grown hgr (fun j hj => .inl hj)
  have hvo : ∀ b, vo.ownBlock = some b → w.heap.size ≤ b ∧ b < wr.heap.size := fun b hb => World.ownsRow.lt h.own b hb
  have hw4 := hw3.keep o34 (fun b hb => ⟨(hvo b hb).1, fun e => h.o_kp (by rw [hb, e]), fun e => h.o_pp (by rw [hb, e]), fun e => h.o_dp (by rw [hb, e]), a3 b hb⟩)
  obtain ⟨l1, l2, l3⟩ := hw.lt
  have s12 := h12.size
  have s01 := ho.size
  have s3 : (w2.alloc o).heap.size = w2.heap.size + 1 := by simp
  have hv' : ∀ b, v'.ownBlock = some b → b < w1.heap.size := fun b hb => (World.ownsRow.lt hw.own b hb).2
  refine ⟨hw4, hr, ?_, ?_, fun x hx => ?_, fun e => ?_, fun e => ?_, fun e => ?_, fun b hb e => ?_, ?_⟩
  · rw [← h.all]; simp
  · rw [List.length_append, List.map_append]; exact hown
  · rcases List.mem_append.1 hx with hx | hx
    · have b1 := (a2 x hx).keep (.of g13)
      have b2 := (a2 x hx).mono (S' := fun b => b < w1.heap.size ∧ Sr w pp v' vo b) (fun b hb hs => ⟨hb, hs⟩)
      refine ((b2.keep (.of g13)).keep (o34.stays (fun b hs _ hm => hs.2.2.2.2 hm))).mono (fun b _ hs => ⟨hs.2.1, hs.2.2.1, hs.2.2.2.1, fun e => ?_⟩)
      have e' : g = b := by simpa [Value.ownBlock] using e
      rcases hgb with q | q
      · exact hs.2.2.2.2 (by rw [q, e'])
      · have := hs.1; omega
    · obtain rfl := List.mem_singleton.1 hx
      have b2 := hrow.mono (S' := fun b => b < w2.heap.size ∧ w1.heap.size ≤ b) (fun b hb hs => ⟨hb, hs⟩)
      refine ((b2.keep (.of (World.grownBy_alloc w2 o none))).keep (o34.stays (fun b hs _ hm => by have := (hvo b hm).2; have := hs.2; omega))).mono (fun b _ hs => ⟨by have := a4.size; have := hs.2; omega, fun e => by have := hs.2; omega, fun e => by have := hv' b e; have := hs.2; omega, fun e => ?_⟩)
      have e' : g = b := by simpa [Value.ownBlock] using e
      rcases hgb with q | q
      · have := (hvo g q).2; have := hs.2; omega
      · have := hs.1; omega
  · have e' : g = pp := by simpa [Value.ownBlock] using e
    rcases hgb with q | q
    · exact h.o_pp (by rw [q, e'])
    · omega
  · have e' : g = kp := by simpa [Value.ownBlock] using e
    rcases hgb with q | q
    · exact h.o_kp (by rw [q, e'])
    · omega
  · have e' : g = dp := by simpa [Value.ownBlock] using e
    rcases hgb with q | q
    · exact h.o_dp (by rw [q, e'])
    · omega
  · have e' : g = b := by simpa [Value.ownBlock] using hb
    subst e'
    rcases hgb with q | q
    · exact a3 g q e
    · have := hv' g e; omega
  · exact only_grown (a4.trans g13) o34 (fun b hb => (hvo b hb).1)
set_option maxRecDepth 100000 in
set_option maxHeartbeats 6400000 in
theorem from2_any (hc : Tr.IsOrd rowsOrd) (S : Nat → Prop) (t : Tre) (p : Ptr) (ka : Ptr) (kc : Nat) (key : List Vl) (n : Int) (w : World) (ht : TrAt S w t p) (hs : Tr.Sorted rowsOrd t.toL) (hn : t.n ≤ 100000000) (hk : RowAt w ka key) (hkl : key.length ≤ 4294967296) :
    Calls Tryz.prog 72 #[.pointer p, .slice ka key.length kc, .int .i64 n] w fun e w' => (∃ (vo : Value) (done : List Rw), e = .returned vo ∧ w'.ownsRow w.heap.size 67 1 vo done.length (done.map Rw.v) ∧ (∀ x ∈ done, RwF (fun b => w.heap.size ≤ b ∧ vo.ownBlock ≠ some b) w' x) ∧ done.map Rw.l = ((fromL key t.toL).map Prod.snd).take n.toNat) ∧ w.grownBy w' none := by
  have HW := Lib.hid (walk_any hc S t p ka kc key w ht hs (by omega) hk hkl)
  have HC := Lib.hid hc
  have hR : (fromL key t.toL).length ≤ t.n := by rw [Tr.n_toL]; exact List.length_filter_le _ _
  obtain ⟨R, hRe⟩ : ∃ R, R = (fromL key t.toL).map Prod.snd := ⟨_, rfl⟩
  have HRe := Lib.hid hRe
  have hRl : R.length ≤ 100000000 := by rw [hRe, List.length_map]; omega
  obtain ⟨i0, hi, hz0, hz1, hz2⟩ := info_partsT row_info
  rw [← hRe]
  generalize hm : key.length = m0 at *
  clear ht hs hn hk hkl hR hRe hc
  go_enter Tryz.func72, Tryz.ntmps72
  go_wp2_with fail
  refine HW.out.mono ?_
  rintro e w1 ⟨⟨v1, xs1, rfl, hw, hr, hl⟩, hg⟩
  have I0 := Lib.hid (show ∃ (v : Value) (xs : List (Ptr × Tre)) (done : List Rw) (rest : List (List Vl × List Vl)), FromInv2 w w.heap.size (w.heap.size + 1) (w.heap.size + 1 + 1) ka kc key R (.slice none 0 0) w1 v xs done rest ∧ done.length = 0 ∧ ((0 : Nat) = 0 ∨ ((0 : Nat) : Int) ≤ n) from ⟨v1, xs1, [], _, ⟨hw, hr, by rw [HRe.out]; rfl, World.ownsRow_nil _ _ _ _, by simp, by simp [Value.ownBlock], by simp [Value.ownBlock], by simp [Value.ownBlock], by simp [Value.ownBlock], hg⟩, rfl, .inl rfl⟩)
  clear hw hr hl hg HW
  go_wp2_with fail
  go_loopw [7] (fun s wr => ∃ (ao : Ptr) (m co : Nat), s = .slice ao m co ∧ m ≤ 100000000 ∧ Hid (∃ (v : Value) (xs : List (Ptr × Tre)) (done : List Rw) (rest : List (List Vl × List Vl)), FromInv2 w w.heap.size (w.heap.size + 1) (w.heap.size + 1 + 1) ka kc key R (.slice ao m co) wr v xs done rest ∧ done.length = m ∧ (m = 0 ∨ (m : Int) ≤ n))) (fun s _ => R.length + 1 - slLen s)
  case atStart =>
    refine ⟨none, 0, 0, rfl, by omega, Lib.hid ?_⟩
    obtain ⟨q1, q2, q3, q4, q5, q6, _⟩ := I0.out
    exact ⟨q1, q2, q3, q4, q5, q6, .inl rfl⟩
  case round =>
    obtain ⟨ao, m, co, rfl, hm8, I⟩ := hrel
    clear I0
    by_cases hlt : (m : Int) < n
    · obtain ⟨v, xs, done, rest, hI, hdl, hmn⟩ := I.out
      cases rest with
      | nil =>
        have HN := Lib.hid (next_none _ _ _ _ _ _ _ _ _ _ _ hI.wlk hI.rem)
        have HI := Lib.hid (And.intro hI (And.intro hdl hmn))
        clear hI hdl hmn I
        go_wp2_with fail
        refine HN.out.mono ?_
        rintro e w2 ⟨rfl, rfl⟩
        go_wp2_with fail
        go_ret
        obtain ⟨hI, hdl, hmn⟩ := HI.out
        refine ⟨⟨_, done, rfl, by have := hI.own; rw [hdl] at this ⊢; exact this, fun x hx => (hI.rows x hx).mono (fun b _ hs => ⟨hs.1, hs.2.2.2⟩), ?_⟩, hI.grown⟩
        have := hI.all
        simp only [List.map_nil, List.append_nil] at this
        rw [this, List.take_of_length_le]
        rw [← this, List.length_map]
        omega
      | cons kr rest =>
        obtain ⟨k, r⟩ := kr
        have hrl : rest.length ≤ 400000000 := by
          have := congrArg List.length hI.all
          simp at this
          omega
        have hml : m + 1 ≤ R.length := by
          have := congrArg List.length hI.all
          simp at this
          omega
        have HN := Lib.hid (next_more HC.out _ _ _ _ _ _ _ _ _ _ _ k r rest hI.wlk hI.rem hrl)
        have HI := Lib.hid (And.intro hI (And.intro hdl hmn))
        have hB0 : w.heap.size ≤ wr.heap.size := hI.grown.size
        clear hI hmn I hrl
        go_wp2_with fail
        refine HN.out.mono ?_
        rintro e w2 ⟨⟨px, rfl, hp⟩, ⟨v', xs', hw', hg', hr'⟩, ho⟩
        obtain ⟨b, ka', kc', va, vc, rfl, hb, hb2, c0, c1, h1, h2⟩ := hp
        have HCl := Lib.hid (clone2_any (fun b => w2.heap.size ≤ b) va vc r w2 h2.row h2.1 (fun b hb => hb))
        have E := Lib.hid (And.intro hw' (And.intro hg' (And.intro hr' ho)))
        have hB2 : w.heap.size ≤ w2.heap.size := Nat.le_trans hB0 ho.size
        have O2 := Lib.hid (HI.out.1.next hw' hg' ho).1
        clear hw' hg' hr' ho h1 h2 hb hb2
        obtain ⟨rn, hrn⟩ : ∃ rn, rn = r.length := ⟨_, rfl⟩
        have Hrn := Lib.hid hrn
        rw [← hrn] at c1 HCl
        clear hrn
        go_wp2_with fail
        refine HCl.out.mono ?_
        rintro e w3 ⟨⟨ra, rc, rfl, hrow⟩, hg3⟩
        have ER := Lib.hid (And.intro hrow hg3)
        have O3 := Lib.hid (World.ownsRow.kept O2.out hg3 (by cases (Value.slice ao m co).ownBlock <;> simp))
        have hB3 : w.heap.size ≤ w3.heap.size := Nat.le_trans hB2 hg3.size
        rw [hdl] at O3
        clear hrow hg3 c0 c1 O2
        go_wp2_with (at_builtin; refine wpList_append_lies _ rfl _ _ 54 rfl w.heap.size 67 i0 (.slice none 0 0) 1 24 Tryz.underlying54 hi hz0 hz1 hz2 rfl (by decide) (.slice ao m co) m (done.map Rw.v) rfl (World.ownsRow.alloc O3.out _) ⟨w3.heap.size, 0, none⟩ 1 1 [.slice ra rn rc] rfl rfl (one_atT (cell_of_row _ _ 0 _ _ _ (heap_alloc_new w3 _))) (one_oneS _ _ _) (by decide) (by unfold maxLen; omega) (by omega) (by simp; omega) _ rfl ?_)
        intro g cap w4 hown4 hgrow4 hgb hg4
        have EF := Lib.hid (And.intro hown4 (And.intro hgrow4 hgb))
        clear hown4 hgrow4 hgb hg4
        go_wp2_with fail
        go_roundw
        case rel =>
          obtain ⟨hI, hdl, hmn⟩ := HI.out
          obtain ⟨hw', hg', hr', ho⟩ := E.out
          obtain ⟨hrow, hg3⟩ := ER.out
          obtain ⟨hown4, hgrow4, hgb⟩ := EF.out
          rw [Hrn.out, ← hdl] at hown4
          have hp := hI.push hw' hg' ho hr' hrow hg3 hown4 hgrow4 (hgb.imp id (fun e => by rw [e]; simp))
          rw [hdl] at hp
          exact ⟨some ⟨g, 0, none⟩, m + 1, cap, rfl, by omega, Lib.hid ⟨v', xs', _, rest, hp, by simp [hdl], .inr (by omega)⟩⟩
        case measure => simp only [slLen]; omega
    · have HI := I
      clear I
      go_wp2_with fail
      go_ret
      obtain ⟨v, xs, done, rest, hI, hdl, hmn⟩ := HI.out
      refine ⟨⟨_, rfl, done, by have := hI.own; rw [hdl] at this ⊢; exact this, fun x hx => (hI.rows x hx).mono (fun b _ hs => ⟨hs.1, hs.2.2.2⟩), ?_⟩, hI.grown⟩
      rw [← hI.all, List.take_left']
      rw [List.length_map, hdl]
      omega
end Go.Proofs.YtaggacffjbjchaaGreatDoor
namespace Go.Proofs.YtaggacffjbjchaaGreatDoor
open Go.RowKit

structure St where
  t : Tre
  p : Ptr
  a : Ptr
  cap : Nat
  l : List Pw
instance : Inhabited St := ⟨⟨.nil, none, none, 0, []⟩⟩
def St.pv (s : St) : Value := .pointer s.p
def St.lv (s : St) : Value := .slice s.a s.l.length s.cap
def St.at (S : Nat → Prop) (W : World) (s : St) : Prop := TrAt S W s.t s.p ∧ PsS S W s.a s.l ∧ s.l.length ≤ s.cap ∧ Eq7 s.t s.l 90000
theorem St.at.keep {S : Nat → Prop} {w w' : World} {s : St} (h : s.at S w) (hk : Stays S w w') : s.at S w' := ⟨h.1.keep hk, h.2.1.keep hk, h.2.2⟩
theorem St.at.mono {S S' : Nat → Prop} {w : World} {s : St} (h : s.at S w) (hs : ∀ b, b < w.heap.size → S b → S' b) : s.at S' w := ⟨h.1.mono hs, h.2.1.mono hs, h.2.2⟩
def blk (x : Ptr) : Option Nat := x.map Addr.block
theorem own_blk (x : Ptr) (n c : Nat) : (Value.slice x n c).ownBlock = blk x := by cases x <;> rfl
/-- All blocks but two. -/
def Sx (x y : Ptr) : Nat → Prop := fun b => blk x ≠ some b ∧ blk y ≠ some b
structure Hist (B : Nat) (W : World) (x y : Ptr) (i c d : Nat) (hs : List St) : Prop where
  len : hs.length = i
  own3 : W.ownsRow B 97 1 (.slice x i c) i (hs.map St.pv)
  own4 : W.ownsRow B 68 1 (.slice y i d) i (hs.map St.lv)
  apart : ∀ b, blk x = some b → blk y ≠ some b
  at_ : ∀ s ∈ hs, s.at (Sx x y) W
theorem Hist.nil (B : Nat) (W : World) : Hist B W none none 0 0 0 [] := ⟨rfl, World.ownsRow_nil _ _ _ _, World.ownsRow_nil _ _ _ _, (fun b h => by cases h), by simp⟩
theorem stays_sx {w w' : World} (x y : Ptr) (h : w.grownBy w' none) : Stays (Sx x y) w w' := .of h
theorem Hist.keep {B : Nat} {W W' : World} {x y : Ptr} {i c d : Nat} {hs : List St} (h : Hist B W x y i c d hs) (hg : W.grownBy W' none) : Hist B W' x y i c d hs :=
  ⟨h.len, World.ownsRow.kept h.own3 hg (by cases (Value.slice x i c).ownBlock <;> simp), World.ownsRow.kept h.own4 hg (by cases (Value.slice y i d).ownBlock <;> simp), h.apart, fun s hs' => (h.at_ s hs').keep (.of hg)⟩
theorem Hist.lt {B : Nat} {W : World} {x y : Ptr} {i c d : Nat} {hs : List St} (h : Hist B W x y i c d hs) : (∀ b, blk x = some b → B ≤ b ∧ b < W.heap.size) ∧ (∀ b, blk y = some b → B ≤ b ∧ b < W.heap.size) :=
  ⟨fun b hb => World.ownsRow.lt h.own3 b (by rw [own_blk]; exact hb), fun b hb => World.ownsRow.lt h.own4 b (by rw [own_blk]; exact hb)⟩
theorem Hist.sx {B : Nat} {W : World} {x y : Ptr} {i c d : Nat} {hs : List St} (h : Hist B W x y i c d hs) : ∀ b, W.heap.size ≤ b → Sx x y b :=
  fun b hb => ⟨fun e => by have := (h.lt.1 b e).2; omega, fun e => by have := (h.lt.2 b e).2; omega⟩
theorem Hist.push {B : Nat} {W Wa Wb Wc Wd : World} {x y : Ptr} {i c d g c' g' d' : Nat} {hs : List St} {s : St} (h : Hist B W x y i c d hs) (hs' : s.at (Sx x y) W)
    (ha : W.grownBy Wa none) (hown : Wb.ownsRow B 97 1 (.slice (some ⟨g, 0, none⟩) (i + 1) c') (i + 1) (hs.map St.pv ++ [s.pv])) (hb : Wa.grownBy Wb (blk x)) (hg : blk x = some g ∨ g = Wa.heap.size) (hgl : g < Wb.heap.size)
    (hc : Wb.grownBy Wc none) (hown' : Wd.ownsRow B 68 1 (.slice (some ⟨g', 0, none⟩) (i + 1) d') (i + 1) (hs.map St.lv ++ [s.lv])) (hd : Wc.grownBy Wd (blk y)) (hg' : blk y = some g' ∨ g' = Wc.heap.size) :
    Hist B Wd (some ⟨g, 0, none⟩) (some ⟨g', 0, none⟩) (i + 1) c' d' (hs ++ [s]) ∧ s.at (Sx (some ⟨g, 0, none⟩) (some ⟨g', 0, none⟩)) Wd ∧ (∀ W0 : World, W0.grownBy W none → W0.heap.size ≤ B → W0.grownBy Wd none) := by
  have lx := h.lt.1
  have ly := h.lt.2
  have s1 := ha.size
  have s2 := hb.size
  have s3 := hc.size
  have s4 := hd.size
  have hgy : blk y ≠ some g := fun e => by
    rcases hg with e' | e'
    · exact h.apart g e' e
    · have := (ly g e).2; omega
  have hgg : g ≠ g' := fun e => by
    rcases hg' with e' | e'
    · rw [← e] at e'; exact hgy e'
    · omega
  have hst : ∀ b, b < W.heap.size → Sx x y b → Wd.heap[b]? = W.heap[b]? := fun b hlt hsx => by
    rw [hd.block b (by omega) (fun e => hsx.2 e.symm), hc.block b (by omega) (by simp), hb.block b (by omega) (fun e => hsx.1 e.symm), ha.block b hlt (by simp)]
  have hall : ∀ s : St, s.at (Sx x y) W → s.at (Sx (some ⟨g, 0, none⟩) (some ⟨g', 0, none⟩)) Wd := fun s hs => by
    refine ((hs.mono (S' := fun b => Sx x y b ∧ b < W.heap.size) (fun b hlt h => ⟨h, hlt⟩)).keep (w' := Wd) ⟨by omega, fun b hS hlt => hst b hlt hS.1⟩).mono (fun b _ hS => ⟨fun e => ?_, fun e => ?_⟩)
    · have e : g = b := by simpa [blk] using e
      rcases hg with e' | e'
      · exact hS.1.1 (by rw [e', e])
      · have := hS.2; omega
    · have e : g' = b := by simpa [blk] using e
      rcases hg' with e' | e'
      · exact hS.1.2 (by rw [e', e])
      · have := hS.2; omega
  refine ⟨⟨by rw [List.length_append, h.len]; rfl, ?_, ?_, fun b e e' => ?_, fun t ht => ?_⟩, hall s hs', fun W0 h0 hB => ?_⟩
  · rw [List.map_append]
    exact World.ownsRow.kept (World.ownsRow.kept hown hc (.inr (by simp [Value.ownBlock]))) hd (.inr fun e => hgy (by rw [← e]; rfl))
  · rw [List.map_append]; exact hown'
  · have e1 : g = b := by simpa [blk] using e
    have e2 : g' = b := by simpa [blk] using e'
    omega
  · rw [List.mem_append] at ht
    rcases ht with ht | ht
    · exact hall t (h.at_ t ht)
    · obtain rfl := List.mem_singleton.1 ht
      exact hall _ hs'
  · refine grown_thenT (grown_thenT (h0.trans ha) hb (fun b e => ?_)|>.trans hc) hd (fun b e => ?_)
    · have := (lx b e).1; omega
    · have := (ly b e).1; omega
end Go.Proofs.YtaggacffjbjchaaGreatDoor
namespace Go.Proofs.YtaggacffjbjchaaGreatDoor
open Go.RowKit

theorem ptr_info7 : (Tryz.prog.info? 97).map (fun i => (i.zero, i.size, i.bytes)) = some (some (.pointer none), 1, 8) := by kernel_rfl
theorem prs_info7 : (Tryz.prog.info? 68).map (fun i => (i.zero, i.size, i.bytes)) = some (some (.slice none 0 0), 1, 24) := by kernel_rfl
/-- An act's rows, in whatever world has grown from the one in which they came. -/
theorem act_rows {w W : World} {S : Nat → Prop} {a : Ptr} {l : List Vl} (h : RowAt w a l) (hl : l.length ≤ 10) (hg : w.grownBy W none) (hS : ∀ b, b < w.heap.size → S b) : RwS S W a l :=
  (((h.rws hl).mono (S' := fun b => b < w.heap.size) (fun _ hlt _ => hlt)).keep (w' := W) (.of hg)).mono (fun _ _ hlt => hS _ hlt)
theorem Hist.cell {B : Nat} {W : World} {x y : Ptr} {i c d : Nat} {hs : List St} (h : Hist B W x y i c d hs) {j : Nat} (hj : j < i) : ∃ (g g' : Nat) (s : St), s ∈ hs ∧ x = some ⟨g, 0, none⟩ ∧ y = some ⟨g', 0, none⟩ ∧ i ≤ c ∧ i ≤ d ∧ W.cell? ⟨g, j, none⟩ = some (.pointer s.p) ∧ W.cell? ⟨g', j, none⟩ = some (.slice s.a s.l.length s.cap) := by
  have hjl : j < hs.length := by rw [h.len]; exact hj
  rcases h.own3.2 with ⟨_, h0⟩ | ⟨g, cc, cur, e, _, _, hc, _⟩
  · omega
  rcases h.own4.2 with ⟨_, h0⟩ | ⟨g', cc', cur', e', _, _, hc', _⟩
  · omega
  cases e
  cases e'
  have c0 := h.own3.cells (g := g) rfl j (hs[j]).pv (by simp [hjl])
  have c1 := h.own4.cells (g := g') rfl j (hs[j]).lv (by simp [hjl])
  rw [add_atT, Nat.zero_add] at c0 c1
  exact ⟨g, g', hs[j], List.getElem_mem hjl, rfl, rfl, hc, hc', c0, c1⟩
end Go.Proofs.YtaggacffjbjchaaGreatDoor
namespace Go.Proofs.YtaggacffjbjchaaGreatDoor
open Go.RowKit

abbrev cE : Obj := .cells #[] 79
/-- A row that is appended to an empty one of one's own, nothing appended too. -/
theorem run_append_row {w : World} {B g : Nat} {ka : Ptr} {kc : Nat} {l : List Vl} (hg : w.heap[g]? = some cE) (hB : B ≤ g) (hr : RowAt w ka l) (hl : l.length ≤ 10) (ty : TypeId) :
    ∃ v' w', (Builtin.append_ #[67, 67] ty #[.slice (some ⟨g, 0, none⟩) 0 0, .slice ka l.length kc]).run Tryz.prog w = .ok v' w' ∧ w'.ownsRow B 79 3 v' l.length (l.flatMap vCT) ∧ w.grownBy w' (some g) ∧ (v'.ownBlock = some g ∨ v'.ownBlock = some w.heap.size) ∧ v' ≠ .slice none 0 0 := by
  obtain ⟨i0, hi, hz0, hz1, hz2⟩ := info_partsT val_infoT
  have hgl : g < w.heap.size := (Array.getElem?_eq_some_iff.1 hg).1
  have hown : w.ownsRow B 79 3 (.slice (some ⟨g, 0, none⟩) 0 0) 0 [] := ⟨by simp, .inr ⟨g, 0, #[], rfl, hB, hg, Nat.le_refl _, Nat.zero_le _, by simp, by simp⟩⟩
  cases ka with
  | none =>
    obtain rfl : l = [] := by
      rcases hr.2.2 with h | ⟨b, off, e, _⟩
      · exact h
      · cases e
    have hfc := run_firstCells_none (P := Tryz.prog) w i0.size 0 0 kc
    have hst := run_storeCells_cells (P := Tryz.prog) g 0 [] 0 w (by simp) (by simp) (by simp)
    refine ⟨.slice (some ⟨g, 0, none⟩) 0 0, w, ?_, hown, grown_reflT _ _, .inl rfl, by simp⟩
    simp [Builtin.append_, run_underlying Tryz.underlying67, sizeOf, typeInfo, hi, Builtin.lenOf, hfc, Addr.add_lit, hst]
    rfl
  | some ad =>
    have hc : ∀ j u, (l.flatMap vCT)[j]? = some u → w.cell? (ad.add j) = some u := fun j u hj => by
      rcases hr.2.2 with h0 | ⟨b, off, e, hlt, hc⟩
      · rw [h0] at hj; simp at hj
      · cases e
        have := vl_cells (w := w) (b := b) (off := off) (r := l) hc l.length 0 (by omega) j u (by simpa using hj)
        simpa using this
    obtain ⟨v', w', hrun, r1, r2, r3, r4⟩ := run_append_own_at (P := Tryz.prog) w B 67 ty 79 i0 (.agg #[.int .i64 0, .int .i64 0, .string ⟨#[]⟩]) 3 32 Tryz.underlying67 hi hz0 hz1 hz2 rfl (by decide) (.slice (some ⟨g, 0, none⟩) 0 0) 0 [] hown ad l.length kc (l.flatMap vCT) (vCT_len l) hc (vCT_one l) (by unfold maxLen; omega) (by omega) (by omega)
    refine ⟨v', w', hrun, by simpa using r1, r2, ?_, fun e => by simpa using r3.1 e⟩
    rcases r4 with e | e
    · exact .inl (by rw [e]; rfl)
    · exact .inr e
theorem step_append_row {ops : Array Oper} {o : Oper} {a : Act} {K : Act → World → Prop} {Q : Exit → Act → World → Prop} {E : Prop} (w : World) (hw : Region.wanted o (yielded ops a.tmps) = true) (s x : Operand)
    (ho : o.op = .call { callee := .builtin .append, args := #[s, x], argTypes := #[67, 67] })
    {B g : Nat} {ka : Ptr} {m kc : Nat} {l : List Vl} (hg : w.heap[g]? = some cE) (hB : B ≤ g) (hr : RowAt w ka l) (hl : l.length ≤ 10) (hm : m = l.length)
    (hs : a.eval s = .slice (some ⟨g, 0, none⟩) 0 0) (hx : a.eval x = .slice ka m kc)
    (hk : ∀ v' w', w'.ownsRow B 79 3 v' l.length (l.flatMap vCT) → w.grownBy w' (some g) → (v'.ownBlock = some g ∨ v'.ownBlock = some w.heap.size) → K (a.put o.dst v') w') :
    if Region.wanted o (yielded ops a.tmps) = true then Oper.wp Tryz.prog o a w K Q else E := by
  subst hm
  rw [if_pos hw]
  obtain ⟨v', w', hr', h1, h2, h3, _⟩ := run_append_row (kc := kc) hg hB hr hl o.type
  unfold Oper.wp execOp
  simp only [ho, resolve, invoke, builtin, Sem.run_bind, Sem.run_pure, Result.andThen_ok, List.map_toArray, List.map_cons, List.map_nil, hs, hx, hr']
  exact hk v' w' h1 h2 h3
theorem two_e (w : World) (o o' : Obj) : ((w.alloc o).alloc o').heap[w.heap.size]? = some o ∧ ((w.alloc o).alloc o').heap[w.heap.size + 1]? = some o' := by
  constructor
  · rw [Below.heap_alloc _ _ _ (by simp)]; exact heap_alloc_new w o
  · have := heap_alloc_new (w.alloc o) o'
    rw [show (w.alloc o).heap.size = w.heap.size + 1 by simp] at this
    exact this
theorem copies_end {W P w3 P' w4 : World} {g1 g2 ky rz : Nat} {v1 v2 : Value} {xs1 xs2 : List Value} (hWP : W.grownBy P none) (hg1 : W.heap.size ≤ g1) (_hg1' : g1 < P.heap.size)
    (o1 : w3.ownsRow W.heap.size 79 3 v1 ky xs1) (gr1 : P.grownBy w3 (some g1)) (at1 : v1.ownBlock = some g1 ∨ v1.ownBlock = some P.heap.size)
    (hP' : w3.grownBy P' none) (hg2 : W.heap.size ≤ g2) (h12 : g2 ≠ g1) (hg2' : g2 < P.heap.size ∨ w3.heap.size ≤ g2)
    (o2 : w4.ownsRow W.heap.size 79 3 v2 rz xs2) (gr2 : P'.grownBy w4 (some g2)) (at2 : v2.ownBlock = some g2 ∨ v2.ownBlock = some P'.heap.size) :
    w4.ownsRow W.heap.size 79 3 v1 ky xs1 ∧ w4.ownsRow W.heap.size 79 3 v2 rz xs2 ∧ (∀ g, v1.ownBlock = some g → v2.ownBlock ≠ some g) ∧ W.grownBy w4 none := by
  have hv1 : v1.ownBlock ≠ some g2 := fun e => by
    have hl := (World.ownsRow.lt o1 g2 e).2
    rcases at1 with q | q
    · rw [e] at q; exact h12 (Option.some.inj q)
    · rw [e] at q
      have := Option.some.inj q
      have := gr1.size
      omega
  refine ⟨World.ownsRow.kept (World.ownsRow.kept o1 hP' (by cases v1.ownBlock <;> simp)) gr2 (.inr hv1), o2, fun g e1 e2 => ?_, ?_⟩
  · have hl := (World.ownsRow.lt o1 g e1).2
    rcases at2 with q | q
    · rw [e2] at q; exact hv1 (by rw [e1, q])
    · rw [e2] at q
      have := Option.some.inj q
      have := hP'.size
      omega
  · exact grown_thenT ((grown_thenT hWP gr1 (fun j e => by cases e; exact hg1)).trans hP') gr2 (fun j e => by cases e; exact hg2)
theorem heap_e {w w' : World} {g g' : Nat} (h : w.heap[g]? = some cE) (hg : w.grownBy w' (some g')) (hne : g ≠ g') : w'.heap[g]? = some cE :=
  (hg.block g (Array.getElem?_eq_some_iff.1 h).1 (fun e => hne (Option.some.inj e))).trans h
end Go.Proofs.YtaggacffjbjchaaGreatDoor
namespace Go.Proofs.YtaggacffjbjchaaGreatDoor
open Go.RowKit

theorem grown_setCells (b : Nat) : ∀ (vs : List Value) (o : Nat) (w : World), w.grownBy (w.setCells b o vs) (some b)
  | [], _, w => grown_reflT w _
  | v :: vs, o, w => by
    have h1 : w.grownBy (w.setCell ⟨b, o, none⟩ v) (some b) := ⟨rfl, rfl, rfl, by simp [World.setCell], fun k _ hk => Below.heap_setCell _ _ _ _ (fun e => hk (by simp [e]))⟩
    have h2 := grown_setCells b vs (o + 1) (w.setCell ⟨b, o, none⟩ v)
    exact ⟨h2.os.trans h1.os, h2.tape.trans h1.tape, h2.output.trans h1.output, Nat.le_trans h1.size h2.size, fun k hk hne => (h2.block k (Nat.lt_of_lt_of_le hk h1.size) hne).trans (h1.block k hk hne)⟩
theorem grown_same {a b c : World} {row : Option Nat} (h1 : a.grownBy b row) (h2 : b.grownBy c row) : a.grownBy c row :=
  ⟨h2.os.trans h1.os, h2.tape.trans h1.tape, h2.output.trans h1.output, Nat.le_trans h1.size h2.size, fun k hk hne => (h2.block k (Nat.lt_of_lt_of_le hk h1.size) hne).trans (h1.block k hk hne)⟩
/-- A row of one's own, n values long, that is overwritten. -/
def Wreck (a : Ptr) (n : Nat) (w wr : World) : Prop := w.grownBy wr (blk a) ∧ (n = 0 ∨ ∃ g, a = some ⟨g, 0, none⟩ ∧ wr.there g 0 (n * 3))
theorem own_shape {w : World} {B n : Nat} {v : Value} {xs : List Value} (h : w.ownsRow B 79 3 v n xs) : ∃ a cap, v = .slice a n cap ∧ n ≤ cap := by
  rcases h.2 with ⟨hv, h0⟩ | ⟨g, cap, cur, hv, _, _, hc, _⟩
  · exact ⟨none, 0, by rw [hv, h0], by omega⟩
  · exact ⟨_, cap, hv, hc⟩
theorem Wreck.start {w : World} {B n cap : Nat} {a : Ptr} {xs : List Value} (h : w.ownsRow B 79 3 (.slice a n cap) n xs) : Wreck a n w w := by
  refine ⟨grown_reflT w _, ?_⟩
  rcases h.2 with ⟨_, h0⟩ | ⟨g, cc, cur, e, _, hg, hc, _, hs, _⟩
  · exact .inl h0
  · cases e
    refine .inr ⟨g, rfl, fun j hj => ⟨?_, ?_⟩⟩
    · rw [Nat.zero_add, cell_of_row w g j _ _ _ hg]
      have : j < cur.size := by omega
      simp [this]
    · simp [World.frozen?, hg]
theorem Wreck.at {a : Ptr} {n j : Nat} {w wr : World} (h : Wreck a n w wr) (hj : j < n) : ∃ g, a = some ⟨g, 0, none⟩ ∧ wr.there g (j * 3) 3 := by
  rcases h.2 with h0 | ⟨g, e, ht⟩
  · omega
  · exact ⟨g, e, fun i hi => by have := ht (j * 3 + i) (by omega); rwa [Nat.zero_add] at this⟩
theorem Wreck.step {g n : Nat} {w wr : World} (h : Wreck (some ⟨g, 0, none⟩) n w wr) (o : Nat) (vs : List Value) : Wreck (some ⟨g, 0, none⟩) n w (wr.setCells g o vs) :=
  ⟨grown_same h.1 (grown_setCells g vs o wr), h.2.imp id fun ⟨g', e, ht⟩ => ⟨g', e, World.there_setCells ht g o vs⟩⟩
theorem own_lt {w : World} {B n cap : Nat} {a : Ptr} {xs : List Value} (h : w.ownsRow B 79 3 (.slice a n cap) n xs) (b : Nat) (hb : blk a = some b) : B ≤ b ∧ b < w.heap.size := World.ownsRow.lt h b (by rw [own_blk]; exact hb)
theorem wreck_end {W wx w4 w5 w6 : World} {a1 a2 : Ptr} {n1 n2 c1 c2 : Nat} {xs1 xs2 : List Value} (h0 : W.grownBy wx none) (o1 : wx.ownsRow W.heap.size 79 3 (.slice a1 n1 c1) n1 xs1) (o2 : wx.ownsRow W.heap.size 79 3 (.slice a2 n2 c2) n2 xs2)
    (h4 : wx.grownBy w4 none) (h5 : w4.grownBy w5 (blk a1)) (h6 : w5.grownBy w6 (blk a2)) : W.grownBy w6 none ∧ Stays (fun b => b < W.heap.size ∨ wx.heap.size ≤ b) w4 w6 := by
  refine ⟨grown_thenT (grown_thenT (h0.trans h4) h5 (fun j e => (own_lt o1 j e).1)) h6 (fun j e => (own_lt o2 j e).1), Nat.le_trans h5.size h6.size, fun b hb hlt => ?_⟩
  rw [h6.block b (Nat.lt_of_lt_of_le hlt h5.size) (fun e => by have := own_lt o2 b e.symm; omega), h5.block b hlt (fun e => by have := own_lt o1 b e.symm; omega)]
theorem wreck_keep {wx w4 wv : World} {B n1 n2 c1 c2 : Nat} {a1 a2 : Ptr} {xs2 : List Value} (o2 : wx.ownsRow B 79 3 (.slice a2 n2 c2) n2 xs2) (hd : ∀ g, (Value.slice a1 n1 c1).ownBlock = some g → (Value.slice a2 n2 c2).ownBlock ≠ some g) (h4 : wx.grownBy w4 none) (h5 : w4.grownBy wv (blk a1)) : wv.ownsRow B 79 3 (.slice a2 n2 c2) n2 xs2 := by
  refine World.ownsRow.kept (World.ownsRow.kept o2 h4 (by cases (Value.slice a2 n2 c2).ownBlock <;> simp)) h5 ?_
  rw [own_blk]
  cases hb : blk a2 with
  | none => exact .inl rfl
  | some b => exact .inr fun e => hd b (by rw [own_blk]; exact e.symm) (by rw [own_blk]; exact hb)
theorem val_size3 : (Tryz.prog.info? 79).map (·.size) = some 3 := by kernel_rfl
abbrev nine : Array Value := #[.int .i64 9, .int .i64 0, .string ⟨#[]⟩]
theorem nine_one : nine.all (·.oneCell') = true := by simp [nine, Value.oneCell']
end Go.Proofs.YtaggacffjbjchaaGreatDoor
namespace Go.Proofs.YtaggacffjbjchaaGreatDoor
open Go.RowKit

/-- Blocks below B and one more stay; what is there stays there. -/
structure Marred (B : Nat) (g : Option Nat) (w wv : World) : Prop where
  os : wv.os = w.os
  tape : wv.tape = w.tape
  output : wv.output = w.output
  size : w.heap.size ≤ wv.heap.size
  block : ∀ b, b < w.heap.size → (b < B ∨ g = some b) → wv.heap[b]? = w.heap[b]?
  still : ∀ b o n, w.there b o n → wv.there b o n
theorem Marred.refl (B : Nat) (g : Option Nat) (w : World) : Marred B g w w := ⟨rfl, rfl, rfl, Nat.le_refl _, fun _ _ _ => rfl, fun _ _ _ h => h⟩
theorem Marred.step {B : Nat} {g : Option Nat} {w wv : World} (h : Marred B g w wv) {b : Nat} (hB : B ≤ b) (hg : g ≠ some b) (o : Nat) (vs : List Value) : Marred B g w (wv.setCells b o vs) := by
  have hs := grown_setCells b vs o wv
  exact ⟨hs.os.trans h.os, hs.tape.trans h.tape, hs.output.trans h.output, Nat.le_trans h.size hs.size, fun k hk hor => (hs.block k (Nat.lt_of_lt_of_le hk h.size) (fun e => by
    have := Option.some.inj e
    subst this
    rcases hor with h1 | h1
    · omega
    · exact hg h1)).trans (h.block k hk hor), fun b' o' n ht => World.there_setCells (h.still b' o' n ht) b o vs⟩
theorem Marred.grown {g : Option Nat} {w0 w wv : World} (h : Marred w0.heap.size g w wv) (h0 : w0.grownBy w none) : w0.grownBy wv none :=
  ⟨h.os.trans h0.os, h.tape.trans h0.tape, h.output.trans h0.output, Nat.le_trans h0.size h.size, fun k hk _ => (h.block k (Nat.lt_of_lt_of_le hk h0.size) (.inl hk)).trans (h0.block k hk (by simp))⟩
theorem Marred.cell {B b o : Nat} {w wv : World} {v : Value} (h : Marred B (some b) w wv) (hc : w.cell? ⟨b, o, none⟩ = some v) : wv.cell? ⟨b, o, none⟩ = some v :=
  (World.cell?_of_block (a := ⟨b, o, none⟩) (h.block b (World.block_lt_of_cell? w _ hc) (.inr rfl))).trans hc
theorem done_ne {key : List Vl} {t : Tre} {m : List Pw} {N : Nat} {done : List Rw} (he : t.toL = m.map Pw.p) (hne : ∀ x ∈ m, x.r.l.length ≠ 0) (h : done.map Rw.l = ((fromL key t.toL).map Prod.snd).take N) : ∀ x ∈ done, x.l.length ≠ 0 := by
  intro x hx
  have h1 : x.l ∈ done.map Rw.l := List.mem_map_of_mem hx
  rw [h] at h1
  have h2 := List.mem_of_mem_take h1
  rw [List.mem_map] at h2
  obtain ⟨y, hy, e⟩ := h2
  have hy2 : y ∈ t.toL := (List.mem_filter.1 hy).1
  rw [he, List.mem_map] at hy2
  obtain ⟨z, hz, rfl⟩ := hy2
  rw [← e]
  exact hne z hz
theorem rw_there {S : Nat → Prop} {W : World} {x : Rw} (h : RwF S W x) (hne : x.l.length ≠ 0) : ∃ b off, x.a = some ⟨b, off, none⟩ ∧ S b ∧ W.there b off 3 := by
  rcases h.2 with h0 | ⟨b, off, cs, T, e, hs, hlt, hc⟩
  · rw [h0] at hne; simp at hne
  rcases h.1.2.2 with h0 | ⟨b', off', e', _, _, hcell⟩
  · rw [h0] at hne; simp at hne
  rw [e] at e'
  cases e'
  obtain ⟨c0, c1, c2⟩ := hcell 0 (by omega)
  simp only [Nat.zero_mul, Nat.add_zero] at c0 c1 c2
  refine ⟨b, off, e, hs, fun j hj => ⟨?_, by simp [World.frozen?, hc]⟩⟩
  match j, hj with
  | 0, _ => rw [Nat.add_zero, c0]; rfl
  | 1, _ => rw [c1]; rfl
  | 2, _ => rw [c2]; rfl
end Go.Proofs.YtaggacffjbjchaaGreatDoor
namespace Go.Proofs.YtaggacffjbjchaaGreatDoor
open Go.RowKit

set_option maxRecDepth 100000 in
set_option maxHeartbeats 3200000 in
theorem rowsT2_any (S : Nat → Prop) (t : Tre) (p : Ptr) (w : World) (ht : TrAt S w t p) (hs : Tr.Sorted rowsOrd t.toL) (hn : t.n ≤ 100000000) :
    Calls Tryz.prog 46 #[.pointer p] w fun e w' => (∃ (vo : Value) (done : List Rw), e = .returned vo ∧ w'.ownsRow w.heap.size 67 1 vo done.length (done.map Rw.v) ∧ (∀ x ∈ done, RwF (fun b => w.heap.size ≤ b ∧ vo.ownBlock ≠ some b) w' x) ∧ done.map Rw.l = t.toL.map Prod.snd) ∧ w.grownBy w' none := by
  have HL := Lib.hid (len_any S t p w ht)
  have HF := Lib.hid (from2_any ro_ord S t p none 0 [] (t.n : Nat) w ht hs hn ⟨by simp, by simp, .inl rfl⟩ (by simp))
  have e : ((fromL [] t.toL).map Prod.snd).take ((t.n : Nat) : Int).toNat = t.toL.map Prod.snd := by
    rw [from_nil, List.take_of_length_le]
    rw [List.length_map, Int.toNat_natCast, Tr.n_toL]
    exact Nat.le_refl _
  rw [e] at HF
  simp only [List.length_nil] at HF
  clear ht hs e
  generalize t.n = n at *
  go_enter Tryz.func46, Tryz.ntmps46
  go_wp2_with fail
  refine HL.out.mono ?_
  rintro e w1 ⟨rfl, rfl⟩
  go_wp2_with fail
  refine HF.out.mono ?_
  rintro e w2 ⟨⟨vo, done, rfl, h1, h2, h3⟩, hg⟩
  have D := Lib.hid (And.intro h1 (And.intro h2 (And.intro h3 hg)))
  obtain ⟨ao, cap, hvo⟩ := own_slice h1
  clear h1 h2 h3 hg
  subst hvo
  go_wp2_with fail
  go_ret
  exact ⟨⟨_, done, rfl, D.out.1, D.out.2.1, D.out.2.2.1⟩, D.out.2.2.2⟩
/-- A slice of rows that may be overwritten, in S. -/
def Rs2 (S : Nat → Prop) (w : World) (a : Ptr) (l : List Rw) : Prop :=
  l.length ≤ 1000000000 ∧ (∀ y ∈ l, RwF (fun b => S b ∧ blk a ≠ some b) w y) ∧ (l = [] ∨ ∃ b, a = some ⟨b, 0, none⟩ ∧ S b ∧ b < w.heap.size ∧ ∀ i, i < l.length → w.cell? ⟨b, i, none⟩ = some (l.getD i default).v)
theorem Rs2.keep {S : Nat → Prop} {w w' : World} {a : Ptr} {l : List Rw} (h : Rs2 S w a l) (hk : Stays S w w') : Rs2 S w' a l :=
  ⟨h.1, fun y hy => (h.2.1 y hy).keep ⟨hk.1, fun b hb => hk.2 b hb.1⟩, h.2.2.imp id fun ⟨b, e, hs, hlt, hc⟩ => ⟨b, e, hs, Nat.lt_of_lt_of_le hlt hk.1, fun i hi => (World.cell?_of_block (a := ⟨b, _, none⟩) (hk.2 b hs hlt)).trans (hc i hi)⟩⟩
theorem Rs2.mono {S S' : Nat → Prop} {w : World} {a : Ptr} {l : List Rw} (h : Rs2 S w a l) (hs : ∀ b, b < w.heap.size → S b → S' b) : Rs2 S' w a l :=
  ⟨h.1, fun y hy => (h.2.1 y hy).mono (fun b hb hS => ⟨hs b hb hS.1, hS.2⟩), h.2.2.imp id fun ⟨b, e, h1, h2, hc⟩ => ⟨b, e, hs b h2 h1, h2, hc⟩⟩
theorem Rs2.rs {S : Nat → Prop} {w : World} {a : Ptr} {l : List Rw} (h : Rs2 S w a l) : RsAt w a l :=
  ⟨h.1, fun y hy => (h.2.1 y hy).1.row, h.2.2.imp id fun ⟨b, e, _, hlt, hc⟩ => ⟨b, 0, e, hlt, fun i hi => by rw [Nat.zero_add]; exact hc i hi⟩⟩
open Classical in
noncomputable def rowsU (tr : Nat → Tre) (ts : List Tb) (M : ByteArray) : List (List Vl) := match tabI ts M with | none => [] | some k => (tr k).toL.map Prod.snd
set_option maxRecDepth 100000 in
set_option maxHeartbeats 3200000 in
theorem rowsP2_any (S : Nat → Prop) (p : Nat) (ca : Ptr) (cc : Nat) (ts : List Tb) (x : Sn) (M : ByteArray) (w : World) (h : Snp S w p ca cc ts x) (h6 : ts.length ≤ 6) (ht : TrsOk x.tr 200) :
    Calls Tryz.prog 19 #[.pointer (some ⟨p, 0, none⟩), .string M] w fun e w' => (∃ (a : Ptr) (cp m : Nat) (c : Int), e = .returned (.tuple #[.slice a m cp, .int .i64 c]) ∧ m ≤ cp ∧ m ≤ 1000 ∧ Hid (∃ done : List Rw, done.length = m ∧ Rs2 (fun b => w.heap.size ≤ b) w' a done ∧ done.map Rw.l = rowsU x.tr ts M)) ∧ w.grownBy w' none := by
  have c0 := cell_of_row _ _ 0 _ _ _ h.blk
  simp at c0
  have HN := Lib.hid (number_any S p ca cc ts M w h.cat c0)
  have HS := Lib.hid h
  have H6 := Lib.hid h6
  have HT := Lib.hid ht
  clear h c0 h6 ht
  go_enter Tryz.func19, Tryz.ntmps19
  go_wp2_with fail
  refine HN.out.mono ?_
  rintro e w2 ⟨⟨r, rfl, hr⟩, hg2⟩
  have HR := Lib.hid hr
  rcases hr with ⟨rfl, _⟩ | ⟨k, rfl, hk, _⟩
  · go_wp2_with fail
    refine bodyPost_ret (v := .tuple #[.slice none 0 0, .int .i64 14]) (by simp [results, Tryz.results19, go_sem]) rfl ?_
    refine ⟨⟨none, 0, 0, 14, rfl, Nat.le_refl _, by omega, Lib.hid ⟨[], rfl, ⟨by simp, by simp, .inl rfl⟩, ?_⟩⟩, hg2⟩
    unfold rowsU
    rcases HR.out.tabI with ⟨_, e⟩ | ⟨_, e, _⟩
    · rw [e]; rfl
    · omega
  · have hk6 : k < 6 := by have := H6.out; omega
    have hkk : ¬ (k : Int) < 0 := by omega
    have hk7 : (k : Int) < 6 := by omega
    have ck := hg2.cell (HS.out.tree hk6) (by simp)
    have HL := Lib.hid (rowsT2_any S (x.tr k) (x.ps k) w2 ((HS.out.tre k hk6).keep (.of hg2)) (HT.out k hk6).2.1 (by have := (HT.out k hk6).2.2; omega))
    have G2 := Lib.hid hg2
    clear hg2 hk
    go_wp2_with fail
    refine HL.out.mono ?_
    rintro e w3 ⟨⟨vo, done, rfl, h1, h2, h3⟩, hg3⟩
    go_wp2_with fail
    have hs := G2.out.size
    have hm : done.length ≤ 200 := by
      have e := congrArg List.length h3
      rw [List.length_map, List.length_map, ← Tr.n_toL] at e
      rw [e]; exact (HT.out k hk6).2.2
    have hU : done.map Rw.l = rowsU x.tr ts M := by
      unfold rowsU
      rcases HR.out.tabI with ⟨e, _⟩ | ⟨i, e, _, e2⟩
      · omega
      · obtain rfl : k = i := by omega
        rw [e2]; exact h3
    have key : ∃ (a : Ptr) (cp : Nat), vo = .slice a done.length cp ∧ done.length ≤ cp ∧ Rs2 (fun b => w.heap.size ≤ b) w3 a done := by
      rcases h1.2 with ⟨hv, h0⟩ | ⟨g, cap, cur, hv, hb, hg, hc, _⟩
      · have hd : done = [] := List.eq_nil_of_length_eq_zero h0
        subst hd
        exact ⟨none, 0, hv, Nat.le_refl _, by simp, by simp, .inl rfl⟩
      · have hlt := (h1.lt g (by rw [hv]; rfl)).2
        refine ⟨some ⟨g, 0, none⟩, cap, hv, hc, by omega, fun y hy => (h2 y hy).mono (fun b _ hb' => ⟨Nat.le_trans hs hb'.1, fun e => hb'.2 (by rw [hv]; exact e)⟩), .inr ⟨g, rfl, Nat.le_trans hs hb, hlt, fun i hi => ?_⟩⟩
        have cc := h1.cells (g := g) (by rw [hv]; rfl) i (done.getD i default).v (by simp [List.getD, hi])
        rw [add_atT, Nat.zero_add] at cc
        exact cc
    obtain ⟨a, cp, rfl, hcp, hrs⟩ := key
    refine bodyPost_ret (v := .tuple #[.slice a done.length cp, .int .i64 0]) (by simp [results, Tryz.results19, go_sem]) rfl ?_
    exact ⟨⟨a, cp, done.length, 0, rfl, hcp, by omega, Lib.hid ⟨done, rfl, hrs, hU⟩⟩, G2.out.trans hg3⟩
end Go.Proofs.YtaggacffjbjchaaGreatDoor
namespace Go.Proofs.YtaggacffjbjchaaGreatDoor
open Go.RowKit

structure Rv where
  a : Ptr
  cap : Nat
  l : List Rw
instance : Inhabited Rv := ⟨⟨none, 0, []⟩⟩
def Rv.v (x : Rv) : Value := .slice x.a x.l.length x.cap
def Was (B : Nat) (w : World) (a : Ptr) (cap : Nat) (ws : List Rv) : Prop :=
  w.ownsRow B 54 1 (.slice a ws.length cap) ws.length (ws.map Rv.v) ∧ ∀ x ∈ ws, Rs2 (fun b => B ≤ b ∧ blk a ≠ some b) w x.a x.l ∧ x.l.length ≤ x.cap
theorem Was.nil (B : Nat) (w : World) : Was B w none 0 [] := ⟨World.ownsRow_nil _ _ _ _, by simp⟩
theorem Was.keepG {B : Nat} {w w' : World} {a : Ptr} {cap : Nat} {ws : List Rv} (h : Was B w a cap ws) (hg : w.grownBy w' none) : Was B w' a cap ws :=
  ⟨World.ownsRow.kept h.1 hg (by cases (Value.slice a ws.length cap).ownBlock <;> simp), fun x hx => ⟨(h.2 x hx).1.keep (.of hg), (h.2 x hx).2⟩⟩
theorem Was.lt {B : Nat} {w : World} {a : Ptr} {cap : Nat} {ws : List Rv} (h : Was B w a cap ws) {g : Nat} (hg : blk a = some g) : B ≤ g ∧ g < w.heap.size := World.ownsRow.lt h.1 g (by rw [own_blk]; exact hg)
theorem Was.app {B : Nat} {w w1 w2 : World} {a : Ptr} {cap g cp : Nat} {ws : List Rv} {x : Rv} {o : Obj} (h : Was B w a cap ws) (hB : B ≤ w.heap.size) (hg : w.grownBy w1 none) (hx : Rs2 (fun b => w.heap.size ≤ b) w1 x.a x.l) (hxc : x.l.length ≤ x.cap)
    (hown : w2.ownsRow B 54 1 (.slice (some ⟨g, 0, none⟩) (ws.length + 1) cp) (ws.length + 1) (ws.map Rv.v ++ [x.v])) (hgr : (w1.alloc o).grownBy w2 (Value.slice a ws.length cap).ownBlock) (hat : (Value.slice a ws.length cap).ownBlock = some g ∨ g = (w1.alloc o).heap.size) : Was B w2 (some ⟨g, 0, none⟩) cp (ws ++ [x]) := by
  rw [own_blk] at hgr hat
  have s1 := hg.size
  have sz : (w1.alloc o).heap.size = w1.heap.size + 1 := by simp
  have g1 := hg.trans (World.grownBy_alloc w1 o none)
  refine ⟨by rw [List.length_append, List.length_singleton, List.map_append]; exact hown, fun y hy => ?_⟩
  have hst : Stays (fun b => blk a ≠ some b ∧ b < w1.heap.size) w1 w2 := by
    refine ⟨by have := hgr.size; omega, fun b hb hlt => ?_⟩
    exact (hgr.block b (by omega) (Ne.symm hb.1)).trans ((World.grownBy_alloc w1 o none).block b hlt (by simp))
  rcases List.mem_append.1 hy with hy | hy
  · obtain ⟨h1, h2⟩ := h.2 y hy
    have h3 := (h1.mono (S' := fun b => (B ≤ b ∧ blk a ≠ some b) ∧ b < w.heap.size) (fun b hb hS => ⟨hS, hb⟩)).keep (.of hg)
    have h4 := (h3.keep (w' := w2) ⟨hst.1, fun b hb hlt => hst.2 b ⟨hb.1.2, hlt⟩ hlt⟩)
    refine ⟨h4.mono (fun b _ hS => ⟨hS.1.1, fun e => ?_⟩), h2⟩
    have e' : g = b := by simpa [blk] using e
    rcases hat with e2 | e2
    · exact hS.1.2 (by rw [e2, e'])
    · omega
  · obtain rfl : y = x := by simpa using hy
    have hne : ∀ b, w.heap.size ≤ b → blk a ≠ some b := fun b hb e => by have := (h.lt e).2; omega
    have h3 := (hx.mono (S' := fun b => w.heap.size ≤ b ∧ b < w1.heap.size) (fun b hb hS => ⟨hS, hb⟩))
    have h4 := (h3.keep (w' := w2) ⟨hst.1, fun b hb hlt => hst.2 b ⟨hne b hb.1, hlt⟩ hlt⟩)
    refine ⟨h4.mono (fun b _ hS => ⟨by omega, fun e => ?_⟩), hxc⟩
    have e' : g = b := by simpa [blk] using e
    rcases hat with e2 | e2
    · exact hne b hS.1 (by rw [e2, e'])
    · omega
def WaS (S : Nat → Prop) (w : World) (a : Ptr) (ws : List Rv) : Prop :=
  (∀ x ∈ ws, Rs2 S w x.a x.l ∧ x.l.length ≤ x.cap) ∧ (ws = [] ∨ ∃ g, a = some ⟨g, 0, none⟩ ∧ S g ∧ g < w.heap.size ∧ ∀ i, i < ws.length → w.cell? ⟨g, i, none⟩ = some (ws.getD i default).v)
theorem WaS.keep {S : Nat → Prop} {w w' : World} {a : Ptr} {l : List Rv} (h : WaS S w a l) (hk : Stays S w w') : WaS S w' a l :=
  ⟨fun x hx => ⟨(h.1 x hx).1.keep hk, (h.1 x hx).2⟩, h.2.imp id fun ⟨b, e, hs, hlt, hc⟩ => ⟨b, e, hs, Nat.lt_of_lt_of_le hlt hk.1, fun i hi => (World.cell?_of_block (a := ⟨b, _, none⟩) (hk.2 b hs hlt)).trans (hc i hi)⟩⟩
theorem WaS.mono {S S' : Nat → Prop} {w : World} {a : Ptr} {l : List Rv} (h : WaS S w a l) (hs : ∀ b, b < w.heap.size → S b → S' b) : WaS S' w a l :=
  ⟨fun x hx => ⟨(h.1 x hx).1.mono hs, (h.1 x hx).2⟩, h.2.imp id fun ⟨b, e, h1, h2, hc⟩ => ⟨b, e, hs b h2 h1, h2, hc⟩⟩
theorem Was.wa {B : Nat} {w : World} {a : Ptr} {cap : Nat} {ws : List Rv} (h : Was B w a cap ws) : WaS (fun b => B ≤ b) w a ws ∧ ws.length ≤ cap := by
  refine ⟨⟨fun x hx => ⟨(h.2 x hx).1.mono (fun b _ hb => hb.1), (h.2 x hx).2⟩, ?_⟩, ?_⟩
  · rcases h.1.2 with ⟨_, h0⟩ | ⟨g, cp, cur, hv, hb, hg, hc, _⟩
    · exact .inl (List.eq_nil_of_length_eq_zero h0)
    · have hlt := (h.1.lt g (by rw [hv]; rfl)).2
      have ha : a = some ⟨g, 0, none⟩ := by cases hv; rfl
      refine .inr ⟨g, ha, hb, hlt, fun i hi => ?_⟩
      have cc := h.1.cells (g := g) (by rw [hv]; rfl) i (ws.getD i default).v (by simp [List.getD, hi])
      rw [add_atT, Nat.zero_add] at cc
      exact cc
  · rcases h.1.2 with ⟨hv, h0⟩ | ⟨g, cp, cur, hv, hb, hg, hc, _⟩
    · omega
    · cases hv; exact hc
/-- What a store leaves. -/
theorem Apart9.wa {s s' : Stm} {w w' : World} {a : Ptr} {ws : List Rv} (h : Apart9 s s' w w') (hw : WaS (fun b => ¬ s.M b) w a ws) : WaS (fun b => ¬ s'.M b) w' a ws :=
  ((hw.mono (fun b hb hm => (⟨hm, hb⟩ : ¬ s.M b ∧ b < w.heap.size))).keep h.stays).mono (fun b _ hb => (h.2 b hb.2 hb.1).1)
theorem rw_thereQ {S : Nat → Prop} {W : World} {x : Rw} {q : Nat} (h : RwF S W x) (hq : q < x.l.length) : ∃ b off, x.a = some ⟨b, off, none⟩ ∧ S b ∧ W.there b (off + q * 3) 3 := by
  rcases h.2 with h0 | ⟨b, off, cs, T, e, hs, hlt, hc⟩
  · rw [h0] at hq; simp at hq
  rcases h.1.2.2 with h0 | ⟨b', off', e', _, _, hcell⟩
  · rw [h0] at hq; simp at hq
  rw [e] at e'
  cases e'
  obtain ⟨c0, c1, c2⟩ := hcell q hq
  refine ⟨b, off, e, hs, fun j hj => ⟨?_, by simp [World.frozen?, hc]⟩⟩
  match j, hj with
  | 0, _ => rw [Nat.add_zero, c0]; rfl
  | 1, _ => rw [c1]; rfl
  | 2, _ => rw [c2]; rfl
theorem info_partsG {o : Option TypeInfo} {z : Value} {s b : Nat} (h : o.map (fun i => (i.zero, i.size, i.bytes)) = some (some z, s, b)) : ∃ i, o = some i ∧ i.zero = some z ∧ i.size = s ∧ i.bytes = b := by
  obtain ⟨i, hi, hzz⟩ := Option.map_eq_some_iff.1 h
  simp only [Prod.mk.injEq] at hzz
  exact ⟨i, hi, hzz.1, hzz.2.1, hzz.2.2⟩
theorem rows_info : (Tryz.prog.info? 54).map (fun i => (i.zero, i.size, i.bytes)) = some (some (.slice none 0 0), 1, 24) := by kernel_rfl
end Go.Proofs.YtaggacffjbjchaaGreatDoor
namespace Go.Proofs.YtaggacffjbjchaaGreatDoor
open Go.RowKit

def sinceC (s : Stm) (v : Int) : Int := if v < s.v - s.cs.length then 25 else 0
def sinceL (s : Stm) (v : Int) : List (Int × List (ByteArray × List Vl × List Vl)) := if v < s.v - s.cs.length then [] else (s.cs.drop (s.cs.length - (s.v - v).toNat)).map Cm.p
theorem sinceX_any (B : Nat) (s : Stm) (w : World) (v : Int) (h : SAt B w s) (hv : v ≤ s.v) :
    Calls Tryz.prog 20 #[.pointer (some ⟨s.b, 0, none⟩), .int .i64 v] w fun e w' => (∃ (a : Ptr) (m co : Nat), e = .returned (.tuple #[.slice a m co, .int .i64 (sinceC s v)]) ∧ Hid (∃ cs' : List Cm, cs'.length = m ∧ m ≤ co ∧ CmS (fun b => w.heap.size ≤ b) w' a cs' ∧ cs'.map Cm.p = sinceL s v)) ∧ w.grownBy w' none := by
  have h0 := h.v0
  have h1 := h.v1
  have hf := h.few
  refine sinceS_any B s w v _ h ?_
  by_cases hg : v < s.v - s.cs.length
  · refine (sinceJ_gone s.R s.J w 32 s.v v s.ja s.jc s.cs h.jou h0 (by omega) (by omega) hg).mono ?_
    rintro e w' ⟨rfl, hg'⟩
    have e1 : sinceC s v = 25 := by unfold sinceC; rw [if_pos hg]
    exact ⟨_, _, rfl, ⟨none, 0, 0, by rw [e1], Lib.hid ⟨[], rfl, Nat.le_refl _, ⟨by simp, by simp, .inl rfl⟩, by unfold sinceL; rw [if_pos hg]; rfl⟩⟩, hg'⟩
  · refine (sinceJ_any s.R s.J w 32 s.v v s.ja s.jc s.cs (s.v - v).toNat h.jou h0 (by omega) (by omega) (by omega) (by omega)).mono ?_
    rintro e w' ⟨⟨ao, co, cs', rfl, h2, h3, h4, h5⟩, hg'⟩
    have e1 : sinceC s v = 0 := by unfold sinceC; rw [if_neg hg]
    exact ⟨_, _, rfl, ⟨ao, _, co, by rw [e1], Lib.hid ⟨cs', h2, h3, h4, by unfold sinceL; rw [if_neg hg]; exact h5⟩⟩, hg'⟩
theorem commitM_no {ts : List Tb} {tr : Nat → Tre} {l : List Om} {c : Int} (h : commitM ts tr l = .error c) : (c == 0) = false := by
  have hd : ∀ s o c, doM ts s o = .error c → c = 1 ∨ c = 14 ∨ c = 20 ∨ c = 21 ∨ c = 22 := fun s o c h => by
    unfold doM at h
    split at h
    · next c' hc =>
      have e : c' = c := by cases h; rfl
      subst e
      unfold claimM at hc
      split at hc
      · cases hc; simp
      · split at hc
        · cases hc; simp
        · split at hc
          · cases hc; simp
          · split at hc
            · cases hc; simp
            · cases hc
    · split at h
      · split at h
        · cases h; simp
        · cases h
      · split at h
        · cases h
        · split at h <;> cases h
  have ho : ∀ l s c, opsM ts s l = .error c → c = 1 ∨ c = 14 ∨ c = 20 ∨ c = 21 ∨ c = 22 := by
    intro l
    induction l with
    | nil => intro s c h; simp [opsM] at h
    | cons o l ih =>
      intro s c h
      simp only [opsM] at h
      cases hs : doM ts s o with
      | error c2 =>
        rw [hs] at h
        have e : c2 = c := by cases h; rfl
        subst e
        exact hd s o _ hs
      | ok s' => rw [hs] at h; exact ih s' c h
  unfold commitM at h
  split at h
  · cases h; rfl
  · split at h
    · cases h; rfl
    · cases hs : opsM ts ⟨tr, [], []⟩ l with
      | error c2 =>
        rw [hs] at h
        have e : c2 = c := by cases h; rfl
        subst e
        rcases ho l _ _ hs with rfl | rfl | rfl | rfl | rfl <;> rfl
      | ok s' =>
        rw [hs] at h
        simp only at h
        split at h
        · cases h; rfl
        · cases h
end Go.Proofs.YtaggacffjbjchaaGreatDoor
namespace Go.Proofs.YtaggacffjbjchaaGreatDoor
open Go.ChangeShapes Go.WideShapes Go.ChangeAt Go.RowKit Go.Joins Go.Deep

theorem addS_plain (b o k : Nat) : (⟨b, o, none⟩ : Addr).add k = ⟨b, o + k, none⟩ := by
  unfold Addr.add
  by_cases h : k = 0
  · subst h; simp
  · simp [h]
theorem blockS_of_cell {w : World} {b o : Nat} {v : Value} (h : w.cell? ⟨b, o, none⟩ = some v) : b < w.heap.size := by
  rcases Nat.lt_or_ge b w.heap.size with h' | h'
  · exact h'
  · simp [World.cell?, Array.getElem?_eq_none h'] at h
theorem cellS_plain {W : World} {a : Addr} {v : Value} (h : W.cell? (a.add 0) = some v) : a = ⟨a.block, a.off, none⟩ := by
  obtain ⟨b, off, spot⟩ := a
  have : spot = none := by simpa [Addr.add] using World.cell?_spot h
  subst this
  rfl
section
variable {H : Type} {enc : TypeId × Value → H}

set_option maxRecDepth 100000 in
theorem valueS_cells {W : World} {base n : Nat} {spare : Nat → Bool} {held : Bool} {cs : List Value} {y : DataW H × List MemPlace} (ht : DataW.trod enc Tryz.prog W base spare held n 79 cs = some y) (hcl : cs.length = 3) :
    ∃ x : Vv, cs = [.int .i64 x.k, .int .i64 x.n, .string x.s] ∧ x.s.size ≤ maxLen := by
  obtain ⟨c0, c1, c2, rfl⟩ : ∃ c0 c1 c2, cs = [c0, c1, c2] := by
    match cs, hcl with
    | [c0, c1, c2], _ => exact ⟨c0, c1, c2, rfl⟩
  obtain ⟨y0, y1, y2, m, _, _, h0, h1, h2⟩ := trod_struct3 Tryz.underlying79 ht
  have k0 : Tryz.prog.cellsOf 77 = 1 := by kernel_rfl
  have k1 : Tryz.prog.cellsOf 3 = 1 := by kernel_rfl
  have k2 : Tryz.prog.cellsOf 9 = 1 := by kernel_rfl
  simp only [k0, k1, k2, List.drop_zero, List.drop_succ_cons, List.take_succ_cons, List.take_zero] at h0 h1 h2
  obtain ⟨k, e0, _, _⟩ := DataW.trod_int Tryz.underlying77 h0
  obtain ⟨n, e1, _, wn⟩ := DataW.trod_int Tryz.underlying3 h1
  obtain ⟨s, e2, _, hs⟩ := DataW.trod_string Tryz.underlying9 h2
  simp only [List.cons.injEq, and_true] at e0 e1 e2
  subst e0 e1 e2
  exact ⟨⟨k, n, s⟩, rfl, hs⟩
set_option maxRecDepth 100000 in
theorem colS_cells {W : World} {base n : Nat} {spare : Nat → Bool} {held : Bool} {cs : List Value} {y : DataW H × List MemPlace} (ht : DataW.trod enc Tryz.prog W base spare held n 127 cs = some y) (hcl : cs.length = 3) :
    ∃ x : Cl, cs = [.string x.n, .int .i64 x.k, .bool x.b] ∧ x.n.size ≤ maxLen := by
  obtain ⟨c0, c1, c2, rfl⟩ : ∃ c0 c1 c2, cs = [c0, c1, c2] := by
    match cs, hcl with
    | [c0, c1, c2], _ => exact ⟨c0, c1, c2, rfl⟩
  obtain ⟨y0, y1, y2, m, _, _, h0, h1, h2⟩ := trod_struct3 Tryz.underlying127 ht
  have k0 : Tryz.prog.cellsOf 77 = 1 := by kernel_rfl
  have k1 : Tryz.prog.cellsOf 4 = 1 := by kernel_rfl
  have k2 : Tryz.prog.cellsOf 9 = 1 := by kernel_rfl
  simp only [k0, k1, k2, List.drop_zero, List.drop_succ_cons, List.take_succ_cons, List.take_zero] at h0 h1 h2
  obtain ⟨s, e0, _, hs⟩ := DataW.trod_string Tryz.underlying9 h0
  obtain ⟨k, e1, _, _⟩ := DataW.trod_int Tryz.underlying77 h1
  obtain ⟨b, e2, _⟩ := DataW.trod_bool Tryz.underlying4 h2
  simp only [List.cons.injEq, and_true] at e0 e1 e2
  subst e0 e1 e2
  exact ⟨⟨s, k, b⟩, rfl, hs⟩
theorem cellsS_value : Tryz.prog.cellsOf 79 = 3 := by kernel_rfl
theorem cellsS_col : Tryz.prog.cellsOf 127 = 3 := by kernel_rfl
set_option maxRecDepth 100000 in
theorem rowS_cells {W : World} {fuel : Nat} {cs : List Value} {y : DataW H × List MemPlace} (hf : DataW.trod enc Tryz.prog W 0 (fun _ => true) true fuel 67 cs = some y) :
    ∃ (a : Option Addr) (cap : Nat) (l : List Vv), cs = [.slice a l.length cap] ∧ VvAt W.heap.size W a l ∧ l.length ≤ cap := by
  rcases open_slice Tryz.underlying67 hf with ⟨hcs, _⟩ | ⟨x, len, cap', m, n, D, Pl, hcs, _, hl, hm, hmm, _, hi⟩
  · exact ⟨none, 0, [], hcs, ⟨by simp, .inl rfl⟩, Nat.le_refl _⟩
  · simp only [if_true] at hmm
    subst hmm
    have hx : ∀ i, i < len → ∃ x' : Vv, W.cell? ((x.add (i * Tryz.prog.cellsOf 79)).add 0) = some (.int .i64 x'.k) ∧ W.cell? ((x.add (i * Tryz.prog.cellsOf 79)).add 1) = some (.int .i64 x'.n) ∧ W.cell? ((x.add (i * Tryz.prog.cellsOf 79)).add 2) = some (.string x'.s) := fun i hilt => by
      obtain ⟨cs', hc, ht⟩ := hi i (by omega)
      obtain ⟨_, hcl, hat⟩ := World.cells?_some hc
      obtain ⟨x', e, _⟩ := valueS_cells ht (hcl.trans cellsS_value)
      subst e
      exact ⟨x', hat 0 (by rw [cellsS_value]; decide), hat 1 (by rw [cellsS_value]; decide), hat 2 (by rw [cellsS_value]; decide)⟩
    obtain ⟨f, hfun⟩ := choose_lt hx
    rw [cellsS_value] at hfun
    have hlen : ((List.range len).map f).length = len := by simp
    have hget : ∀ i, i < len → ((List.range len).map f).getD i default = f i := fun i hilt => by simp [List.getD, hilt]
    refine ⟨some x, m, (List.range len).map f, by rw [hlen]; exact hcs, ⟨by rw [hlen]; unfold maxLen at hm; omega, ?_⟩, by rw [hlen]; exact hl⟩
    by_cases h0 : len = 0
    · left; subst h0; rfl
    · right
      have hp : x = ⟨x.block, x.off, none⟩ := cellS_plain (W := W) (v := .int .i64 (f 0).k) (by have := (hfun 0 (by omega)).1; simpa [Addr.add] using this)
      have hc0 := (hfun 0 (by omega)).1
      rw [hp] at hc0
      refine ⟨x.block, x.off, by rw [← hp], blockS_of_cell hc0, fun i hilt => ?_⟩
      rw [hlen] at hilt
      rw [hget i hilt]
      have := hfun i hilt
      rw [hp] at this
      simpa only [addS_plain, Nat.add_zero] using this
set_option maxRecDepth 100000 in
theorem colsS_cells {W : World} {fuel : Nat} {cs : List Value} {y : DataW H × List MemPlace} (hf : DataW.trod enc Tryz.prog W 0 (fun _ => true) true fuel 36 cs = some y) :
    ∃ (a : Option Addr) (cap : Nat) (l : List Cl), cs = [.slice a l.length cap] ∧ ColsAt W.heap.size W a l ∧ l.length ≤ cap ∧ ∀ i, i < l.length → (l.getD i default).n.size ≤ 9223372036854775807 := by
  rcases open_slice Tryz.underlying36 hf with ⟨hcs, _⟩ | ⟨x, len, cap', m, n, D, Pl, hcs, _, hl, hm, hmm, _, hi⟩
  · exact ⟨none, 0, [], hcs, ⟨by simp, .inl rfl⟩, Nat.le_refl _, fun i hi => by simp at hi⟩
  · simp only [if_true] at hmm
    subst hmm
    have hx : ∀ i, i < len → ∃ x' : Cl, x'.n.size ≤ maxLen ∧ W.cell? ((x.add (i * Tryz.prog.cellsOf 127)).add 0) = some (.string x'.n) ∧ W.cell? ((x.add (i * Tryz.prog.cellsOf 127)).add 1) = some (.int .i64 x'.k) ∧ W.cell? ((x.add (i * Tryz.prog.cellsOf 127)).add 2) = some (.bool x'.b) := fun i hilt => by
      obtain ⟨cs', hc, ht⟩ := hi i (by omega)
      obtain ⟨_, hcl, hat⟩ := World.cells?_some hc
      obtain ⟨x', e, hs⟩ := colS_cells ht (hcl.trans cellsS_col)
      subst e
      exact ⟨x', hs, hat 0 (by rw [cellsS_col]; decide), hat 1 (by rw [cellsS_col]; decide), hat 2 (by rw [cellsS_col]; decide)⟩
    obtain ⟨f, hfun⟩ := choose_lt hx
    rw [cellsS_col] at hfun
    have hlen : ((List.range len).map f).length = len := by simp
    have hget : ∀ i, i < len → ((List.range len).map f).getD i default = f i := fun i hilt => by simp [List.getD, hilt]
    refine ⟨some x, m, (List.range len).map f, by rw [hlen]; exact hcs, ⟨by rw [hlen]; unfold maxLen at hm; omega, ?_⟩, by rw [hlen]; exact hl, fun i hi => ?_⟩
    · by_cases h0 : len = 0
      · left; subst h0; rfl
      · right
        have hp : x = ⟨x.block, x.off, none⟩ := cellS_plain (W := W) (v := .string (f 0).n) (by have := (hfun 0 (by omega)).2.1; simpa [Addr.add] using this)
        have hc0 := (hfun 0 (by omega)).2.1
        rw [hp] at hc0
        refine ⟨x.block, x.off, by rw [← hp], blockS_of_cell hc0, fun i hilt => ?_⟩
        rw [hlen] at hilt
        rw [hget i hilt]
        have := (hfun i hilt).2
        rw [hp] at this
        simpa only [addS_plain, Nat.add_zero] using this
    · rw [hlen] at hi
      rw [hget i hi]
      have := (hfun i hi).1
      unfold maxLen at this
      omega
set_option maxRecDepth 100000 in
theorem open_row6 {W : World} {b0 : Nat} {v : Value} {d : DataW H} {p : List MemPlace} (hv : Value.okWide Tryz.prog W .any b0 67 v) (h : DataW.Trod enc Tryz.prog W 0 (fun _ => true) true 67 v d p) :
    ∃ (a : Option Addr) (cap : Nat) (l : List Vv), v = .slice a l.length cap ∧ VvAt W.heap.size W a l ∧ l.length ≤ cap := by
  obtain ⟨a, len, cap, rfl⟩ := okWide_slice Tryz.underlying67 hv
  obtain ⟨fuel, hf⟩ := h
  obtain ⟨a', cap', l, e, hr⟩ := rowS_cells hf
  simp only [Value.cells, List.cons.injEq, and_true] at e
  exact ⟨a', cap', l, e, hr⟩
set_option maxRecDepth 100000 in
theorem open_table6 {W : World} {b0 : Nat} {v : Value} {d : DataW H} {p : List MemPlace} (hv : Value.okWide Tryz.prog W .any b0 38 v) (h : DataW.Trod enc Tryz.prog W 0 (fun _ => true) true 38 v d p) :
    ∃ (N : ByteArray) (a : Option Addr) (cap : Nat) (l : List Cl) (K : Int), v = .agg #[.string N, .slice a l.length cap, .int .i64 K] ∧ N.size ≤ 9223372036854775807 ∧ ColsAt W.heap.size W a l ∧ l.length ≤ cap ∧ ∀ i, i < l.length → (l.getD i default).n.size ≤ 9223372036854775807 := by
  obtain ⟨c0, c1, c2, y0, y1, y2, m, rfl, rfl, rfl, hy0, hy1, hy2⟩ := open_agg3 Tryz.underlying38 (by kernel_rfl) (by kernel_rfl) hv h
  obtain ⟨s, e0, _, hs⟩ := DataW.trod_string Tryz.underlying9 hy0
  obtain ⟨a, cap, l, e1, hc⟩ := colsS_cells hy1
  obtain ⟨n, e2, _, wn⟩ := DataW.trod_int Tryz.underlying3 hy2
  simp only [List.cons.injEq, and_true] at e0 e1 e2
  subst e0 e1 e2
  exact ⟨s, a, cap, l, n, rfl, by unfold maxLen at hs; omega, hc⟩
end
end Go.Proofs.YtaggacffjbjchaaGreatDoor
namespace Go.Proofs.YtaggacffjbjchaaGreatDoor
open Go.ChangeShapes Go.WideShapes Go.ChangeAt Go.RowKit Go.Joins Go.Deep

section
variable {H : Type} {enc : TypeId × Value → H}
theorem cellsG_table : Tryz.prog.cellsOf 38 = 3 := by kernel_rfl
theorem cellsG_op : Tryz.prog.cellsOf 82 = 3 := by kernel_rfl
theorem cellsG_row : Tryz.prog.cellsOf 67 = 1 := by kernel_rfl
theorem cellsG_value : Tryz.prog.cellsOf 79 = 3 := by kernel_rfl
theorem cellsG_ops : Tryz.prog.cellsOf 44 = 1 := by kernel_rfl
theorem cellsG_cols : Tryz.prog.cellsOf 36 = 1 := by kernel_rfl
set_option maxRecDepth 100000 in
theorem valueG_cells {W : World} {base n : Nat} {spare : Nat → Bool} {held : Bool} {cs : List Value} {y : DataW H × List MemPlace} (ht : DataW.trod enc Tryz.prog W base spare held n 79 cs = some y) (hcl : cs.length = 3) :
    ∃ x : Vl, cs = [.int .i64 x.k, .int .i64 x.n, .string x.s] ∧ x.s.size ≤ maxLen := by
  obtain ⟨c0, c1, c2, rfl⟩ : ∃ c0 c1 c2, cs = [c0, c1, c2] := by
    match cs, hcl with
    | [c0, c1, c2], _ => exact ⟨c0, c1, c2, rfl⟩
  obtain ⟨y0, y1, y2, m, _, _, h0, h1, h2⟩ := trod_struct3 Tryz.underlying79 ht
  have k0 : Tryz.prog.cellsOf 77 = 1 := by kernel_rfl
  have k1 : Tryz.prog.cellsOf 3 = 1 := by kernel_rfl
  have k2 : Tryz.prog.cellsOf 9 = 1 := by kernel_rfl
  simp only [k0, k1, k2, List.drop_zero, List.drop_succ_cons, List.take_succ_cons, List.take_zero] at h0 h1 h2
  obtain ⟨k, e0, _, _⟩ := DataW.trod_int Tryz.underlying77 h0
  obtain ⟨n, e1, _, wn⟩ := DataW.trod_int Tryz.underlying3 h1
  obtain ⟨s, e2, _, hs⟩ := DataW.trod_string Tryz.underlying9 h2
  simp only [List.cons.injEq, and_true] at e0 e1 e2
  subst e0 e1 e2
  exact ⟨⟨k, n, s⟩, rfl, hs⟩
set_option maxRecDepth 100000 in
/-- A row that comes in: of any length. -/
theorem rowG_cells {W : World} {fuel : Nat} {cs : List Value} {y : DataW H × List MemPlace} (hf : DataW.trod enc Tryz.prog W 0 (fun _ => true) true fuel 67 cs = some y) :
    ∃ (a : Option Addr) (cap : Nat) (l : List Vl), cs = [.slice a l.length cap] ∧ (l.length ≤ 4294967296 → RwS (fun j => j < W.heap.size) W a l) ∧ RowAt W a l ∧ l.length ≤ cap := by
  rcases open_slice Tryz.underlying67 hf with ⟨hcs, _⟩ | ⟨x, len, cap', m, n, D, Pl, hcs, _, hl, hm, hmm, _, hi⟩
  · exact ⟨none, 0, [], hcs, fun _ => ⟨by simp, by simp, .inl rfl⟩, ⟨by simp, by simp, .inl rfl⟩, Nat.le_refl _⟩
  · simp only [if_true] at hmm
    subst hmm
    have hx : ∀ i, i < len → ∃ x' : Vl, x'.s.size ≤ maxLen ∧ W.cell? ((x.add (i * Tryz.prog.cellsOf 79)).add 0) = some (.int .i64 x'.k) ∧ W.cell? ((x.add (i * Tryz.prog.cellsOf 79)).add 1) = some (.int .i64 x'.n) ∧ W.cell? ((x.add (i * Tryz.prog.cellsOf 79)).add 2) = some (.string x'.s) := fun i hilt => by
      obtain ⟨cs', hc, ht⟩ := hi i (by omega)
      obtain ⟨_, hcl, hat⟩ := World.cells?_some hc
      obtain ⟨x', e, hs⟩ := valueG_cells ht (hcl.trans cellsG_value)
      subst e
      exact ⟨x', hs, hat 0 (by rw [cellsG_value]; decide), hat 1 (by rw [cellsG_value]; decide), hat 2 (by rw [cellsG_value]; decide)⟩
    obtain ⟨f, hfun⟩ := choose_lt hx
    rw [cellsG_value] at hfun
    have hlen : ((List.range len).map f).length = len := by simp
    have hget : ∀ i, i < len → ((List.range len).map f).getD i default = f i := fun i hilt => by simp [List.getD, hilt]
    have hsz : ∀ z ∈ (List.range len).map f, z.s.size ≤ maxLen := fun z hz => by
      rw [List.mem_map] at hz
      obtain ⟨i, hir, rfl⟩ := hz
      exact (hfun i (by simpa using hir)).1
    have key : (List.range len).map f = [] ∨ ∃ b off, some x = some (⟨b, off, none⟩ : Addr) ∧ b < W.heap.size ∧ ∀ i, i < ((List.range len).map f).length → W.cell? ⟨b, off + i * 3, none⟩ = some (.int .i64 (((List.range len).map f).getD i default).k) ∧ W.cell? ⟨b, off + i * 3 + 1, none⟩ = some (.int .i64 (((List.range len).map f).getD i default).n) ∧ W.cell? ⟨b, off + i * 3 + 2, none⟩ = some (.string (((List.range len).map f).getD i default).s) := by
      by_cases h0 : len = 0
      · left; subst h0; rfl
      · right
        have hp : x = ⟨x.block, x.off, none⟩ := cellS_plain (W := W) (v := .int .i64 (f 0).k) (by have := (hfun 0 (by omega)).2.1; simpa [Addr.add] using this)
        have hc0 := (hfun 0 (by omega)).2.1
        rw [hp] at hc0
        refine ⟨x.block, x.off, by rw [← hp], blockS_of_cell hc0, fun i hilt => ?_⟩
        rw [hlen] at hilt
        rw [hget i hilt]
        have := (hfun i hilt).2
        rw [hp] at this
        simpa only [addS_plain, Nat.add_zero] using this
    refine ⟨some x, m, (List.range len).map f, by rw [hlen]; exact hcs, fun h => ⟨h, hsz, key.imp id fun ⟨b, off, e, h1, h2⟩ => ⟨b, off, e, h1, h1, h2⟩⟩, ⟨by rw [hlen]; unfold maxLen at hm; omega, hsz, key⟩, by rw [hlen]; exact hl⟩
set_option maxRecDepth 100000 in
theorem opG_cells {W : World} {n : Nat} {cs : List Value} {y : DataW H × List MemPlace} (ht : DataW.trod enc Tryz.prog W 0 (fun _ => true) true n 82 cs = some y) (hcl : cs.length = 3) :
    ∃ x : Om, cs = [.int .i64 x.k, .string x.n, x.r.v] ∧ (x.r.l.length ≤ 4294967296 → RwS (fun j => j < W.heap.size) W x.r.a x.r.l) ∧ x.r.l.length ≤ x.r.cap := by
  obtain ⟨c0, c1, c2, rfl⟩ : ∃ c0 c1 c2, cs = [c0, c1, c2] := by
    match cs, hcl with
    | [c0, c1, c2], _ => exact ⟨c0, c1, c2, rfl⟩
  obtain ⟨y0, y1, y2, m, _, _, h0, h1, h2⟩ := trod_struct3 Tryz.underlying82 ht
  have k0 : Tryz.prog.cellsOf 3 = 1 := by kernel_rfl
  have k1 : Tryz.prog.cellsOf 9 = 1 := by kernel_rfl
  simp only [k0, k1, cellsG_row, List.drop_zero, List.drop_succ_cons, List.take_succ_cons, List.take_zero] at h0 h1 h2
  obtain ⟨k, e0, _, _⟩ := DataW.trod_int Tryz.underlying3 h0
  obtain ⟨s, e1, _, hs⟩ := DataW.trod_string Tryz.underlying9 h1
  obtain ⟨ra, rc, rl, e2, hr, _, hrc⟩ := rowG_cells h2
  simp only [List.cons.injEq, and_true] at e0 e1 e2
  subst e0 e1 e2
  exact ⟨⟨k, s, ⟨ra, rc, rl⟩⟩, rfl, hr, hrc⟩
set_option maxRecDepth 100000 in
theorem opsG_cells {W : World} {fuel : Nat} {cs : List Value} {y : DataW H × List MemPlace} (hf : DataW.trod enc Tryz.prog W 0 (fun _ => true) true fuel 44 cs = some y) :
    ∃ (a : Option Addr) (cap : Nat) (l : List Om), cs = [.slice a l.length cap] ∧ OpR (fun j => j < W.heap.size) W a l ∧ l.length ≤ cap := by
  rcases open_slice Tryz.underlying44 hf with ⟨hcs, _⟩ | ⟨x, len, cap', m, n, D, Pl, hcs, _, hl, hm, hmm, _, hi⟩
  · exact ⟨none, 0, [], hcs, ⟨by simp, by simp, .inl rfl⟩, Nat.le_refl _⟩
  · simp only [if_true] at hmm
    subst hmm
    have hx : ∀ i, i < len → ∃ z : Om, ((z.r.l.length ≤ 4294967296 → RwS (fun j => j < W.heap.size) W z.r.a z.r.l) ∧ z.r.l.length ≤ z.r.cap) ∧ W.cell? ((x.add (i * Tryz.prog.cellsOf 82)).add 0) = some (.int .i64 z.k) ∧ W.cell? ((x.add (i * Tryz.prog.cellsOf 82)).add 1) = some (.string z.n) ∧ W.cell? ((x.add (i * Tryz.prog.cellsOf 82)).add 2) = some z.r.v := fun i hilt => by
      obtain ⟨cs', hc, ht⟩ := hi i (by omega)
      obtain ⟨_, hcl, hat⟩ := World.cells?_some hc
      obtain ⟨z, e, hz⟩ := opG_cells ht (hcl.trans cellsG_op)
      subst e
      exact ⟨z, hz, hat 0 (by rw [cellsG_op]; decide), hat 1 (by rw [cellsG_op]; decide), hat 2 (by rw [cellsG_op]; decide)⟩
    obtain ⟨f, hfun⟩ := choose_lt hx
    rw [cellsG_op] at hfun
    have hlen : ((List.range len).map f).length = len := by simp
    have hget : ∀ i, i < len → ((List.range len).map f).getD i default = f i := fun i hilt => by simp [List.getD, hilt]
    refine ⟨some x, m, (List.range len).map f, by rw [hlen]; exact hcs, ⟨by rw [hlen]; unfold maxLen at hm; omega, fun z hz => ?_, ?_⟩, by rw [hlen]; exact hl⟩
    · rw [List.mem_map] at hz
      obtain ⟨i, hir, rfl⟩ := hz
      exact (hfun i (by simpa using hir)).1
    · by_cases h0 : len = 0
      · left; subst h0; rfl
      · right
        have hp : x = ⟨x.block, x.off, none⟩ := cellS_plain (W := W) (v := .int .i64 (f 0).k) (by have := (hfun 0 (by omega)).2.1; simpa [Addr.add] using this)
        have hc0 := (hfun 0 (by omega)).2.1
        rw [hp] at hc0
        refine ⟨x.block, x.off, by rw [← hp], blockS_of_cell hc0, blockS_of_cell hc0, fun i hilt => ?_⟩
        rw [hlen] at hilt
        rw [hget i hilt]
        have := (hfun i hilt).2
        rw [hp] at this
        simpa only [addS_plain, Nat.add_zero] using this
set_option maxRecDepth 100000 in
theorem open_ops9 {W : World} {b0 : Nat} {v : Value} {d : DataW H} {p : List MemPlace} (hv : Value.okWide Tryz.prog W .any b0 44 v) (h : DataW.Trod enc Tryz.prog W 0 (fun _ => true) true 44 v d p) :
    ∃ (a : Option Addr) (cap : Nat) (l : List Om), v = .slice a l.length cap ∧ l.length ≤ cap ∧ OpR (fun j => j < W.heap.size) W a l := by
  obtain ⟨a, len, cap, rfl⟩ := okWide_slice Tryz.underlying44 hv
  obtain ⟨fuel, hf⟩ := h
  obtain ⟨a', cap', l, e, hr, hc⟩ := opsG_cells hf
  simp only [Value.cells, List.cons.injEq, and_true] at e
  exact ⟨a', cap', l, e, hc, hr⟩
set_option maxRecDepth 100000 in
theorem open_commits9 {W : World} {b0 : Nat} {v : Value} {d : DataW H} {p : List MemPlace} (hv : Value.okWide Tryz.prog W .any b0 43 v) (h : DataW.Trod enc Tryz.prog W 0 (fun _ => true) true 43 v d p) :
    ∃ (a : Option Addr) (cap : Nat) (l : List Cw), v = .slice a l.length cap ∧ l.length ≤ cap ∧ CmG (fun j => j < W.heap.size) W a l := by
  obtain ⟨a, len, cap, rfl⟩ := okWide_slice Tryz.underlying43 hv
  obtain ⟨fuel, hf⟩ := h
  rcases open_slice Tryz.underlying43 hf with ⟨hcs, _⟩ | ⟨x, len', cap', m, n, D, Pl, hcs, _, hl, hm, hmm, _, hi⟩
  · simp [Value.cells] at hcs
    obtain ⟨rfl, rfl, rfl⟩ := hcs
    exact ⟨none, 0, [], rfl, Nat.le_refl _, ⟨by simp, by simp, .inl rfl⟩⟩
  · simp [Value.cells] at hcs
    obtain ⟨rfl, rfl, rfl⟩ := hcs
    simp only [if_true] at hmm
    subst hmm
    have hx : ∀ i, i < len → ∃ z : Cw, (OpR (fun j => j < W.heap.size) W z.a z.l ∧ z.l.length ≤ z.cap) ∧ W.cell? ((x.add (i * Tryz.prog.cellsOf 44)).add 0) = some z.v := fun i hilt => by
      obtain ⟨cs', hc, ht⟩ := hi i (by omega)
      obtain ⟨za, zc, zl, rfl, hz1, hz2⟩ := opsG_cells ht
      obtain ⟨_, _, hat⟩ := World.cells?_some hc
      exact ⟨⟨za, zc, zl⟩, ⟨hz1, hz2⟩, hat 0 (by rw [cellsG_ops]; decide)⟩
    obtain ⟨f, hfun⟩ := choose_lt hx
    rw [cellsG_ops] at hfun
    have hlen : ((List.range len).map f).length = len := by simp
    have hget : ∀ i, i < len → ((List.range len).map f).getD i default = f i := fun i hilt => by simp [List.getD, hilt]
    refine ⟨some x, m, (List.range len).map f, by rw [hlen], by rw [hlen]; exact hl, ⟨by rw [hlen]; unfold maxLen at hm; omega, fun z hz => ?_, ?_⟩⟩
    · rw [List.mem_map] at hz
      obtain ⟨i, hir, rfl⟩ := hz
      exact (hfun i (by simpa using hir)).1
    · by_cases h0 : len = 0
      · left; subst h0; rfl
      · right
        have hp : x = ⟨x.block, x.off, none⟩ := cellS_plain (W := W) (v := (f 0).v) (by have := (hfun 0 (by omega)).2; simpa [Addr.add] using this)
        have hc0 := (hfun 0 (by omega)).2
        rw [hp] at hc0
        refine ⟨x.block, x.off, by rw [← hp], blockS_of_cell hc0, blockS_of_cell hc0, fun i hilt => ?_⟩
        rw [hlen] at hilt
        rw [hget i hilt]
        have := (hfun i hilt).2
        rw [hp] at this
        simpa only [addS_plain, Nat.add_zero, Nat.mul_one] using this
set_option maxRecDepth 100000 in
theorem tableG_cells {W : World} {n : Nat} {cs : List Value} {y : DataW H × List MemPlace} (ht : DataW.trod enc Tryz.prog W 0 (fun _ => true) true n 38 cs = some y) (hcl : cs.length = 3) :
    ∃ x : Tb, cs = [.string x.n, .slice x.a x.l.length x.cap, .int .i64 x.k] ∧ ColsAt W.heap.size W x.a x.l ∧ x.l.length ≤ x.cap ∧ x.n.size ≤ 9223372036854775807 ∧ ∀ i, i < x.l.length → (x.l.getD i default).n.size ≤ 9223372036854775807 := by
  obtain ⟨c0, c1, c2, rfl⟩ : ∃ c0 c1 c2, cs = [c0, c1, c2] := by
    match cs, hcl with
    | [c0, c1, c2], _ => exact ⟨c0, c1, c2, rfl⟩
  obtain ⟨y0, y1, y2, m, _, _, h0, h1, h2⟩ := trod_struct3 Tryz.underlying38 ht
  have k0 : Tryz.prog.cellsOf 3 = 1 := by kernel_rfl
  have k1 : Tryz.prog.cellsOf 9 = 1 := by kernel_rfl
  simp only [k0, k1, cellsG_cols, List.drop_zero, List.drop_succ_cons, List.take_succ_cons, List.take_zero] at h0 h1 h2
  obtain ⟨s, e0, _, hs⟩ := DataW.trod_string Tryz.underlying9 h0
  obtain ⟨a, cap, l, e1, hc1, hc2, hc3⟩ := colsS_cells h1
  obtain ⟨k, e2, _, _⟩ := DataW.trod_int Tryz.underlying3 h2
  simp only [List.cons.injEq, and_true] at e0 e1 e2
  subst e0 e1 e2
  exact ⟨⟨s, a, cap, l, k⟩, rfl, hc1, hc2, by unfold maxLen at hs; show s.size ≤ _; omega, hc3⟩
set_option maxRecDepth 100000 in
theorem open_tables9 {W : World} {b0 : Nat} {v : Value} {d : DataW H} {p : List MemPlace} (hv : Value.okWide Tryz.prog W .any b0 22 v) (h : DataW.Trod enc Tryz.prog W 0 (fun _ => true) true 22 v d p) :
    ∃ (a : Option Addr) (cap : Nat) (l : List Tb), v = .slice a l.length cap ∧ l.length ≤ cap ∧ TabsAt W.heap.size W a l ∧ (∀ t ∈ l, t.l.length ≤ t.cap) ∧ (∀ t ∈ l, t.n.size ≤ 9223372036854775807 ∧ ∀ i, i < t.l.length → (t.l.getD i default).n.size ≤ 9223372036854775807) := by
  obtain ⟨a, len, cap, rfl⟩ := okWide_slice Tryz.underlying22 hv
  obtain ⟨fuel, hf⟩ := h
  rcases open_slice Tryz.underlying22 hf with ⟨hcs, _⟩ | ⟨x, len', cap', m, n, D, Pl, hcs, _, hl, hm, hmm, _, hi⟩
  · simp [Value.cells] at hcs
    obtain ⟨rfl, rfl, rfl⟩ := hcs
    exact ⟨none, 0, [], rfl, Nat.le_refl _, ⟨by simp, by simp, .inl rfl⟩, by simp, by simp⟩
  · simp [Value.cells] at hcs
    obtain ⟨rfl, rfl, rfl⟩ := hcs
    simp only [if_true] at hmm
    subst hmm
    have hx : ∀ i, i < len → ∃ z : Tb, (ColsAt W.heap.size W z.a z.l ∧ z.l.length ≤ z.cap ∧ z.n.size ≤ 9223372036854775807 ∧ ∀ i, i < z.l.length → (z.l.getD i default).n.size ≤ 9223372036854775807) ∧ W.cell? ((x.add (i * Tryz.prog.cellsOf 38)).add 0) = some (.string z.n) ∧ W.cell? ((x.add (i * Tryz.prog.cellsOf 38)).add 1) = some (.slice z.a z.l.length z.cap) ∧ W.cell? ((x.add (i * Tryz.prog.cellsOf 38)).add 2) = some (.int .i64 z.k) := fun i hilt => by
      obtain ⟨cs', hc, ht⟩ := hi i (by omega)
      obtain ⟨_, hcl, hat⟩ := World.cells?_some hc
      obtain ⟨z, e, hz⟩ := tableG_cells ht (hcl.trans cellsG_table)
      subst e
      exact ⟨z, hz, hat 0 (by rw [cellsG_table]; decide), hat 1 (by rw [cellsG_table]; decide), hat 2 (by rw [cellsG_table]; decide)⟩
    obtain ⟨f, hfun⟩ := choose_lt hx
    rw [cellsG_table] at hfun
    have hlen : ((List.range len).map f).length = len := by simp
    have hget : ∀ i, i < len → ((List.range len).map f).getD i default = f i := fun i hilt => by simp [List.getD, hilt]
    have hmem : ∀ z ∈ (List.range len).map f, ColsAt W.heap.size W z.a z.l ∧ z.l.length ≤ z.cap ∧ z.n.size ≤ 9223372036854775807 ∧ ∀ i, i < z.l.length → (z.l.getD i default).n.size ≤ 9223372036854775807 := fun z hz => by
      rw [List.mem_map] at hz
      obtain ⟨i, hir, rfl⟩ := hz
      exact (hfun i (by simpa using hir)).1
    refine ⟨some x, m, (List.range len).map f, by rw [hlen], by rw [hlen]; exact hl, ⟨by rw [hlen]; unfold maxLen at hm; omega, fun z hz => (hmem z hz).1, ?_⟩, fun z hz => (hmem z hz).2.1, fun z hz => (hmem z hz).2.2⟩
    by_cases h0 : len = 0
    · left; subst h0; rfl
    · right
      have hp : x = ⟨x.block, x.off, none⟩ := cellS_plain (W := W) (v := .string (f 0).n) (by have := (hfun 0 (by omega)).2.1; simpa [Addr.add] using this)
      have hc0 := (hfun 0 (by omega)).2.1
      rw [hp] at hc0
      refine ⟨x.block, x.off, by rw [← hp], blockS_of_cell hc0, fun i hilt => ?_⟩
      rw [hlen] at hilt
      rw [hget i hilt]
      have := (hfun i hilt).2
      rw [hp] at this
      simpa only [addS_plain, Nat.add_zero] using this
end
end Go.Proofs.YtaggacffjbjchaaGreatDoor
namespace Go.Proofs.YtaggacffjbjchaaGreatDoor
theorem shared9 : True := trivial
end Go.Proofs.YtaggacffjbjchaaGreatDoor
