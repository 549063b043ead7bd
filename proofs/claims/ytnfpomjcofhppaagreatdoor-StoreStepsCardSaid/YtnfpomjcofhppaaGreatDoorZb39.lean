/- The store's At. -/
import Derived.Test.YtnfpomjcofhppaaGreatDoorZb37
import Derived.Deep.DeepCutAuto
namespace Go.Proofs.YtnfpomjcofhppaaGreatDoor
open Go.RowKit

def AtS (s : Stm) (v : Int) (w : World) (e : Ending) (w' : World) : Prop :=
  ((s.v < v ∧ e = .returned (.tuple #[.pointer none, .int .i64 1])) ∨ (v < s.v - s.cs.length ∧ e = .returned (.tuple #[.pointer none, .int .i64 25])) ∨ ∃ (i p : Nat), i < s.sn.length ∧ (i : Int) = v - (s.v - s.cs.length) ∧ e = .returned (.tuple #[.pointer (some ⟨p, 0, none⟩), .int .i64 0]) ∧ w.heap.size ≤ p ∧ Snp (fun b => ¬ s.M b) w' p s.ca s.cc s.ts (s.sn.getD i default)) ∧ w.grownBy w' none
theorem eight_set (w : World) (b : Nat) (T : TypeId) (o0 o1 o2 o3 o4 o5 o6 o7 v0 v1 v2 v3 v4 v5 v6 v7 : Value) (h : w.heap[b]? = some (.cells #[o0, o1, o2, o3, o4, o5, o6, o7] T (0, 0))) :
    ((((((((w.setCell ⟨b, 0, none⟩ v0).setCell ⟨b, 1, none⟩ v1).setCell ⟨b, 2, none⟩ v2).setCell ⟨b, 3, none⟩ v3).setCell ⟨b, 4, none⟩ v4).setCell ⟨b, 5, none⟩ v5).setCell ⟨b, 6, none⟩ v6).setCell ⟨b, 7, none⟩ v7).heap[b]? = some (.cells #[v0, v1, v2, v3, v4, v5, v6, v7] T (0, 0)) := by
  have h0 := heap_setCell_same _ _ 0 _ _ v0 h
  have h1 := heap_setCell_same _ _ 1 _ _ v1 h0
  have h2 := heap_setCell_same _ _ 2 _ _ v2 h1
  have h3 := heap_setCell_same _ _ 3 _ _ v3 h2
  have h4 := heap_setCell_same _ _ 4 _ _ v4 h3
  have h5 := heap_setCell_same _ _ 5 _ _ v5 h4
  have h6 := heap_setCell_same _ _ 6 _ _ v6 h5
  have h7 := heap_setCell_same _ _ 7 _ _ v7 h6
  simpa using h7
theorem eight_grown {w w' : World} (h : w.grownBy w' none) (b : Nat) (hb : w.heap.size ≤ b) (v0 v1 v2 v3 v4 v5 v6 v7 : Value) :
    w.grownBy ((((((((w'.setCell ⟨b, 0, none⟩ v0).setCell ⟨b, 1, none⟩ v1).setCell ⟨b, 2, none⟩ v2).setCell ⟨b, 3, none⟩ v3).setCell ⟨b, 4, none⟩ v4).setCell ⟨b, 5, none⟩ v5).setCell ⟨b, 6, none⟩ v6).setCell ⟨b, 7, none⟩ v7) none := by
  have key : ∀ (x : World) (i : Nat) (v : Value), w.grownBy x none → w.grownBy (x.setCell ⟨b, i, none⟩ v) none := fun x i v hx => grown_thenT hx (grown_cellT x b i v) (fun j hj => by cases hj; exact hb)
  exact key _ _ _ (key _ _ _ (key _ _ _ (key _ _ _ (key _ _ _ (key _ _ _ (key _ _ _ (key _ _ _ h)))))))
/-- A snapshot's block, behind the making. -/
def SnBlk (ca : Option Addr) (tn cc : Nat) (x : Sn) (w : World) (p : Nat) (w' : World) : Prop := w.heap.size ≤ p ∧ w.grownBy w' none ∧ w'.heap[p]? = some (.cells (snC ca tn cc x).toArray 82 (0, 0))
set_option maxRecDepth 100000 in
set_option maxHeartbeats 6400000 in
theorem at_any (B : Nat) (s : Stm) (v : Int) (w : World) (h : SAt B w s) :
    Calls Tryz.prog 9 #[.pointer (some ⟨s.b, 0, none⟩), .int .i64 v] w (AtS s v w) := by
  have HS := Lib.hid h
  have HV := Lib.hid (versionS_any B s w h)
  have hv0 := h.v0
  have hv1 := h.v1
  have hkp := h.kept
  have hfw := h.few
  have HH := Lib.hid (fun W (hW : w.grownBy W none) => horizon_any s.J W 32 s.v s.ja s.cs.length s.jc (h.jou.keepG hW).jn hv0 (by omega) (by omega))
  have c0 := cell_of_row _ _ 0 _ _ _ h.blk
  have c1 := cell_of_row _ _ 1 _ _ _ h.blk
  simp at c0 c1
  obtain ⟨m, hm⟩ : ∃ m, m = s.cs.length := ⟨_, rfl⟩
  rw [← hm] at HH hkp hfw
  rw [hkp] at c1
  have Hm := Lib.hid hm
  have Hk := Lib.hid hkp
  clear h hm hkp
  have i1 : IntKind.i64.wrap (s.v - m) = s.v - m := by rw [IntKind.wrap_i64]; omega
  by_cases hv : s.v < v
  · clear hv0 hv1 hfw i1
    go_enter Tryz.func9, Tryz.ntmps9
    go_wp2_with fail
    refine HV.out.mono ?_
    rintro e w2 ⟨rfl, hg2⟩
    go_wp2_with fail
    refine bodyPost_ret (v := .tuple #[.pointer none, .int .i64 1]) (by simp [results, Tryz.results9, go_sem]) rfl ?_
    exact ⟨.inl ⟨hv, rfl⟩, hg2⟩
  · by_cases hv2 : v < s.v - m
    · clear hv0 hv1 hfw
      go_enter Tryz.func9, Tryz.ntmps9
      go_wp2_with fail
      refine HV.out.mono ?_
      rintro e w2 ⟨rfl, hg2⟩
      have d0 := hg2.cell c0 (by simp)
      clear c0 c1
      go_wp2_with fail
      refine (HH.out _ hg2).mono ?_
      rintro e w3 ⟨rfl, k3, rfl⟩
      go_wp2_with fail
      refine bodyPost_ret (v := .tuple #[.pointer none, .int .i64 25]) (by simp [results, Tryz.results9, go_sem]) rfl ?_
      exact ⟨.inr (.inl ⟨by rw [← Hm.out]; exact hv2, rfl⟩), grown_drewNT hg2 k3⟩
    · obtain ⟨i, hi⟩ : ∃ i : Nat, (i : Int) = v - (s.v - m) := ⟨(v - (s.v - m)).toNat, by omega⟩
      have him : i < m + 1 := by omega
      have hvi : v = s.v - m + i := by omega
      have hle := HS.out.win.le
      rw [Hk.out] at hle
      obtain ⟨g, off, hsa, hc, _, _⟩ := HS.out.win.mem.resolve_left (by have := Hk.out; omega)
      rw [hsa] at c1
      have hat := sn_at s.ca s.ts.length s.cc s.sn i (by rw [Hk.out]; exact him)
      have hcell : ∀ j u, (snC s.ca s.ts.length s.cc (s.sn.getD i default))[j]? = some u → w.cell? ⟨g, off + i * 8 + j, none⟩ = some u := fun j u hj => by rw [Nat.add_assoc]; exact hc _ u (hat j u hj)
      have Hx := Lib.hid (show s.sn.getD i default ∈ s.sn by
        rw [List.getD_eq_getElem?_getD, List.getElem?_eq_getElem (by rw [Hk.out]; exact him)]
        exact List.getElem_mem _)
      obtain ⟨x, hx⟩ : ∃ x, x = s.sn.getD i default := ⟨_, rfl⟩
      rw [← hx] at hcell Hx
      have HX := Lib.hid hx
      have HI := Lib.hid (And.intro hi him)
      simp only [snC] at hcell
      have y0 := hcell 0 _ rfl
      have y1 := hcell 1 _ rfl
      have y2 := hcell 2 _ rfl
      have y3 := hcell 3 _ rfl
      have y4 := hcell 4 _ rfl
      have y5 := hcell 5 _ rfl
      have y6 := hcell 6 _ rfl
      have y7 := hcell 7 _ rfl
      simp only [Nat.add_zero] at y0
      generalize htn : s.ts.length = tn at *
      have Htn := Lib.hid htn
      have j1 : IntKind.i64.wrap (v - (s.v - m)) = (i : Int) := by rw [IntKind.wrap_i64]; omega
      have j2 : (i : Int) < m + 1 := by omega
      have j3 : ((m : Int) + 1) ≤ s.sc := by omega
      have j4 : (0 : Int) ≤ i := by omega
      have j5 : i < m + 1 := him
      have j6 : ¬ (i : Int) < 0 := by omega
      have j7 : ¬ (m : Int) + 1 ≤ i := by omega
      have j8 : i ≤ m := by omega
      have j9 : IntKind.i64.wrap (i : Int) = (i : Int) := by rw [IntKind.wrap_i64]; omega
      clear hx hcell hat hc hle htn hv0 hv1 hfw hsa hi him hvi i1
      obtain ⟨z, hz⟩ : ∃ z, z = s.v - (m : Int) := ⟨_, rfl⟩
      rw [← hz] at HH hv2 j1
      have Hz := Lib.hid hz
      clear hz
      go_enter Tryz.func9, Tryz.ntmps9
      go_wp2_with fail
      refine HV.out.mono ?_
      rintro e w2 ⟨rfl, hg2⟩
      have d0 := hg2.cell c0 (by simp)
      have d1 := hg2.cell c1 (by simp)
      have y0 := hg2.cell y0 (by simp)
      have y1 := hg2.cell y1 (by simp)
      have y2 := hg2.cell y2 (by simp)
      have y3 := hg2.cell y3 (by simp)
      have y4 := hg2.cell y4 (by simp)
      have y5 := hg2.cell y5 (by simp)
      have y6 := hg2.cell y6 (by simp)
      have y7 := hg2.cell y7 (by simp)
      clear c0 c1
      go_wp2_with fail
      refine (HH.out _ hg2).mono ?_
      rintro e w3 ⟨rfl, k3, rfl⟩
      have G3 := Lib.hid (grown_drewNT hg2 k3)
      have hg3 : w2.grownBy (w2.drewN k3) none := grown_drewNT (grown_reflT _ _) k3
      have d0 := hg3.cell d0 (by simp)
      have d1 := hg3.cell d1 (by simp)
      have y0 := hg3.cell y0 (by simp)
      have y1 := hg3.cell y1 (by simp)
      have y2 := hg3.cell y2 (by simp)
      have y3 := hg3.cell y3 (by simp)
      have y4 := hg3.cell y4 (by simp)
      have y5 := hg3.cell y5 (by simp)
      have y6 := hg3.cell y6 (by simp)
      have y7 := hg3.cell y7 (by simp)
      clear hg2 hg3
      go_upto_region 5 with fail
      generalize w2.drewN k3 = w3 at *
      have da0 := fun o => (World.grownBy_alloc w3 o none).cell d0 (by simp)
      have da1 := fun o => (World.grownBy_alloc w3 o none).cell d1 (by simp)
      have HH2 := Lib.hid (fun W (hW : w3.grownBy W none) => (HH.out W (G3.out.trans hW)).mono (fun e w' (hk : e = .returned (.int .i64 z) ∧ ∃ k, w' = W.drewN k) => show e = .returned (.int .i64 z) ∧ w3.grownBy w' none ∧ W.grownBy w' none from ⟨hk.1, by obtain ⟨_, k, rfl⟩ := hk; exact ⟨grown_drewNT hW k, grown_drewNT (grown_reflT _ _) k⟩⟩))
      go_cut [6] (fun a wx => ∃ p, a = .pointer (some ⟨p, 0, none⟩) ∧ Hid (SnBlk s.ca tn s.cc x w3 p wx))
      case first =>
        go_region_with (go_at_call 28; (with_reducible refine (HH2.out _ (by first | exact grown_drewT (grown_reflT _ _) | exact grown_reflT _ _ | exact grown_drewT (World.grownBy_alloc _ _ _) | exact World.grownBy_alloc _ _ _)).mono ?_); rintro e w6 ⟨rfl, hg6, hgW⟩; have G6 := Lib.hid hg6; have q0 := hg6.cell y0 (by simp); have q1 := hg6.cell y1 (by simp); have q2 := hg6.cell y2 (by simp); have q3 := hg6.cell y3 (by simp); have q4 := hg6.cell y4 (by simp); have q5 := hg6.cell y5 (by simp); have q6 := hg6.cell y6 (by simp); have q7 := hg6.cell y7 (by simp); have e1 := hg6.cell d1 (by simp); have ea1 := fun o => (World.grownBy_alloc w6 o none).cell e1 (by simp); have qa0 := fun o => (World.grownBy_alloc w6 o none).cell q0 (by simp); have qa1 := fun o => (World.grownBy_alloc w6 o none).cell q1 (by simp); have qa2 := fun o => (World.grownBy_alloc w6 o none).cell q2 (by simp); have qa3 := fun o => (World.grownBy_alloc w6 o none).cell q3 (by simp); have qa4 := fun o => (World.grownBy_alloc w6 o none).cell q4 (by simp); have qa5 := fun o => (World.grownBy_alloc w6 o none).cell q5 (by simp); have qa6 := fun o => (World.grownBy_alloc w6 o none).cell q6 (by simp); have qa7 := fun o => (World.grownBy_alloc w6 o none).cell q7 (by simp); (try (have hb6 := (hgW.block w3.heap.size (by simp) (by simp)).trans (heap_alloc_new w3 _); have HB6 := Lib.hid hb6; have z0 := cell_of_row _ _ 0 _ _ _ hb6; have z1 := cell_of_row _ _ 1 _ _ _ hb6; have z2 := cell_of_row _ _ 2 _ _ _ hb6; have z3 := cell_of_row _ _ 3 _ _ _ hb6; have z4 := cell_of_row _ _ 4 _ _ _ hb6; have z5 := cell_of_row _ _ 5 _ _ _ hb6; have z6 := cell_of_row _ _ 6 _ _ _ hb6; have z7 := cell_of_row _ _ 7 _ _ _ hb6; have zf := froz_of hb6; have zf0 := zf 0; have zf1 := zf 1; have zf2 := zf 2; have zf3 := zf 3; have zf4 := zf 4; have zf5 := zf 5; have zf6 := zf 6; have zf7 := zf 7; clear zf hb6)); clear hg6 hgW)
        all_goals
          go_wp2_with fail
          go_meet
          first
            | (refine ⟨w6.heap.size, (by with_reducible rfl), ?_⟩
               exact Lib.hid ⟨G6.out.size, G6.out.trans (World.grownBy_alloc _ _ _), heap_alloc_new _ _⟩)
            | (refine ⟨w3.heap.size, (by with_reducible rfl), ?_⟩
               exact Lib.hid ⟨Nat.le_refl _, eight_grown G6.out _ (Nat.le_refl _) _ _ _ _ _ _ _ _, eight_set _ _ _ _ _ _ _ _ _ _ _ _ _ _ _ _ _ _ _ HB6.out⟩)
      case rest =>
      obtain ⟨p, rfl, hp⟩ := hcut
      go_wp2_with fail
      refine bodyPost_ret (v := .tuple #[.pointer (some ⟨p, 0, none⟩), .int .i64 0]) (by simp [results, Tryz.results9, go_sem]) rfl ?_
      have hgW := G3.out.trans hp.out.2.1
      refine ⟨.inr (.inr ⟨i, p, by rw [Hk.out]; exact HI.out.2, by rw [← Hm.out]; exact HI.out.1, rfl, Nat.le_trans G3.out.size hp.out.1, ?_⟩), hgW⟩
      rw [← HX.out]
      refine ⟨?_, HS.out.cat.keep (.of hgW), fun i hi => (HS.out.tre _ Hx.out i hi).keep (.of hgW), fun e => by have := HS.out.lt _ e; have := G3.out.size; have := hp.out.1; omega⟩
      rw [hp.out.2.2, Htn.out]; rfl
end Go.Proofs.YtnfpomjcofhppaaGreatDoor
