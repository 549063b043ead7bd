/- spelt: the query that was checked, with lists of its own. checked and Check: the query that was checked, or what is wrong. The laws' checked: a text's query upon a catalog. -/
import Derived.Test.YtjaclmoobfeikaaGreatDoorZl41
import Derived.Test.YtjaclmoobfeikaaGreatDoorZl03
import Derived.Test.YtjaclmoobfeikaaGreatDoorZl34
import Derived.Test.YtjaclmoobfeikaaGreatDoorZl22
import Derived.Test.YtjaclmoobfeikaaGreatDoorZl35
namespace Go.Proofs.YtjaclmoobfeikaaGreatDoor
open Go.RowKit

theorem qm_c14 : ∀ y : Qm, y.c[14]? = some (.slice y.oa y.order.length y.oc)
  | ⟨_, _, _, _, _, .mk .., _, _, _, _, _, _, _⟩ => rfl
theorem qm_c16 : ∀ y : Qm, y.c[16]? = some (.int .i64 0)
  | ⟨_, _, _, _, _, .mk .., _, _, _, _, _, _, _⟩ => rfl
theorem own_cells {w : World} {B B' : Nat} {T : TypeId} {a : Ptr} {n cap sz : Nat} {xs : List Value} (h : w.ownsRow B T sz (.slice a n cap) n xs) (hB : B' ≤ B) : CellsS (fun j => B' ≤ j) w a xs := by
  obtain ⟨a', cap', hv, hw, hb⟩ := own_win h
  cases hv
  exact win_cells hw (fun k hk => Nat.le_trans hB (World.ownsRow.lt h k (hb k hk)).1)
/-- A query on its way to be one's own: its three lists are. -/
structure Spl (w : World) (N : ByteArray) (a : Ptr) (m cap : Nat) (K : Int) (qe : Qry) (cd : Pm) (y1 : Qm) (W : World) : Prop where
  e : y1.e = qe
  cond : y1.cond = cd
  q : W.heap[w.heap.size + 1]? = some (.cells y1.c 36 (0, 0))
  ci : CellsS (fun j => w.heap.size + 3 ≤ j) W y1.ia (y1.items.flatMap Itm.c) ∧ y1.items.length ≤ y1.ic
  cg : CellsS (fun j => w.heap.size + 3 ≤ j) W y1.ga (y1.group.flatMap Itm.c) ∧ y1.group.length ≤ y1.gc
  co : CellsS (fun j => w.heap.size + 3 ≤ j) W y1.oa (y1.order.flatMap Kyo.c) ∧ y1.order.length ≤ y1.oc
  g : w.grownBy W none
  sz : w.heap.size + 3 ≤ W.heap.size
  t : W.heap[w.heap.size]? = some (.cells #[.string N, .slice a m cap, .int .i64 K] 44 (0, 0))
  r : W.heap[w.heap.size + 2]? = some (.cells (Qm.z 0).c 36 (0, 0))
set_option maxRecDepth 100000 in
set_option maxHeartbeats 12800000 in
theorem spelt_any (N : ByteArray) (K : Int) (a : Option Addr) (cap : Nat) (cs : List Cl) (y : Qm) (w : World) (h : ColsAt w.heap.size w a cs) (hcl : cs.length ≤ 1000) (hy : QmS (fun j => j < w.heap.size) w y) (hn : y.cond.n ≤ 1000) (hf : y.cond.e.few) (li : y.items.length ≤ 1000) (lo : y.order.length ≤ 1000) (lg : y.group.length ≤ 1000) :
    Calls Tryz.prog 47 #[.agg #[.string N, .slice a cs.length cap, .int .i64 K], .agg y.c] w fun e w' => ∃ y' : Qm, e = .returned (.agg y'.c) ∧ y'.e = y.e.spelt cs ∧ QmS (fun j => w.heap.size ≤ j) w' y' ∧ w.grownBy w' none := by
  have HI1 := Lib.hid (fun W (hW : w.grownBy W none) => cloneItm_any (fun _ => True) y.ia y.ic y.items W ((hy.1.1.keep (.of hW)).mono (fun _ _ _ => trivial)) li)
  have HG1 := Lib.hid (fun W (hW : w.grownBy W none) => cloneItm_any (fun _ => True) y.ga y.gc y.group W ((hy.2.2.1.1.keep (.of hW)).mono (fun _ _ _ => trivial)) lg)
  have HO1 := Lib.hid (fun W (hW : w.grownBy W none) => cloneKyo_any (fun _ => True) y.oa y.oc y.order W ((hy.2.2.2.1.keep (.of hW)).mono (fun _ _ _ => trivial)) lo)
  have HA1 := Lib.hid (fun W (hW : w.grownBy W none) => all_anyC N K a cap cs W ((h.keep hW (by simp)).mono hW.size) hcl)
  have HP1 := Lib.hid (fun W (hW : w.grownBy W none) => copied_any y.cond W ((hy.2.1.keep (.of hW)).mono (fun b _ hb => Nat.lt_of_lt_of_le hb hW.size)) hn hf)
  have C0 := Lib.hid (qm_c0 y)
  have C13 := Lib.hid (qm_c13 y)
  have C14 := Lib.hid (qm_c14 y)
  obtain ⟨m, hm⟩ : ∃ m, m = cs.length := ⟨_, rfl⟩
  have Hm := Lib.hid hm
  rw [← hm] at HA1 ⊢
  have hQ1 := Lib.hid y.c_size
  have hQ2 := y.c_all
  have HC := Lib.hid y.cond.c_len
  unfold Pm.v at HP1
  obtain ⟨n1, hn1⟩ : ∃ n, n = y.items.length := ⟨_, rfl⟩
  obtain ⟨gn, hgn⟩ : ∃ n, n = y.group.length := ⟨_, rfl⟩
  obtain ⟨n6, hn6⟩ : ∃ n, n = y.order.length := ⟨_, rfl⟩
  rw [← hn1] at HI1 C0
  rw [← hgn] at HG1 C13
  rw [← hn6] at HO1 C14
  obtain ⟨ia, hia⟩ : ∃ x, x = y.ia := ⟨_, rfl⟩
  obtain ⟨ic, hic⟩ : ∃ x, x = y.ic := ⟨_, rfl⟩
  obtain ⟨ga, hga⟩ : ∃ x, x = y.ga := ⟨_, rfl⟩
  obtain ⟨gc, hgc⟩ : ∃ x, x = y.gc := ⟨_, rfl⟩
  obtain ⟨oa, hoa⟩ : ∃ x, x = y.oa := ⟨_, rfl⟩
  obtain ⟨oc, hoc⟩ : ∃ x, x = y.oc := ⟨_, rfl⟩
  rw [← hia, ← hic] at HI1 C0
  rw [← hga, ← hgc] at HG1 C13
  rw [← hoa, ← hoc] at HO1 C14
  have HNs := Lib.hid (And.intro hn1 (And.intro hgn hn6))
  obtain ⟨cq, hcq⟩ : ∃ c, c = y.c := ⟨_, rfl⟩
  rw [← hcq] at hQ1 hQ2 C0 C13 C14 ⊢
  have HCQ := Lib.hid hcq
  have G0 := Lib.hid (World.grownBy_alloc w (.cells #[.string N, .slice a m cap, .int .i64 K] 44) none)
  have T0 := Lib.hid (heap_alloc_new w (.cells #[.string N, .slice a m cap, .int .i64 K] 44))
  have G1 := Lib.hid (World.grownBy_alloc (w.alloc (.cells #[.string N, .slice a m cap, .int .i64 K] 44)) (.cells cq 36) none)
  have B1 := heap_alloc_new (w.alloc (.cells #[.string N, .slice a m cap, .int .i64 K] 44)) (.cells cq 36)
  have G2 := Lib.hid (World.grownBy_alloc ((w.alloc (.cells #[.string N, .slice a m cap, .int .i64 K] 44)).alloc (.cells cq 36)) (.cells (Qm.z 0).c 36) none)
  have R2 := heap_alloc_new ((w.alloc (.cells #[.string N, .slice a m cap, .int .i64 K] 44)).alloc (.cells cq 36)) (.cells (Qm.z 0).c 36)
  rw [show (w.alloc (.cells #[.string N, .slice a m cap, .int .i64 K] 44)).heap.size = w.heap.size + 1 by simp] at B1
  rw [show ((w.alloc (.cells #[.string N, .slice a m cap, .int .i64 K] 44)).alloc (.cells cq 36)).heap.size = w.heap.size + 2 by simp] at R2
  obtain ⟨W3, hW3⟩ : ∃ W3, W3 = ((w.alloc (.cells #[.string N, .slice a m cap, .int .i64 K] 44)).alloc (.cells cq 36)).alloc (.cells (Qm.z 0).c 36) := ⟨_, rfl⟩
  have G3 : Hid (w.grownBy W3 none) := Lib.hid (by rw [hW3]; exact (G0.out.trans G1.out).trans G2.out)
  have B3 : Hid (W3.heap[w.heap.size + 1]? = some (.cells cq 36 (0, 0))) := Lib.hid (by rw [hW3]; exact blk_grown G2.out B1)
  have T3 : Hid (W3.heap[w.heap.size]? = some (.cells #[.string N, .slice a m cap, .int .i64 K] 44 (0, 0))) := Lib.hid (by rw [hW3]; exact blk_grown (G1.out.trans G2.out) T0.out)
  have R3 : Hid (W3.heap[w.heap.size + 2]? = some (.cells (Qm.z 0).c 36 (0, 0))) := Lib.hid (by rw [hW3]; exact R2)
  have S3 : Hid (W3.heap.size = w.heap.size + 3) := Lib.hid (by rw [hW3]; simp)
  have HREL : Hid (∀ w7 a1 c1 a2 c2 a3 c3, W3.grownBy w7 none → (CellsS (fun j => w.heap.size + 3 ≤ j) w7 a1 (y.items.flatMap Itm.c) ∧ n1 ≤ c1) → (CellsS (fun j => w.heap.size + 3 ≤ j) w7 a2 (y.group.flatMap Itm.c) ∧ gn ≤ c2) → (CellsS (fun j => w.heap.size + 3 ≤ j) w7 a3 (y.order.flatMap Kyo.c) ∧ n6 ≤ c3) →
      ∃ y1, Spl w N a m cap K y.e y.cond y1 (((w7.setCell ⟨w.heap.size + 1, 0, none⟩ (.slice a1 n1 c1)).setCell ⟨w.heap.size + 1, 13, none⟩ (.slice a2 gn c2)).setCell ⟨w.heap.size + 1, 14, none⟩ (.slice a3 n6 c3))) := Lib.hid (by
    intro w7 a1 c1 a2 c2 a3 c3 g7 h1 h2 h3
    have hb := blk_grown g7 B3.out
    have hset : ∀ b, b ≠ w.heap.size + 1 → ((((w7.setCell ⟨w.heap.size + 1, 0, none⟩ (.slice a1 n1 c1)).setCell ⟨w.heap.size + 1, 13, none⟩ (.slice a2 gn c2)).setCell ⟨w.heap.size + 1, 14, none⟩ (.slice a3 n6 c3)).heap[b]? = w7.heap[b]?) := fun b hb => by
      rw [Below.heap_setCell _ _ _ _ (fun e => hb e), Below.heap_setCell _ _ _ _ (fun e => hb e), Below.heap_setCell _ _ _ _ (fun e => hb e)]
    have hk : Stays (fun j => w.heap.size + 3 ≤ j) w7 (((w7.setCell ⟨w.heap.size + 1, 0, none⟩ (.slice a1 n1 c1)).setCell ⟨w.heap.size + 1, 13, none⟩ (.slice a2 gn c2)).setCell ⟨w.heap.size + 1, 14, none⟩ (.slice a3 n6 c3)) := ⟨by simp, fun b hb _ => hset b (by omega)⟩
    have hgw := G3.out.trans g7
    have e1 := heap_setCell_same _ _ 0 _ _ (.slice a1 n1 c1) hb
    have e2 := heap_setCell_same _ _ 13 _ _ (.slice a2 gn c2) e1
    have e3 := heap_setCell_same _ _ 14 _ _ (.slice a3 n6 c3) e2
    refine ⟨{ y with ia := a1, ic := c1, ga := a2, gc := c2, oa := a3, oc := c3 }, rfl, rfl, ?_, ⟨h1.1.keep hk, by rw [← HNs.out.1]; exact h1.2⟩, ⟨h2.1.keep hk, by rw [← HNs.out.2.1]; exact h2.2⟩, ⟨h3.1.keep hk, by rw [← HNs.out.2.2]; exact h3.2⟩, grown_setnewX (grown_setnewX (grown_setnewX hgw (by omega) _ _) (by omega) _ _) (by omega) _ _, by have := g7.size; have := S3.out; simp; omega, ?_, ?_⟩
    · rw [e3, HCQ.out, HNs.out.1, HNs.out.2.1, HNs.out.2.2, qm_items, qm_group, qm_order]
    · rw [hset _ (by omega)]; exact blk_grown g7 T3.out
    · rw [hset _ (by omega)]; exact blk_grown g7 R3.out)
  have HYE := Lib.hid (show y.e.spelt cs = _ from rfl)
  have d0 := (cell_of_row _ _ 0 _ _ _ B3.out).trans C0.out
  have d13 := (cell_of_row _ _ 13 _ _ _ B3.out).trans C13.out
  have d14 := (cell_of_row _ _ 14 _ _ _ B3.out).trans C14.out
  clear h hcl hy hn hf li lo lg hm hn1 hgn hn6 hcq hia hic hga hgc hoa hoc B1 R2 G0 G1 G2 T0 HYE
  go_enter Tryz.func47, Tryz.ntmps47
  go_upto_region 1 with fail
  change Code.wp _ _ _ _ (((w.alloc (.cells #[.string N, .slice a m cap, .int .i64 K] 44)).alloc (.cells cq 36)).alloc (.cells (Qm.z 0).c 36))
  rw [← hW3]
  clear hW3
  go_cut [] from 5 (fun wx => Hid (∃ y1, Spl w N a m cap K y.e y.cond y1 wx))
  case first =>
    refine wp_region_held_drew (S := (fun _ => True)) (by kernel_rfl) trivial (fun hHeld => ?_)
    refine wpAnyH_take (i := 0) (v := ?v0z1) rfl (by kernel_rfl) (by kernel_rfl) (by kernel_rfl) (fun _ _ _ h => h) (Or.inl ⟨by rfl, ?y0z1⟩) (by assumption) ?r0z1
    case y0z1 => (intro w hSw; (try dsimp only at hSw); go_simp; try with_reducible rfl)
    simp only [Act.put, List.getElem_toArray, List.getElem_cons_zero, List.size_toArray, List.length_cons, List.length_nil, Nat.reduceAdd, Array.replicate, List.replicate, List.setIfInBounds_toArray, List.set_cons_zero, List.set_cons_succ]
    refine wpAnyH_take (i := 3) (v := ?v3z2) rfl (by kernel_rfl) (by kernel_rfl) (by kernel_rfl) (fun _ _ _ h => h) (Or.inl ⟨by rfl, ?y3z2⟩) (by assumption) ?r3z2
    case y3z2 => (intro w hSw; (try dsimp only at hSw); go_simp; try with_reducible rfl)
    simp only [Act.put, List.getElem_toArray, List.getElem_cons_succ, List.getElem_cons_zero, List.setIfInBounds_toArray, List.set_cons_zero, List.set_cons_succ]
    refine wpAnyH_take (i := 6) (v := ?v6z3) rfl (by kernel_rfl) (by kernel_rfl) (by kernel_rfl) (fun _ _ _ h => h) (Or.inl ⟨by rfl, ?y6z3⟩) (by assumption) ?r6z3
    case y6z3 => (intro w hSw; (try dsimp only at hSw); go_simp; try with_reducible rfl)
    simp only [Act.put, List.getElem_toArray, List.getElem_cons_succ, List.getElem_cons_zero, List.setIfInBounds_toArray, List.set_cons_zero, List.set_cons_succ]
    refine wpAnyH_ready (rs := [1, 4, 7]) (by kernel_rfl) (by simp) ?_
    refine (AllReadyH.cons rfl (fun K' hK => ?_) (AllReadyH.cons rfl (fun K' hK => ?_) (AllReadyH.cons rfl (fun K' hK => ?_) AllReadyH.nil)))
    · go_simp
      skip
      refine hK.out _ _ trivial (fun hHeld => ?_)
      clear hK K'
      simp only [List.setIfInBounds_toArray, List.set_cons_zero, List.set_cons_succ]
      refine wpAnyH_ready (rs := [2, 4, 7]) (by kernel_rfl) (by simp) ?_
      refine (AllReadyH.cons rfl (fun K' hK => ?_) (AllReadyH.cons rfl (fun K' hK => ?_) (AllReadyH.cons rfl (fun K' hK => ?_) AllReadyH.nil)))
      · go_simp
        go_at_call 39
        refine (HI1.out _ (G3.out.trans (grown_drewT (grown_reflT _ _)))).mono ?_
        rintro e w5 ⟨⟨a1, c1, rfl, hle, ho⟩, hg⟩
        have G5 : Hid (W3.grownBy w5 none) := Lib.hid ((grown_drewT (grown_reflT W3 none)).trans hg)
        have O1 := Lib.hid (And.intro (own_cells (B' := w.heap.size + 3) ho (by exact Nat.le_of_eq S3.out.symm)) hle)
        have f0 := G5.out.cell d0 (by simp)
        have f13 := G5.out.cell d13 (by simp)
        have f14 := G5.out.cell d14 (by simp)
        clear hg ho hle
        refine hK.out _ _ trivial (fun hHeld => ?_)
        clear hK K'
        simp only [List.setIfInBounds_toArray, List.set_cons_zero, List.set_cons_succ]
        refine wpAnyH_ready (rs := [4, 7]) (by kernel_rfl) (by simp) ?_
        refine (AllReadyH.cons rfl (fun K' hK => ?_) (AllReadyH.cons rfl (fun K' hK => ?_) AllReadyH.nil))
        · go_simp
          skip
          refine hK.out _ _ trivial (fun hHeld => ?_)
          clear hK K'
          simp only [List.setIfInBounds_toArray, List.set_cons_zero, List.set_cons_succ]
          refine wpAnyH_ready (rs := [5, 7]) (by kernel_rfl) (by simp) ?_
          refine (AllReadyH.cons rfl (fun K' hK => ?_) (AllReadyH.cons rfl (fun K' hK => ?_) AllReadyH.nil))
          · go_simp
            go_at_call 39
            refine (HG1.out _ (G3.out.trans G5.out)).mono ?_
            rintro e w6 ⟨⟨a2, c2, rfl, hle, ho⟩, hg⟩
            have G56 := Lib.hid hg
            have G6 : Hid (W3.grownBy w6 none) := Lib.hid (G5.out.trans hg)
            have O2 := Lib.hid (And.intro (own_cells (B' := w.heap.size + 3) ho (by have := G5.out.size; have := S3.out; omega)) hle)
            have h0 := G6.out.cell d0 (by simp)
            have h13 := G6.out.cell d13 (by simp)
            have h14 := G6.out.cell d14 (by simp)
            clear hg ho hle
            refine hK.out _ _ trivial (fun hHeld => ?_)
            clear hK K'
            simp only [List.setIfInBounds_toArray, List.set_cons_zero, List.set_cons_succ]
            refine wpAnyH_ready (rs := [7]) (by kernel_rfl) (by simp) ?_
            refine AllReadyH.cons rfl (fun K' hK => ?_) AllReadyH.nil
            go_simp
            skip
            refine hK.out _ _ trivial (fun hHeld => ?_)
            clear hK K'
            simp only [List.setIfInBounds_toArray, List.set_cons_zero, List.set_cons_succ]
            refine wpAnyH_take (i := 9) (v := ?v9z4) rfl (by kernel_rfl) (by kernel_rfl) (by kernel_rfl) (fun _ _ _ h => h) (Or.inl ⟨by rfl, ?y9z4⟩) (by assumption) ?r9z4
            case y9z4 => (intro w hSw; (try dsimp only at hSw); go_simp; try with_reducible rfl)
            simp only [Act.put, List.getElem_toArray, List.getElem_cons_succ, List.getElem_cons_zero, List.setIfInBounds_toArray, List.set_cons_zero, List.set_cons_succ]
            refine wpAnyH_ready (rs := [8]) (by kernel_rfl) (by simp) ?_
            refine AllReadyH.cons rfl (fun K' hK => ?_) AllReadyH.nil
            go_simp
            go_at_call 84
            refine (HO1.out _ (G3.out.trans G6.out)).mono ?_
            rintro e w7 ⟨⟨a3, c3, rfl, hle, ho⟩, hg⟩
            have G67 := Lib.hid hg
            have G7 : Hid (W3.grownBy w7 none) := Lib.hid (G6.out.trans hg)
            have O3 := Lib.hid (And.intro (own_cells (B' := w.heap.size + 3) ho (by have := G6.out.size; have := S3.out; omega)) hle)
            have B7 := blk_grown G7.out B3.out
            have i0 := G7.out.cell d0 (by simp)
            have i13 := G7.out.cell d13 (by simp)
            have i14 := G7.out.cell d14 (by simp)
            have j0 := frozen_of_row _ _ 0 _ _ B7
            have j13 := frozen_of_row _ _ 13 _ _ B7
            have j14 := frozen_of_row _ _ 14 _ _ B7
            clear hg ho hle B7
            refine hK.out _ _ trivial (fun hHeld => ?_)
            clear hK K'
            simp only [List.setIfInBounds_toArray, List.set_cons_zero, List.set_cons_succ]
            refine wpAnyH_ready (rs := [10]) (by kernel_rfl) (by simp) ?_
            refine AllReadyH.cons rfl (fun K' hK => ?_) AllReadyH.nil
            go_simp
            skip
            refine hK.out _ _ trivial (fun hHeld => ?_)
            clear hK K'
            simp only [List.setIfInBounds_toArray, List.set_cons_zero, List.set_cons_succ]
            refine wpAnyH_take (i := 11) (v := ?v11z5) rfl (by kernel_rfl) (by kernel_rfl) (by kernel_rfl) (fun _ _ _ h => h) (Or.inl ⟨by rfl, ?y11z5⟩) (by assumption) ?r11z5
            case y11z5 => (intro w hSw; (try dsimp only at hSw); go_simp; try with_reducible rfl)
            simp only [Act.put, List.getElem_toArray, List.getElem_cons_succ, List.getElem_cons_zero, List.setIfInBounds_toArray, List.set_cons_zero, List.set_cons_succ]
            refine wpAnyH_ready (rs := [12]) (by kernel_rfl) (by simp) ?_
            refine AllReadyH.cons rfl (fun K' hK => ?_) AllReadyH.nil
            go_simp
            skip
            refine hK.out _ _ trivial (fun hHeld => ?_)
            clear hK K'
            simp only [List.setIfInBounds_toArray, List.set_cons_zero, List.set_cons_succ]
            refine wpAnyH_take (i := 13) (v := ?v13z6) rfl (by kernel_rfl) (by kernel_rfl) (by kernel_rfl) (fun _ _ _ h => h) (Or.inl ⟨by rfl, ?y13z6⟩) (by assumption) ?r13z6
            case y13z6 => (intro w hSw; (try dsimp only at hSw); go_simp; try with_reducible rfl)
            simp only [Act.put, List.getElem_toArray, List.getElem_cons_succ, List.getElem_cons_zero, List.setIfInBounds_toArray, List.set_cons_zero, List.set_cons_succ]
            refine wpAnyH_ready (rs := [14]) (by kernel_rfl) (by simp) ?_
            refine AllReadyH.cons rfl (fun K' hK => ?_) AllReadyH.nil
            go_simp
            skip
            refine hK.out _ _ trivial (fun hHeld => ?_)
            clear hK K'
            simp only [List.setIfInBounds_toArray, List.set_cons_zero, List.set_cons_succ]
            refine wpAnyH_done (by kernel_rfl) ?_ _
            go_wp2_with fail
            go_meet
            exact Lib.hid (HREL.out w7 a1 c1 a2 c2 a3 c3 G7.out ⟨O1.out.1.keep (.of (G56.out.trans G67.out)), O1.out.2⟩ ⟨O2.out.1.keep (.of G67.out), O2.out.2⟩ O3.out)
          · go_simp
            skip
            refine hK.out _ _ trivial (fun hHeld => ?_)
            clear hK K'
            simp only [List.setIfInBounds_toArray, List.set_cons_zero, List.set_cons_succ]
            refine wpAnyH_take (i := 9) (v := ?v9z7) rfl (by kernel_rfl) (by kernel_rfl) (by kernel_rfl) (fun _ _ _ h => h) (Or.inl ⟨by rfl, ?y9z7⟩) (by assumption) ?r9z7
            case y9z7 => (intro w hSw; (try dsimp only at hSw); go_simp; try with_reducible rfl)
            simp only [Act.put, List.getElem_toArray, List.getElem_cons_succ, List.getElem_cons_zero, List.setIfInBounds_toArray, List.set_cons_zero, List.set_cons_succ]
            refine wpAnyH_ready (rs := [5]) (by kernel_rfl) (by simp) ?_
            refine AllReadyH.cons rfl (fun K' hK => ?_) AllReadyH.nil
            go_simp
            go_at_call 39
            refine (HG1.out _ (G3.out.trans G5.out)).mono ?_
            rintro e w6 ⟨⟨a2, c2, rfl, hle, ho⟩, hg⟩
            have G56 := Lib.hid hg
            have G6 : Hid (W3.grownBy w6 none) := Lib.hid (G5.out.trans hg)
            have O2 := Lib.hid (And.intro (own_cells (B' := w.heap.size + 3) ho (by have := G5.out.size; have := S3.out; omega)) hle)
            have h0 := G6.out.cell d0 (by simp)
            have h13 := G6.out.cell d13 (by simp)
            have h14 := G6.out.cell d14 (by simp)
            clear hg ho hle
            refine hK.out _ _ trivial (fun hHeld => ?_)
            clear hK K'
            simp only [List.setIfInBounds_toArray, List.set_cons_zero, List.set_cons_succ]
            refine wpAnyH_ready (rs := [8]) (by kernel_rfl) (by simp) ?_
            refine AllReadyH.cons rfl (fun K' hK => ?_) AllReadyH.nil
            go_simp
            go_at_call 84
            refine (HO1.out _ (G3.out.trans G6.out)).mono ?_
            rintro e w7 ⟨⟨a3, c3, rfl, hle, ho⟩, hg⟩
            have G67 := Lib.hid hg
            have G7 : Hid (W3.grownBy w7 none) := Lib.hid (G6.out.trans hg)
            have O3 := Lib.hid (And.intro (own_cells (B' := w.heap.size + 3) ho (by have := G6.out.size; have := S3.out; omega)) hle)
            have B7 := blk_grown G7.out B3.out
            have i0 := G7.out.cell d0 (by simp)
            have i13 := G7.out.cell d13 (by simp)
            have i14 := G7.out.cell d14 (by simp)
            have j0 := frozen_of_row _ _ 0 _ _ B7
            have j13 := frozen_of_row _ _ 13 _ _ B7
            have j14 := frozen_of_row _ _ 14 _ _ B7
            clear hg ho hle B7
            refine hK.out _ _ trivial (fun hHeld => ?_)
            clear hK K'
            simp only [List.setIfInBounds_toArray, List.set_cons_zero, List.set_cons_succ]
            refine wpAnyH_ready (rs := [10]) (by kernel_rfl) (by simp) ?_
            refine AllReadyH.cons rfl (fun K' hK => ?_) AllReadyH.nil
            go_simp
            skip
            refine hK.out _ _ trivial (fun hHeld => ?_)
            clear hK K'
            simp only [List.setIfInBounds_toArray, List.set_cons_zero, List.set_cons_succ]
            refine wpAnyH_take (i := 11) (v := ?v11z8) rfl (by kernel_rfl) (by kernel_rfl) (by kernel_rfl) (fun _ _ _ h => h) (Or.inl ⟨by rfl, ?y11z8⟩) (by assumption) ?r11z8
            case y11z8 => (intro w hSw; (try dsimp only at hSw); go_simp; try with_reducible rfl)
            simp only [Act.put, List.getElem_toArray, List.getElem_cons_succ, List.getElem_cons_zero, List.setIfInBounds_toArray, List.set_cons_zero, List.set_cons_succ]
            refine wpAnyH_ready (rs := [12]) (by kernel_rfl) (by simp) ?_
            refine AllReadyH.cons rfl (fun K' hK => ?_) AllReadyH.nil
            go_simp
            skip
            refine hK.out _ _ trivial (fun hHeld => ?_)
            clear hK K'
            simp only [List.setIfInBounds_toArray, List.set_cons_zero, List.set_cons_succ]
            refine wpAnyH_take (i := 13) (v := ?v13z9) rfl (by kernel_rfl) (by kernel_rfl) (by kernel_rfl) (fun _ _ _ h => h) (Or.inl ⟨by rfl, ?y13z9⟩) (by assumption) ?r13z9
            case y13z9 => (intro w hSw; (try dsimp only at hSw); go_simp; try with_reducible rfl)
            simp only [Act.put, List.getElem_toArray, List.getElem_cons_succ, List.getElem_cons_zero, List.setIfInBounds_toArray, List.set_cons_zero, List.set_cons_succ]
            refine wpAnyH_ready (rs := [14]) (by kernel_rfl) (by simp) ?_
            refine AllReadyH.cons rfl (fun K' hK => ?_) AllReadyH.nil
            go_simp
            skip
            refine hK.out _ _ trivial (fun hHeld => ?_)
            clear hK K'
            simp only [List.setIfInBounds_toArray, List.set_cons_zero, List.set_cons_succ]
            refine wpAnyH_done (by kernel_rfl) ?_ _
            go_wp2_with fail
            go_meet
            exact Lib.hid (HREL.out w7 a1 c1 a2 c2 a3 c3 G7.out ⟨O1.out.1.keep (.of (G56.out.trans G67.out)), O1.out.2⟩ ⟨O2.out.1.keep (.of G67.out), O2.out.2⟩ O3.out)
        · go_simp
          skip
          refine hK.out _ _ trivial (fun hHeld => ?_)
          clear hK K'
          simp only [List.setIfInBounds_toArray, List.set_cons_zero, List.set_cons_succ]
          refine wpAnyH_ready (rs := [4]) (by kernel_rfl) (by simp) ?_
          refine AllReadyH.cons rfl (fun K' hK => ?_) AllReadyH.nil
          go_simp
          skip
          refine hK.out _ _ trivial (fun hHeld => ?_)
          clear hK K'
          simp only [List.setIfInBounds_toArray, List.set_cons_zero, List.set_cons_succ]
          refine wpAnyH_take (i := 9) (v := ?v9z10) rfl (by kernel_rfl) (by kernel_rfl) (by kernel_rfl) (fun _ _ _ h => h) (Or.inl ⟨by rfl, ?y9z10⟩) (by assumption) ?r9z10
          case y9z10 => (intro w hSw; (try dsimp only at hSw); go_simp; try with_reducible rfl)
          simp only [Act.put, List.getElem_toArray, List.getElem_cons_succ, List.getElem_cons_zero, List.setIfInBounds_toArray, List.set_cons_zero, List.set_cons_succ]
          refine wpAnyH_ready (rs := [5]) (by kernel_rfl) (by simp) ?_
          refine AllReadyH.cons rfl (fun K' hK => ?_) AllReadyH.nil
          go_simp
          go_at_call 39
          refine (HG1.out _ (G3.out.trans G5.out)).mono ?_
          rintro e w6 ⟨⟨a2, c2, rfl, hle, ho⟩, hg⟩
          have G56 := Lib.hid hg
          have G6 : Hid (W3.grownBy w6 none) := Lib.hid (G5.out.trans hg)
          have O2 := Lib.hid (And.intro (own_cells (B' := w.heap.size + 3) ho (by have := G5.out.size; have := S3.out; omega)) hle)
          have h0 := G6.out.cell d0 (by simp)
          have h13 := G6.out.cell d13 (by simp)
          have h14 := G6.out.cell d14 (by simp)
          clear hg ho hle
          refine hK.out _ _ trivial (fun hHeld => ?_)
          clear hK K'
          simp only [List.setIfInBounds_toArray, List.set_cons_zero, List.set_cons_succ]
          refine wpAnyH_ready (rs := [8]) (by kernel_rfl) (by simp) ?_
          refine AllReadyH.cons rfl (fun K' hK => ?_) AllReadyH.nil
          go_simp
          go_at_call 84
          refine (HO1.out _ (G3.out.trans G6.out)).mono ?_
          rintro e w7 ⟨⟨a3, c3, rfl, hle, ho⟩, hg⟩
          have G67 := Lib.hid hg
          have G7 : Hid (W3.grownBy w7 none) := Lib.hid (G6.out.trans hg)
          have O3 := Lib.hid (And.intro (own_cells (B' := w.heap.size + 3) ho (by have := G6.out.size; have := S3.out; omega)) hle)
          have B7 := blk_grown G7.out B3.out
          have i0 := G7.out.cell d0 (by simp)
          have i13 := G7.out.cell d13 (by simp)
          have i14 := G7.out.cell d14 (by simp)
          have j0 := frozen_of_row _ _ 0 _ _ B7
          have j13 := frozen_of_row _ _ 13 _ _ B7
          have j14 := frozen_of_row _ _ 14 _ _ B7
          clear hg ho hle B7
          refine hK.out _ _ trivial (fun hHeld => ?_)
          clear hK K'
          simp only [List.setIfInBounds_toArray, List.set_cons_zero, List.set_cons_succ]
          refine wpAnyH_ready (rs := [10]) (by kernel_rfl) (by simp) ?_
          refine AllReadyH.cons rfl (fun K' hK => ?_) AllReadyH.nil
          go_simp
          skip
          refine hK.out _ _ trivial (fun hHeld => ?_)
          clear hK K'
          simp only [List.setIfInBounds_toArray, List.set_cons_zero, List.set_cons_succ]
          refine wpAnyH_take (i := 11) (v := ?v11z11) rfl (by kernel_rfl) (by kernel_rfl) (by kernel_rfl) (fun _ _ _ h => h) (Or.inl ⟨by rfl, ?y11z11⟩) (by assumption) ?r11z11
          case y11z11 => (intro w hSw; (try dsimp only at hSw); go_simp; try with_reducible rfl)
          simp only [Act.put, List.getElem_toArray, List.getElem_cons_succ, List.getElem_cons_zero, List.setIfInBounds_toArray, List.set_cons_zero, List.set_cons_succ]
          refine wpAnyH_ready (rs := [12]) (by kernel_rfl) (by simp) ?_
          refine AllReadyH.cons rfl (fun K' hK => ?_) AllReadyH.nil
          go_simp
          skip
          refine hK.out _ _ trivial (fun hHeld => ?_)
          clear hK K'
          simp only [List.setIfInBounds_toArray, List.set_cons_zero, List.set_cons_succ]
          refine wpAnyH_take (i := 13) (v := ?v13z12) rfl (by kernel_rfl) (by kernel_rfl) (by kernel_rfl) (fun _ _ _ h => h) (Or.inl ⟨by rfl, ?y13z12⟩) (by assumption) ?r13z12
          case y13z12 => (intro w hSw; (try dsimp only at hSw); go_simp; try with_reducible rfl)
          simp only [Act.put, List.getElem_toArray, List.getElem_cons_succ, List.getElem_cons_zero, List.setIfInBounds_toArray, List.set_cons_zero, List.set_cons_succ]
          refine wpAnyH_ready (rs := [14]) (by kernel_rfl) (by simp) ?_
          refine AllReadyH.cons rfl (fun K' hK => ?_) AllReadyH.nil
          go_simp
          skip
          refine hK.out _ _ trivial (fun hHeld => ?_)
          clear hK K'
          simp only [List.setIfInBounds_toArray, List.set_cons_zero, List.set_cons_succ]
          refine wpAnyH_done (by kernel_rfl) ?_ _
          go_wp2_with fail
          go_meet
          exact Lib.hid (HREL.out w7 a1 c1 a2 c2 a3 c3 G7.out ⟨O1.out.1.keep (.of (G56.out.trans G67.out)), O1.out.2⟩ ⟨O2.out.1.keep (.of G67.out), O2.out.2⟩ O3.out)
      · go_simp
        skip
        refine hK.out _ _ trivial (fun hHeld => ?_)
        clear hK K'
        simp only [List.setIfInBounds_toArray, List.set_cons_zero, List.set_cons_succ]
        refine wpAnyH_ready (rs := [2, 7]) (by kernel_rfl) (by simp) ?_
        refine (AllReadyH.cons rfl (fun K' hK => ?_) (AllReadyH.cons rfl (fun K' hK => ?_) AllReadyH.nil))
        · go_simp
          go_at_call 39
          refine (HI1.out _ (G3.out.trans (grown_drewT (grown_reflT _ _)))).mono ?_
          rintro e w5 ⟨⟨a1, c1, rfl, hle, ho⟩, hg⟩
          have G5 : Hid (W3.grownBy w5 none) := Lib.hid ((grown_drewT (grown_reflT W3 none)).trans hg)
          have O1 := Lib.hid (And.intro (own_cells (B' := w.heap.size + 3) ho (by exact Nat.le_of_eq S3.out.symm)) hle)
          have f0 := G5.out.cell d0 (by simp)
          have f13 := G5.out.cell d13 (by simp)
          have f14 := G5.out.cell d14 (by simp)
          clear hg ho hle
          refine hK.out _ _ trivial (fun hHeld => ?_)
          clear hK K'
          simp only [List.setIfInBounds_toArray, List.set_cons_zero, List.set_cons_succ]
          refine wpAnyH_ready (rs := [5, 7]) (by kernel_rfl) (by simp) ?_
          refine (AllReadyH.cons rfl (fun K' hK => ?_) (AllReadyH.cons rfl (fun K' hK => ?_) AllReadyH.nil))
          · go_simp
            go_at_call 39
            refine (HG1.out _ (G3.out.trans G5.out)).mono ?_
            rintro e w6 ⟨⟨a2, c2, rfl, hle, ho⟩, hg⟩
            have G56 := Lib.hid hg
            have G6 : Hid (W3.grownBy w6 none) := Lib.hid (G5.out.trans hg)
            have O2 := Lib.hid (And.intro (own_cells (B' := w.heap.size + 3) ho (by have := G5.out.size; have := S3.out; omega)) hle)
            have h0 := G6.out.cell d0 (by simp)
            have h13 := G6.out.cell d13 (by simp)
            have h14 := G6.out.cell d14 (by simp)
            clear hg ho hle
            refine hK.out _ _ trivial (fun hHeld => ?_)
            clear hK K'
            simp only [List.setIfInBounds_toArray, List.set_cons_zero, List.set_cons_succ]
            refine wpAnyH_ready (rs := [7]) (by kernel_rfl) (by simp) ?_
            refine AllReadyH.cons rfl (fun K' hK => ?_) AllReadyH.nil
            go_simp
            skip
            refine hK.out _ _ trivial (fun hHeld => ?_)
            clear hK K'
            simp only [List.setIfInBounds_toArray, List.set_cons_zero, List.set_cons_succ]
            refine wpAnyH_take (i := 9) (v := ?v9z13) rfl (by kernel_rfl) (by kernel_rfl) (by kernel_rfl) (fun _ _ _ h => h) (Or.inl ⟨by rfl, ?y9z13⟩) (by assumption) ?r9z13
            case y9z13 => (intro w hSw; (try dsimp only at hSw); go_simp; try with_reducible rfl)
            simp only [Act.put, List.getElem_toArray, List.getElem_cons_succ, List.getElem_cons_zero, List.setIfInBounds_toArray, List.set_cons_zero, List.set_cons_succ]
            refine wpAnyH_ready (rs := [8]) (by kernel_rfl) (by simp) ?_
            refine AllReadyH.cons rfl (fun K' hK => ?_) AllReadyH.nil
            go_simp
            go_at_call 84
            refine (HO1.out _ (G3.out.trans G6.out)).mono ?_
            rintro e w7 ⟨⟨a3, c3, rfl, hle, ho⟩, hg⟩
            have G67 := Lib.hid hg
            have G7 : Hid (W3.grownBy w7 none) := Lib.hid (G6.out.trans hg)
            have O3 := Lib.hid (And.intro (own_cells (B' := w.heap.size + 3) ho (by have := G6.out.size; have := S3.out; omega)) hle)
            have B7 := blk_grown G7.out B3.out
            have i0 := G7.out.cell d0 (by simp)
            have i13 := G7.out.cell d13 (by simp)
            have i14 := G7.out.cell d14 (by simp)
            have j0 := frozen_of_row _ _ 0 _ _ B7
            have j13 := frozen_of_row _ _ 13 _ _ B7
            have j14 := frozen_of_row _ _ 14 _ _ B7
            clear hg ho hle B7
            refine hK.out _ _ trivial (fun hHeld => ?_)
            clear hK K'
            simp only [List.setIfInBounds_toArray, List.set_cons_zero, List.set_cons_succ]
            refine wpAnyH_ready (rs := [10]) (by kernel_rfl) (by simp) ?_
            refine AllReadyH.cons rfl (fun K' hK => ?_) AllReadyH.nil
            go_simp
            skip
            refine hK.out _ _ trivial (fun hHeld => ?_)
            clear hK K'
            simp only [List.setIfInBounds_toArray, List.set_cons_zero, List.set_cons_succ]
            refine wpAnyH_take (i := 11) (v := ?v11z14) rfl (by kernel_rfl) (by kernel_rfl) (by kernel_rfl) (fun _ _ _ h => h) (Or.inl ⟨by rfl, ?y11z14⟩) (by assumption) ?r11z14
            case y11z14 => (intro w hSw; (try dsimp only at hSw); go_simp; try with_reducible rfl)
            simp only [Act.put, List.getElem_toArray, List.getElem_cons_succ, List.getElem_cons_zero, List.setIfInBounds_toArray, List.set_cons_zero, List.set_cons_succ]
            refine wpAnyH_ready (rs := [12]) (by kernel_rfl) (by simp) ?_
            refine AllReadyH.cons rfl (fun K' hK => ?_) AllReadyH.nil
            go_simp
            skip
            refine hK.out _ _ trivial (fun hHeld => ?_)
            clear hK K'
            simp only [List.setIfInBounds_toArray, List.set_cons_zero, List.set_cons_succ]
            refine wpAnyH_take (i := 13) (v := ?v13z15) rfl (by kernel_rfl) (by kernel_rfl) (by kernel_rfl) (fun _ _ _ h => h) (Or.inl ⟨by rfl, ?y13z15⟩) (by assumption) ?r13z15
            case y13z15 => (intro w hSw; (try dsimp only at hSw); go_simp; try with_reducible rfl)
            simp only [Act.put, List.getElem_toArray, List.getElem_cons_succ, List.getElem_cons_zero, List.setIfInBounds_toArray, List.set_cons_zero, List.set_cons_succ]
            refine wpAnyH_ready (rs := [14]) (by kernel_rfl) (by simp) ?_
            refine AllReadyH.cons rfl (fun K' hK => ?_) AllReadyH.nil
            go_simp
            skip
            refine hK.out _ _ trivial (fun hHeld => ?_)
            clear hK K'
            simp only [List.setIfInBounds_toArray, List.set_cons_zero, List.set_cons_succ]
            refine wpAnyH_done (by kernel_rfl) ?_ _
            go_wp2_with fail
            go_meet
            exact Lib.hid (HREL.out w7 a1 c1 a2 c2 a3 c3 G7.out ⟨O1.out.1.keep (.of (G56.out.trans G67.out)), O1.out.2⟩ ⟨O2.out.1.keep (.of G67.out), O2.out.2⟩ O3.out)
          · go_simp
            skip
            refine hK.out _ _ trivial (fun hHeld => ?_)
            clear hK K'
            simp only [List.setIfInBounds_toArray, List.set_cons_zero, List.set_cons_succ]
            refine wpAnyH_take (i := 9) (v := ?v9z16) rfl (by kernel_rfl) (by kernel_rfl) (by kernel_rfl) (fun _ _ _ h => h) (Or.inl ⟨by rfl, ?y9z16⟩) (by assumption) ?r9z16
            case y9z16 => (intro w hSw; (try dsimp only at hSw); go_simp; try with_reducible rfl)
            simp only [Act.put, List.getElem_toArray, List.getElem_cons_succ, List.getElem_cons_zero, List.setIfInBounds_toArray, List.set_cons_zero, List.set_cons_succ]
            refine wpAnyH_ready (rs := [5]) (by kernel_rfl) (by simp) ?_
            refine AllReadyH.cons rfl (fun K' hK => ?_) AllReadyH.nil
            go_simp
            go_at_call 39
            refine (HG1.out _ (G3.out.trans G5.out)).mono ?_
            rintro e w6 ⟨⟨a2, c2, rfl, hle, ho⟩, hg⟩
            have G56 := Lib.hid hg
            have G6 : Hid (W3.grownBy w6 none) := Lib.hid (G5.out.trans hg)
            have O2 := Lib.hid (And.intro (own_cells (B' := w.heap.size + 3) ho (by have := G5.out.size; have := S3.out; omega)) hle)
            have h0 := G6.out.cell d0 (by simp)
            have h13 := G6.out.cell d13 (by simp)
            have h14 := G6.out.cell d14 (by simp)
            clear hg ho hle
            refine hK.out _ _ trivial (fun hHeld => ?_)
            clear hK K'
            simp only [List.setIfInBounds_toArray, List.set_cons_zero, List.set_cons_succ]
            refine wpAnyH_ready (rs := [8]) (by kernel_rfl) (by simp) ?_
            refine AllReadyH.cons rfl (fun K' hK => ?_) AllReadyH.nil
            go_simp
            go_at_call 84
            refine (HO1.out _ (G3.out.trans G6.out)).mono ?_
            rintro e w7 ⟨⟨a3, c3, rfl, hle, ho⟩, hg⟩
            have G67 := Lib.hid hg
            have G7 : Hid (W3.grownBy w7 none) := Lib.hid (G6.out.trans hg)
            have O3 := Lib.hid (And.intro (own_cells (B' := w.heap.size + 3) ho (by have := G6.out.size; have := S3.out; omega)) hle)
            have B7 := blk_grown G7.out B3.out
            have i0 := G7.out.cell d0 (by simp)
            have i13 := G7.out.cell d13 (by simp)
            have i14 := G7.out.cell d14 (by simp)
            have j0 := frozen_of_row _ _ 0 _ _ B7
            have j13 := frozen_of_row _ _ 13 _ _ B7
            have j14 := frozen_of_row _ _ 14 _ _ B7
            clear hg ho hle B7
            refine hK.out _ _ trivial (fun hHeld => ?_)
            clear hK K'
            simp only [List.setIfInBounds_toArray, List.set_cons_zero, List.set_cons_succ]
            refine wpAnyH_ready (rs := [10]) (by kernel_rfl) (by simp) ?_
            refine AllReadyH.cons rfl (fun K' hK => ?_) AllReadyH.nil
            go_simp
            skip
            refine hK.out _ _ trivial (fun hHeld => ?_)
            clear hK K'
            simp only [List.setIfInBounds_toArray, List.set_cons_zero, List.set_cons_succ]
            refine wpAnyH_take (i := 11) (v := ?v11z17) rfl (by kernel_rfl) (by kernel_rfl) (by kernel_rfl) (fun _ _ _ h => h) (Or.inl ⟨by rfl, ?y11z17⟩) (by assumption) ?r11z17
            case y11z17 => (intro w hSw; (try dsimp only at hSw); go_simp; try with_reducible rfl)
            simp only [Act.put, List.getElem_toArray, List.getElem_cons_succ, List.getElem_cons_zero, List.setIfInBounds_toArray, List.set_cons_zero, List.set_cons_succ]
            refine wpAnyH_ready (rs := [12]) (by kernel_rfl) (by simp) ?_
            refine AllReadyH.cons rfl (fun K' hK => ?_) AllReadyH.nil
            go_simp
            skip
            refine hK.out _ _ trivial (fun hHeld => ?_)
            clear hK K'
            simp only [List.setIfInBounds_toArray, List.set_cons_zero, List.set_cons_succ]
            refine wpAnyH_take (i := 13) (v := ?v13z18) rfl (by kernel_rfl) (by kernel_rfl) (by kernel_rfl) (fun _ _ _ h => h) (Or.inl ⟨by rfl, ?y13z18⟩) (by assumption) ?r13z18
            case y13z18 => (intro w hSw; (try dsimp only at hSw); go_simp; try with_reducible rfl)
            simp only [Act.put, List.getElem_toArray, List.getElem_cons_succ, List.getElem_cons_zero, List.setIfInBounds_toArray, List.set_cons_zero, List.set_cons_succ]
            refine wpAnyH_ready (rs := [14]) (by kernel_rfl) (by simp) ?_
            refine AllReadyH.cons rfl (fun K' hK => ?_) AllReadyH.nil
            go_simp
            skip
            refine hK.out _ _ trivial (fun hHeld => ?_)
            clear hK K'
            simp only [List.setIfInBounds_toArray, List.set_cons_zero, List.set_cons_succ]
            refine wpAnyH_done (by kernel_rfl) ?_ _
            go_wp2_with fail
            go_meet
            exact Lib.hid (HREL.out w7 a1 c1 a2 c2 a3 c3 G7.out ⟨O1.out.1.keep (.of (G56.out.trans G67.out)), O1.out.2⟩ ⟨O2.out.1.keep (.of G67.out), O2.out.2⟩ O3.out)
        · go_simp
          skip
          refine hK.out _ _ trivial (fun hHeld => ?_)
          clear hK K'
          simp only [List.setIfInBounds_toArray, List.set_cons_zero, List.set_cons_succ]
          refine wpAnyH_ready (rs := [2]) (by kernel_rfl) (by simp) ?_
          refine AllReadyH.cons rfl (fun K' hK => ?_) AllReadyH.nil
          go_simp
          go_at_call 39
          refine (HI1.out _ (G3.out.trans (grown_drewT (grown_reflT _ _)))).mono ?_
          rintro e w5 ⟨⟨a1, c1, rfl, hle, ho⟩, hg⟩
          have G5 : Hid (W3.grownBy w5 none) := Lib.hid ((grown_drewT (grown_reflT W3 none)).trans hg)
          have O1 := Lib.hid (And.intro (own_cells (B' := w.heap.size + 3) ho (by exact Nat.le_of_eq S3.out.symm)) hle)
          have f0 := G5.out.cell d0 (by simp)
          have f13 := G5.out.cell d13 (by simp)
          have f14 := G5.out.cell d14 (by simp)
          clear hg ho hle
          refine hK.out _ _ trivial (fun hHeld => ?_)
          clear hK K'
          simp only [List.setIfInBounds_toArray, List.set_cons_zero, List.set_cons_succ]
          refine wpAnyH_take (i := 9) (v := ?v9z19) rfl (by kernel_rfl) (by kernel_rfl) (by kernel_rfl) (fun _ _ _ h => h) (Or.inl ⟨by rfl, ?y9z19⟩) (by assumption) ?r9z19
          case y9z19 => (intro w hSw; (try dsimp only at hSw); go_simp; try with_reducible rfl)
          simp only [Act.put, List.getElem_toArray, List.getElem_cons_succ, List.getElem_cons_zero, List.setIfInBounds_toArray, List.set_cons_zero, List.set_cons_succ]
          refine wpAnyH_ready (rs := [5]) (by kernel_rfl) (by simp) ?_
          refine AllReadyH.cons rfl (fun K' hK => ?_) AllReadyH.nil
          go_simp
          go_at_call 39
          refine (HG1.out _ (G3.out.trans G5.out)).mono ?_
          rintro e w6 ⟨⟨a2, c2, rfl, hle, ho⟩, hg⟩
          have G56 := Lib.hid hg
          have G6 : Hid (W3.grownBy w6 none) := Lib.hid (G5.out.trans hg)
          have O2 := Lib.hid (And.intro (own_cells (B' := w.heap.size + 3) ho (by have := G5.out.size; have := S3.out; omega)) hle)
          have h0 := G6.out.cell d0 (by simp)
          have h13 := G6.out.cell d13 (by simp)
          have h14 := G6.out.cell d14 (by simp)
          clear hg ho hle
          refine hK.out _ _ trivial (fun hHeld => ?_)
          clear hK K'
          simp only [List.setIfInBounds_toArray, List.set_cons_zero, List.set_cons_succ]
          refine wpAnyH_ready (rs := [8]) (by kernel_rfl) (by simp) ?_
          refine AllReadyH.cons rfl (fun K' hK => ?_) AllReadyH.nil
          go_simp
          go_at_call 84
          refine (HO1.out _ (G3.out.trans G6.out)).mono ?_
          rintro e w7 ⟨⟨a3, c3, rfl, hle, ho⟩, hg⟩
          have G67 := Lib.hid hg
          have G7 : Hid (W3.grownBy w7 none) := Lib.hid (G6.out.trans hg)
          have O3 := Lib.hid (And.intro (own_cells (B' := w.heap.size + 3) ho (by have := G6.out.size; have := S3.out; omega)) hle)
          have B7 := blk_grown G7.out B3.out
          have i0 := G7.out.cell d0 (by simp)
          have i13 := G7.out.cell d13 (by simp)
          have i14 := G7.out.cell d14 (by simp)
          have j0 := frozen_of_row _ _ 0 _ _ B7
          have j13 := frozen_of_row _ _ 13 _ _ B7
          have j14 := frozen_of_row _ _ 14 _ _ B7
          clear hg ho hle B7
          refine hK.out _ _ trivial (fun hHeld => ?_)
          clear hK K'
          simp only [List.setIfInBounds_toArray, List.set_cons_zero, List.set_cons_succ]
          refine wpAnyH_ready (rs := [10]) (by kernel_rfl) (by simp) ?_
          refine AllReadyH.cons rfl (fun K' hK => ?_) AllReadyH.nil
          go_simp
          skip
          refine hK.out _ _ trivial (fun hHeld => ?_)
          clear hK K'
          simp only [List.setIfInBounds_toArray, List.set_cons_zero, List.set_cons_succ]
          refine wpAnyH_take (i := 11) (v := ?v11z20) rfl (by kernel_rfl) (by kernel_rfl) (by kernel_rfl) (fun _ _ _ h => h) (Or.inl ⟨by rfl, ?y11z20⟩) (by assumption) ?r11z20
          case y11z20 => (intro w hSw; (try dsimp only at hSw); go_simp; try with_reducible rfl)
          simp only [Act.put, List.getElem_toArray, List.getElem_cons_succ, List.getElem_cons_zero, List.setIfInBounds_toArray, List.set_cons_zero, List.set_cons_succ]
          refine wpAnyH_ready (rs := [12]) (by kernel_rfl) (by simp) ?_
          refine AllReadyH.cons rfl (fun K' hK => ?_) AllReadyH.nil
          go_simp
          skip
          refine hK.out _ _ trivial (fun hHeld => ?_)
          clear hK K'
          simp only [List.setIfInBounds_toArray, List.set_cons_zero, List.set_cons_succ]
          refine wpAnyH_take (i := 13) (v := ?v13z21) rfl (by kernel_rfl) (by kernel_rfl) (by kernel_rfl) (fun _ _ _ h => h) (Or.inl ⟨by rfl, ?y13z21⟩) (by assumption) ?r13z21
          case y13z21 => (intro w hSw; (try dsimp only at hSw); go_simp; try with_reducible rfl)
          simp only [Act.put, List.getElem_toArray, List.getElem_cons_succ, List.getElem_cons_zero, List.setIfInBounds_toArray, List.set_cons_zero, List.set_cons_succ]
          refine wpAnyH_ready (rs := [14]) (by kernel_rfl) (by simp) ?_
          refine AllReadyH.cons rfl (fun K' hK => ?_) AllReadyH.nil
          go_simp
          skip
          refine hK.out _ _ trivial (fun hHeld => ?_)
          clear hK K'
          simp only [List.setIfInBounds_toArray, List.set_cons_zero, List.set_cons_succ]
          refine wpAnyH_done (by kernel_rfl) ?_ _
          go_wp2_with fail
          go_meet
          exact Lib.hid (HREL.out w7 a1 c1 a2 c2 a3 c3 G7.out ⟨O1.out.1.keep (.of (G56.out.trans G67.out)), O1.out.2⟩ ⟨O2.out.1.keep (.of G67.out), O2.out.2⟩ O3.out)
      · go_simp
        skip
        refine hK.out _ _ trivial (fun hHeld => ?_)
        clear hK K'
        simp only [List.setIfInBounds_toArray, List.set_cons_zero, List.set_cons_succ]
        refine wpAnyH_ready (rs := [2, 4]) (by kernel_rfl) (by simp) ?_
        refine (AllReadyH.cons rfl (fun K' hK => ?_) (AllReadyH.cons rfl (fun K' hK => ?_) AllReadyH.nil))
        · go_simp
          go_at_call 39
          refine (HI1.out _ (G3.out.trans (grown_drewT (grown_reflT _ _)))).mono ?_
          rintro e w5 ⟨⟨a1, c1, rfl, hle, ho⟩, hg⟩
          have G5 : Hid (W3.grownBy w5 none) := Lib.hid ((grown_drewT (grown_reflT W3 none)).trans hg)
          have O1 := Lib.hid (And.intro (own_cells (B' := w.heap.size + 3) ho (by exact Nat.le_of_eq S3.out.symm)) hle)
          have f0 := G5.out.cell d0 (by simp)
          have f13 := G5.out.cell d13 (by simp)
          have f14 := G5.out.cell d14 (by simp)
          clear hg ho hle
          refine hK.out _ _ trivial (fun hHeld => ?_)
          clear hK K'
          simp only [List.setIfInBounds_toArray, List.set_cons_zero, List.set_cons_succ]
          refine wpAnyH_ready (rs := [4]) (by kernel_rfl) (by simp) ?_
          refine AllReadyH.cons rfl (fun K' hK => ?_) AllReadyH.nil
          go_simp
          skip
          refine hK.out _ _ trivial (fun hHeld => ?_)
          clear hK K'
          simp only [List.setIfInBounds_toArray, List.set_cons_zero, List.set_cons_succ]
          refine wpAnyH_take (i := 9) (v := ?v9z22) rfl (by kernel_rfl) (by kernel_rfl) (by kernel_rfl) (fun _ _ _ h => h) (Or.inl ⟨by rfl, ?y9z22⟩) (by assumption) ?r9z22
          case y9z22 => (intro w hSw; (try dsimp only at hSw); go_simp; try with_reducible rfl)
          simp only [Act.put, List.getElem_toArray, List.getElem_cons_succ, List.getElem_cons_zero, List.setIfInBounds_toArray, List.set_cons_zero, List.set_cons_succ]
          refine wpAnyH_ready (rs := [5]) (by kernel_rfl) (by simp) ?_
          refine AllReadyH.cons rfl (fun K' hK => ?_) AllReadyH.nil
          go_simp
          go_at_call 39
          refine (HG1.out _ (G3.out.trans G5.out)).mono ?_
          rintro e w6 ⟨⟨a2, c2, rfl, hle, ho⟩, hg⟩
          have G56 := Lib.hid hg
          have G6 : Hid (W3.grownBy w6 none) := Lib.hid (G5.out.trans hg)
          have O2 := Lib.hid (And.intro (own_cells (B' := w.heap.size + 3) ho (by have := G5.out.size; have := S3.out; omega)) hle)
          have h0 := G6.out.cell d0 (by simp)
          have h13 := G6.out.cell d13 (by simp)
          have h14 := G6.out.cell d14 (by simp)
          clear hg ho hle
          refine hK.out _ _ trivial (fun hHeld => ?_)
          clear hK K'
          simp only [List.setIfInBounds_toArray, List.set_cons_zero, List.set_cons_succ]
          refine wpAnyH_ready (rs := [8]) (by kernel_rfl) (by simp) ?_
          refine AllReadyH.cons rfl (fun K' hK => ?_) AllReadyH.nil
          go_simp
          go_at_call 84
          refine (HO1.out _ (G3.out.trans G6.out)).mono ?_
          rintro e w7 ⟨⟨a3, c3, rfl, hle, ho⟩, hg⟩
          have G67 := Lib.hid hg
          have G7 : Hid (W3.grownBy w7 none) := Lib.hid (G6.out.trans hg)
          have O3 := Lib.hid (And.intro (own_cells (B' := w.heap.size + 3) ho (by have := G6.out.size; have := S3.out; omega)) hle)
          have B7 := blk_grown G7.out B3.out
          have i0 := G7.out.cell d0 (by simp)
          have i13 := G7.out.cell d13 (by simp)
          have i14 := G7.out.cell d14 (by simp)
          have j0 := frozen_of_row _ _ 0 _ _ B7
          have j13 := frozen_of_row _ _ 13 _ _ B7
          have j14 := frozen_of_row _ _ 14 _ _ B7
          clear hg ho hle B7
          refine hK.out _ _ trivial (fun hHeld => ?_)
          clear hK K'
          simp only [List.setIfInBounds_toArray, List.set_cons_zero, List.set_cons_succ]
          refine wpAnyH_ready (rs := [10]) (by kernel_rfl) (by simp) ?_
          refine AllReadyH.cons rfl (fun K' hK => ?_) AllReadyH.nil
          go_simp
          skip
          refine hK.out _ _ trivial (fun hHeld => ?_)
          clear hK K'
          simp only [List.setIfInBounds_toArray, List.set_cons_zero, List.set_cons_succ]
          refine wpAnyH_take (i := 11) (v := ?v11z23) rfl (by kernel_rfl) (by kernel_rfl) (by kernel_rfl) (fun _ _ _ h => h) (Or.inl ⟨by rfl, ?y11z23⟩) (by assumption) ?r11z23
          case y11z23 => (intro w hSw; (try dsimp only at hSw); go_simp; try with_reducible rfl)
          simp only [Act.put, List.getElem_toArray, List.getElem_cons_succ, List.getElem_cons_zero, List.setIfInBounds_toArray, List.set_cons_zero, List.set_cons_succ]
          refine wpAnyH_ready (rs := [12]) (by kernel_rfl) (by simp) ?_
          refine AllReadyH.cons rfl (fun K' hK => ?_) AllReadyH.nil
          go_simp
          skip
          refine hK.out _ _ trivial (fun hHeld => ?_)
          clear hK K'
          simp only [List.setIfInBounds_toArray, List.set_cons_zero, List.set_cons_succ]
          refine wpAnyH_take (i := 13) (v := ?v13z24) rfl (by kernel_rfl) (by kernel_rfl) (by kernel_rfl) (fun _ _ _ h => h) (Or.inl ⟨by rfl, ?y13z24⟩) (by assumption) ?r13z24
          case y13z24 => (intro w hSw; (try dsimp only at hSw); go_simp; try with_reducible rfl)
          simp only [Act.put, List.getElem_toArray, List.getElem_cons_succ, List.getElem_cons_zero, List.setIfInBounds_toArray, List.set_cons_zero, List.set_cons_succ]
          refine wpAnyH_ready (rs := [14]) (by kernel_rfl) (by simp) ?_
          refine AllReadyH.cons rfl (fun K' hK => ?_) AllReadyH.nil
          go_simp
          skip
          refine hK.out _ _ trivial (fun hHeld => ?_)
          clear hK K'
          simp only [List.setIfInBounds_toArray, List.set_cons_zero, List.set_cons_succ]
          refine wpAnyH_done (by kernel_rfl) ?_ _
          go_wp2_with fail
          go_meet
          exact Lib.hid (HREL.out w7 a1 c1 a2 c2 a3 c3 G7.out ⟨O1.out.1.keep (.of (G56.out.trans G67.out)), O1.out.2⟩ ⟨O2.out.1.keep (.of G67.out), O2.out.2⟩ O3.out)
        · go_simp
          skip
          refine hK.out _ _ trivial (fun hHeld => ?_)
          clear hK K'
          simp only [List.setIfInBounds_toArray, List.set_cons_zero, List.set_cons_succ]
          refine wpAnyH_ready (rs := [2]) (by kernel_rfl) (by simp) ?_
          refine AllReadyH.cons rfl (fun K' hK => ?_) AllReadyH.nil
          go_simp
          go_at_call 39
          refine (HI1.out _ (G3.out.trans (grown_drewT (grown_reflT _ _)))).mono ?_
          rintro e w5 ⟨⟨a1, c1, rfl, hle, ho⟩, hg⟩
          have G5 : Hid (W3.grownBy w5 none) := Lib.hid ((grown_drewT (grown_reflT W3 none)).trans hg)
          have O1 := Lib.hid (And.intro (own_cells (B' := w.heap.size + 3) ho (by exact Nat.le_of_eq S3.out.symm)) hle)
          have f0 := G5.out.cell d0 (by simp)
          have f13 := G5.out.cell d13 (by simp)
          have f14 := G5.out.cell d14 (by simp)
          clear hg ho hle
          refine hK.out _ _ trivial (fun hHeld => ?_)
          clear hK K'
          simp only [List.setIfInBounds_toArray, List.set_cons_zero, List.set_cons_succ]
          refine wpAnyH_take (i := 9) (v := ?v9z25) rfl (by kernel_rfl) (by kernel_rfl) (by kernel_rfl) (fun _ _ _ h => h) (Or.inl ⟨by rfl, ?y9z25⟩) (by assumption) ?r9z25
          case y9z25 => (intro w hSw; (try dsimp only at hSw); go_simp; try with_reducible rfl)
          simp only [Act.put, List.getElem_toArray, List.getElem_cons_succ, List.getElem_cons_zero, List.setIfInBounds_toArray, List.set_cons_zero, List.set_cons_succ]
          refine wpAnyH_ready (rs := [5]) (by kernel_rfl) (by simp) ?_
          refine AllReadyH.cons rfl (fun K' hK => ?_) AllReadyH.nil
          go_simp
          go_at_call 39
          refine (HG1.out _ (G3.out.trans G5.out)).mono ?_
          rintro e w6 ⟨⟨a2, c2, rfl, hle, ho⟩, hg⟩
          have G56 := Lib.hid hg
          have G6 : Hid (W3.grownBy w6 none) := Lib.hid (G5.out.trans hg)
          have O2 := Lib.hid (And.intro (own_cells (B' := w.heap.size + 3) ho (by have := G5.out.size; have := S3.out; omega)) hle)
          have h0 := G6.out.cell d0 (by simp)
          have h13 := G6.out.cell d13 (by simp)
          have h14 := G6.out.cell d14 (by simp)
          clear hg ho hle
          refine hK.out _ _ trivial (fun hHeld => ?_)
          clear hK K'
          simp only [List.setIfInBounds_toArray, List.set_cons_zero, List.set_cons_succ]
          refine wpAnyH_ready (rs := [8]) (by kernel_rfl) (by simp) ?_
          refine AllReadyH.cons rfl (fun K' hK => ?_) AllReadyH.nil
          go_simp
          go_at_call 84
          refine (HO1.out _ (G3.out.trans G6.out)).mono ?_
          rintro e w7 ⟨⟨a3, c3, rfl, hle, ho⟩, hg⟩
          have G67 := Lib.hid hg
          have G7 : Hid (W3.grownBy w7 none) := Lib.hid (G6.out.trans hg)
          have O3 := Lib.hid (And.intro (own_cells (B' := w.heap.size + 3) ho (by have := G6.out.size; have := S3.out; omega)) hle)
          have B7 := blk_grown G7.out B3.out
          have i0 := G7.out.cell d0 (by simp)
          have i13 := G7.out.cell d13 (by simp)
          have i14 := G7.out.cell d14 (by simp)
          have j0 := frozen_of_row _ _ 0 _ _ B7
          have j13 := frozen_of_row _ _ 13 _ _ B7
          have j14 := frozen_of_row _ _ 14 _ _ B7
          clear hg ho hle B7
          refine hK.out _ _ trivial (fun hHeld => ?_)
          clear hK K'
          simp only [List.setIfInBounds_toArray, List.set_cons_zero, List.set_cons_succ]
          refine wpAnyH_ready (rs := [10]) (by kernel_rfl) (by simp) ?_
          refine AllReadyH.cons rfl (fun K' hK => ?_) AllReadyH.nil
          go_simp
          skip
          refine hK.out _ _ trivial (fun hHeld => ?_)
          clear hK K'
          simp only [List.setIfInBounds_toArray, List.set_cons_zero, List.set_cons_succ]
          refine wpAnyH_take (i := 11) (v := ?v11z26) rfl (by kernel_rfl) (by kernel_rfl) (by kernel_rfl) (fun _ _ _ h => h) (Or.inl ⟨by rfl, ?y11z26⟩) (by assumption) ?r11z26
          case y11z26 => (intro w hSw; (try dsimp only at hSw); go_simp; try with_reducible rfl)
          simp only [Act.put, List.getElem_toArray, List.getElem_cons_succ, List.getElem_cons_zero, List.setIfInBounds_toArray, List.set_cons_zero, List.set_cons_succ]
          refine wpAnyH_ready (rs := [12]) (by kernel_rfl) (by simp) ?_
          refine AllReadyH.cons rfl (fun K' hK => ?_) AllReadyH.nil
          go_simp
          skip
          refine hK.out _ _ trivial (fun hHeld => ?_)
          clear hK K'
          simp only [List.setIfInBounds_toArray, List.set_cons_zero, List.set_cons_succ]
          refine wpAnyH_take (i := 13) (v := ?v13z27) rfl (by kernel_rfl) (by kernel_rfl) (by kernel_rfl) (fun _ _ _ h => h) (Or.inl ⟨by rfl, ?y13z27⟩) (by assumption) ?r13z27
          case y13z27 => (intro w hSw; (try dsimp only at hSw); go_simp; try with_reducible rfl)
          simp only [Act.put, List.getElem_toArray, List.getElem_cons_succ, List.getElem_cons_zero, List.setIfInBounds_toArray, List.set_cons_zero, List.set_cons_succ]
          refine wpAnyH_ready (rs := [14]) (by kernel_rfl) (by simp) ?_
          refine AllReadyH.cons rfl (fun K' hK => ?_) AllReadyH.nil
          go_simp
          skip
          refine hK.out _ _ trivial (fun hHeld => ?_)
          clear hK K'
          simp only [List.setIfInBounds_toArray, List.set_cons_zero, List.set_cons_succ]
          refine wpAnyH_done (by kernel_rfl) ?_ _
          go_wp2_with fail
          go_meet
          exact Lib.hid (HREL.out w7 a1 c1 a2 c2 a3 c3 G7.out ⟨O1.out.1.keep (.of (G56.out.trans G67.out)), O1.out.2⟩ ⟨O2.out.1.keep (.of G67.out), O2.out.2⟩ O3.out)
    · go_simp
      skip
      refine hK.out _ _ trivial (fun hHeld => ?_)
      clear hK K'
      simp only [List.setIfInBounds_toArray, List.set_cons_zero, List.set_cons_succ]
      refine wpAnyH_ready (rs := [1, 7]) (by kernel_rfl) (by simp) ?_
      refine (AllReadyH.cons rfl (fun K' hK => ?_) (AllReadyH.cons rfl (fun K' hK => ?_) AllReadyH.nil))
      · go_simp
        skip
        refine hK.out _ _ trivial (fun hHeld => ?_)
        clear hK K'
        simp only [List.setIfInBounds_toArray, List.set_cons_zero, List.set_cons_succ]
        refine wpAnyH_ready (rs := [2, 7]) (by kernel_rfl) (by simp) ?_
        refine (AllReadyH.cons rfl (fun K' hK => ?_) (AllReadyH.cons rfl (fun K' hK => ?_) AllReadyH.nil))
        · go_simp
          go_at_call 39
          refine (HI1.out _ (G3.out.trans (grown_drewT (grown_reflT _ _)))).mono ?_
          rintro e w5 ⟨⟨a1, c1, rfl, hle, ho⟩, hg⟩
          have G5 : Hid (W3.grownBy w5 none) := Lib.hid ((grown_drewT (grown_reflT W3 none)).trans hg)
          have O1 := Lib.hid (And.intro (own_cells (B' := w.heap.size + 3) ho (by exact Nat.le_of_eq S3.out.symm)) hle)
          have f0 := G5.out.cell d0 (by simp)
          have f13 := G5.out.cell d13 (by simp)
          have f14 := G5.out.cell d14 (by simp)
          clear hg ho hle
          refine hK.out _ _ trivial (fun hHeld => ?_)
          clear hK K'
          simp only [List.setIfInBounds_toArray, List.set_cons_zero, List.set_cons_succ]
          refine wpAnyH_ready (rs := [5, 7]) (by kernel_rfl) (by simp) ?_
          refine (AllReadyH.cons rfl (fun K' hK => ?_) (AllReadyH.cons rfl (fun K' hK => ?_) AllReadyH.nil))
          · go_simp
            go_at_call 39
            refine (HG1.out _ (G3.out.trans G5.out)).mono ?_
            rintro e w6 ⟨⟨a2, c2, rfl, hle, ho⟩, hg⟩
            have G56 := Lib.hid hg
            have G6 : Hid (W3.grownBy w6 none) := Lib.hid (G5.out.trans hg)
            have O2 := Lib.hid (And.intro (own_cells (B' := w.heap.size + 3) ho (by have := G5.out.size; have := S3.out; omega)) hle)
            have h0 := G6.out.cell d0 (by simp)
            have h13 := G6.out.cell d13 (by simp)
            have h14 := G6.out.cell d14 (by simp)
            clear hg ho hle
            refine hK.out _ _ trivial (fun hHeld => ?_)
            clear hK K'
            simp only [List.setIfInBounds_toArray, List.set_cons_zero, List.set_cons_succ]
            refine wpAnyH_ready (rs := [7]) (by kernel_rfl) (by simp) ?_
            refine AllReadyH.cons rfl (fun K' hK => ?_) AllReadyH.nil
            go_simp
            skip
            refine hK.out _ _ trivial (fun hHeld => ?_)
            clear hK K'
            simp only [List.setIfInBounds_toArray, List.set_cons_zero, List.set_cons_succ]
            refine wpAnyH_take (i := 9) (v := ?v9z28) rfl (by kernel_rfl) (by kernel_rfl) (by kernel_rfl) (fun _ _ _ h => h) (Or.inl ⟨by rfl, ?y9z28⟩) (by assumption) ?r9z28
            case y9z28 => (intro w hSw; (try dsimp only at hSw); go_simp; try with_reducible rfl)
            simp only [Act.put, List.getElem_toArray, List.getElem_cons_succ, List.getElem_cons_zero, List.setIfInBounds_toArray, List.set_cons_zero, List.set_cons_succ]
            refine wpAnyH_ready (rs := [8]) (by kernel_rfl) (by simp) ?_
            refine AllReadyH.cons rfl (fun K' hK => ?_) AllReadyH.nil
            go_simp
            go_at_call 84
            refine (HO1.out _ (G3.out.trans G6.out)).mono ?_
            rintro e w7 ⟨⟨a3, c3, rfl, hle, ho⟩, hg⟩
            have G67 := Lib.hid hg
            have G7 : Hid (W3.grownBy w7 none) := Lib.hid (G6.out.trans hg)
            have O3 := Lib.hid (And.intro (own_cells (B' := w.heap.size + 3) ho (by have := G6.out.size; have := S3.out; omega)) hle)
            have B7 := blk_grown G7.out B3.out
            have i0 := G7.out.cell d0 (by simp)
            have i13 := G7.out.cell d13 (by simp)
            have i14 := G7.out.cell d14 (by simp)
            have j0 := frozen_of_row _ _ 0 _ _ B7
            have j13 := frozen_of_row _ _ 13 _ _ B7
            have j14 := frozen_of_row _ _ 14 _ _ B7
            clear hg ho hle B7
            refine hK.out _ _ trivial (fun hHeld => ?_)
            clear hK K'
            simp only [List.setIfInBounds_toArray, List.set_cons_zero, List.set_cons_succ]
            refine wpAnyH_ready (rs := [10]) (by kernel_rfl) (by simp) ?_
            refine AllReadyH.cons rfl (fun K' hK => ?_) AllReadyH.nil
            go_simp
            skip
            refine hK.out _ _ trivial (fun hHeld => ?_)
            clear hK K'
            simp only [List.setIfInBounds_toArray, List.set_cons_zero, List.set_cons_succ]
            refine wpAnyH_take (i := 11) (v := ?v11z29) rfl (by kernel_rfl) (by kernel_rfl) (by kernel_rfl) (fun _ _ _ h => h) (Or.inl ⟨by rfl, ?y11z29⟩) (by assumption) ?r11z29
            case y11z29 => (intro w hSw; (try dsimp only at hSw); go_simp; try with_reducible rfl)
            simp only [Act.put, List.getElem_toArray, List.getElem_cons_succ, List.getElem_cons_zero, List.setIfInBounds_toArray, List.set_cons_zero, List.set_cons_succ]
            refine wpAnyH_ready (rs := [12]) (by kernel_rfl) (by simp) ?_
            refine AllReadyH.cons rfl (fun K' hK => ?_) AllReadyH.nil
            go_simp
            skip
            refine hK.out _ _ trivial (fun hHeld => ?_)
            clear hK K'
            simp only [List.setIfInBounds_toArray, List.set_cons_zero, List.set_cons_succ]
            refine wpAnyH_take (i := 13) (v := ?v13z30) rfl (by kernel_rfl) (by kernel_rfl) (by kernel_rfl) (fun _ _ _ h => h) (Or.inl ⟨by rfl, ?y13z30⟩) (by assumption) ?r13z30
            case y13z30 => (intro w hSw; (try dsimp only at hSw); go_simp; try with_reducible rfl)
            simp only [Act.put, List.getElem_toArray, List.getElem_cons_succ, List.getElem_cons_zero, List.setIfInBounds_toArray, List.set_cons_zero, List.set_cons_succ]
            refine wpAnyH_ready (rs := [14]) (by kernel_rfl) (by simp) ?_
            refine AllReadyH.cons rfl (fun K' hK => ?_) AllReadyH.nil
            go_simp
            skip
            refine hK.out _ _ trivial (fun hHeld => ?_)
            clear hK K'
            simp only [List.setIfInBounds_toArray, List.set_cons_zero, List.set_cons_succ]
            refine wpAnyH_done (by kernel_rfl) ?_ _
            go_wp2_with fail
            go_meet
            exact Lib.hid (HREL.out w7 a1 c1 a2 c2 a3 c3 G7.out ⟨O1.out.1.keep (.of (G56.out.trans G67.out)), O1.out.2⟩ ⟨O2.out.1.keep (.of G67.out), O2.out.2⟩ O3.out)
          · go_simp
            skip
            refine hK.out _ _ trivial (fun hHeld => ?_)
            clear hK K'
            simp only [List.setIfInBounds_toArray, List.set_cons_zero, List.set_cons_succ]
            refine wpAnyH_take (i := 9) (v := ?v9z31) rfl (by kernel_rfl) (by kernel_rfl) (by kernel_rfl) (fun _ _ _ h => h) (Or.inl ⟨by rfl, ?y9z31⟩) (by assumption) ?r9z31
            case y9z31 => (intro w hSw; (try dsimp only at hSw); go_simp; try with_reducible rfl)
            simp only [Act.put, List.getElem_toArray, List.getElem_cons_succ, List.getElem_cons_zero, List.setIfInBounds_toArray, List.set_cons_zero, List.set_cons_succ]
            refine wpAnyH_ready (rs := [5]) (by kernel_rfl) (by simp) ?_
            refine AllReadyH.cons rfl (fun K' hK => ?_) AllReadyH.nil
            go_simp
            go_at_call 39
            refine (HG1.out _ (G3.out.trans G5.out)).mono ?_
            rintro e w6 ⟨⟨a2, c2, rfl, hle, ho⟩, hg⟩
            have G56 := Lib.hid hg
            have G6 : Hid (W3.grownBy w6 none) := Lib.hid (G5.out.trans hg)
            have O2 := Lib.hid (And.intro (own_cells (B' := w.heap.size + 3) ho (by have := G5.out.size; have := S3.out; omega)) hle)
            have h0 := G6.out.cell d0 (by simp)
            have h13 := G6.out.cell d13 (by simp)
            have h14 := G6.out.cell d14 (by simp)
            clear hg ho hle
            refine hK.out _ _ trivial (fun hHeld => ?_)
            clear hK K'
            simp only [List.setIfInBounds_toArray, List.set_cons_zero, List.set_cons_succ]
            refine wpAnyH_ready (rs := [8]) (by kernel_rfl) (by simp) ?_
            refine AllReadyH.cons rfl (fun K' hK => ?_) AllReadyH.nil
            go_simp
            go_at_call 84
            refine (HO1.out _ (G3.out.trans G6.out)).mono ?_
            rintro e w7 ⟨⟨a3, c3, rfl, hle, ho⟩, hg⟩
            have G67 := Lib.hid hg
            have G7 : Hid (W3.grownBy w7 none) := Lib.hid (G6.out.trans hg)
            have O3 := Lib.hid (And.intro (own_cells (B' := w.heap.size + 3) ho (by have := G6.out.size; have := S3.out; omega)) hle)
            have B7 := blk_grown G7.out B3.out
            have i0 := G7.out.cell d0 (by simp)
            have i13 := G7.out.cell d13 (by simp)
            have i14 := G7.out.cell d14 (by simp)
            have j0 := frozen_of_row _ _ 0 _ _ B7
            have j13 := frozen_of_row _ _ 13 _ _ B7
            have j14 := frozen_of_row _ _ 14 _ _ B7
            clear hg ho hle B7
            refine hK.out _ _ trivial (fun hHeld => ?_)
            clear hK K'
            simp only [List.setIfInBounds_toArray, List.set_cons_zero, List.set_cons_succ]
            refine wpAnyH_ready (rs := [10]) (by kernel_rfl) (by simp) ?_
            refine AllReadyH.cons rfl (fun K' hK => ?_) AllReadyH.nil
            go_simp
            skip
            refine hK.out _ _ trivial (fun hHeld => ?_)
            clear hK K'
            simp only [List.setIfInBounds_toArray, List.set_cons_zero, List.set_cons_succ]
            refine wpAnyH_take (i := 11) (v := ?v11z32) rfl (by kernel_rfl) (by kernel_rfl) (by kernel_rfl) (fun _ _ _ h => h) (Or.inl ⟨by rfl, ?y11z32⟩) (by assumption) ?r11z32
            case y11z32 => (intro w hSw; (try dsimp only at hSw); go_simp; try with_reducible rfl)
            simp only [Act.put, List.getElem_toArray, List.getElem_cons_succ, List.getElem_cons_zero, List.setIfInBounds_toArray, List.set_cons_zero, List.set_cons_succ]
            refine wpAnyH_ready (rs := [12]) (by kernel_rfl) (by simp) ?_
            refine AllReadyH.cons rfl (fun K' hK => ?_) AllReadyH.nil
            go_simp
            skip
            refine hK.out _ _ trivial (fun hHeld => ?_)
            clear hK K'
            simp only [List.setIfInBounds_toArray, List.set_cons_zero, List.set_cons_succ]
            refine wpAnyH_take (i := 13) (v := ?v13z33) rfl (by kernel_rfl) (by kernel_rfl) (by kernel_rfl) (fun _ _ _ h => h) (Or.inl ⟨by rfl, ?y13z33⟩) (by assumption) ?r13z33
            case y13z33 => (intro w hSw; (try dsimp only at hSw); go_simp; try with_reducible rfl)
            simp only [Act.put, List.getElem_toArray, List.getElem_cons_succ, List.getElem_cons_zero, List.setIfInBounds_toArray, List.set_cons_zero, List.set_cons_succ]
            refine wpAnyH_ready (rs := [14]) (by kernel_rfl) (by simp) ?_
            refine AllReadyH.cons rfl (fun K' hK => ?_) AllReadyH.nil
            go_simp
            skip
            refine hK.out _ _ trivial (fun hHeld => ?_)
            clear hK K'
            simp only [List.setIfInBounds_toArray, List.set_cons_zero, List.set_cons_succ]
            refine wpAnyH_done (by kernel_rfl) ?_ _
            go_wp2_with fail
            go_meet
            exact Lib.hid (HREL.out w7 a1 c1 a2 c2 a3 c3 G7.out ⟨O1.out.1.keep (.of (G56.out.trans G67.out)), O1.out.2⟩ ⟨O2.out.1.keep (.of G67.out), O2.out.2⟩ O3.out)
        · go_simp
          skip
          refine hK.out _ _ trivial (fun hHeld => ?_)
          clear hK K'
          simp only [List.setIfInBounds_toArray, List.set_cons_zero, List.set_cons_succ]
          refine wpAnyH_ready (rs := [2]) (by kernel_rfl) (by simp) ?_
          refine AllReadyH.cons rfl (fun K' hK => ?_) AllReadyH.nil
          go_simp
          go_at_call 39
          refine (HI1.out _ (G3.out.trans (grown_drewT (grown_reflT _ _)))).mono ?_
          rintro e w5 ⟨⟨a1, c1, rfl, hle, ho⟩, hg⟩
          have G5 : Hid (W3.grownBy w5 none) := Lib.hid ((grown_drewT (grown_reflT W3 none)).trans hg)
          have O1 := Lib.hid (And.intro (own_cells (B' := w.heap.size + 3) ho (by exact Nat.le_of_eq S3.out.symm)) hle)
          have f0 := G5.out.cell d0 (by simp)
          have f13 := G5.out.cell d13 (by simp)
          have f14 := G5.out.cell d14 (by simp)
          clear hg ho hle
          refine hK.out _ _ trivial (fun hHeld => ?_)
          clear hK K'
          simp only [List.setIfInBounds_toArray, List.set_cons_zero, List.set_cons_succ]
          refine wpAnyH_take (i := 9) (v := ?v9z34) rfl (by kernel_rfl) (by kernel_rfl) (by kernel_rfl) (fun _ _ _ h => h) (Or.inl ⟨by rfl, ?y9z34⟩) (by assumption) ?r9z34
          case y9z34 => (intro w hSw; (try dsimp only at hSw); go_simp; try with_reducible rfl)
          simp only [Act.put, List.getElem_toArray, List.getElem_cons_succ, List.getElem_cons_zero, List.setIfInBounds_toArray, List.set_cons_zero, List.set_cons_succ]
          refine wpAnyH_ready (rs := [5]) (by kernel_rfl) (by simp) ?_
          refine AllReadyH.cons rfl (fun K' hK => ?_) AllReadyH.nil
          go_simp
          go_at_call 39
          refine (HG1.out _ (G3.out.trans G5.out)).mono ?_
          rintro e w6 ⟨⟨a2, c2, rfl, hle, ho⟩, hg⟩
          have G56 := Lib.hid hg
          have G6 : Hid (W3.grownBy w6 none) := Lib.hid (G5.out.trans hg)
          have O2 := Lib.hid (And.intro (own_cells (B' := w.heap.size + 3) ho (by have := G5.out.size; have := S3.out; omega)) hle)
          have h0 := G6.out.cell d0 (by simp)
          have h13 := G6.out.cell d13 (by simp)
          have h14 := G6.out.cell d14 (by simp)
          clear hg ho hle
          refine hK.out _ _ trivial (fun hHeld => ?_)
          clear hK K'
          simp only [List.setIfInBounds_toArray, List.set_cons_zero, List.set_cons_succ]
          refine wpAnyH_ready (rs := [8]) (by kernel_rfl) (by simp) ?_
          refine AllReadyH.cons rfl (fun K' hK => ?_) AllReadyH.nil
          go_simp
          go_at_call 84
          refine (HO1.out _ (G3.out.trans G6.out)).mono ?_
          rintro e w7 ⟨⟨a3, c3, rfl, hle, ho⟩, hg⟩
          have G67 := Lib.hid hg
          have G7 : Hid (W3.grownBy w7 none) := Lib.hid (G6.out.trans hg)
          have O3 := Lib.hid (And.intro (own_cells (B' := w.heap.size + 3) ho (by have := G6.out.size; have := S3.out; omega)) hle)
          have B7 := blk_grown G7.out B3.out
          have i0 := G7.out.cell d0 (by simp)
          have i13 := G7.out.cell d13 (by simp)
          have i14 := G7.out.cell d14 (by simp)
          have j0 := frozen_of_row _ _ 0 _ _ B7
          have j13 := frozen_of_row _ _ 13 _ _ B7
          have j14 := frozen_of_row _ _ 14 _ _ B7
          clear hg ho hle B7
          refine hK.out _ _ trivial (fun hHeld => ?_)
          clear hK K'
          simp only [List.setIfInBounds_toArray, List.set_cons_zero, List.set_cons_succ]
          refine wpAnyH_ready (rs := [10]) (by kernel_rfl) (by simp) ?_
          refine AllReadyH.cons rfl (fun K' hK => ?_) AllReadyH.nil
          go_simp
          skip
          refine hK.out _ _ trivial (fun hHeld => ?_)
          clear hK K'
          simp only [List.setIfInBounds_toArray, List.set_cons_zero, List.set_cons_succ]
          refine wpAnyH_take (i := 11) (v := ?v11z35) rfl (by kernel_rfl) (by kernel_rfl) (by kernel_rfl) (fun _ _ _ h => h) (Or.inl ⟨by rfl, ?y11z35⟩) (by assumption) ?r11z35
          case y11z35 => (intro w hSw; (try dsimp only at hSw); go_simp; try with_reducible rfl)
          simp only [Act.put, List.getElem_toArray, List.getElem_cons_succ, List.getElem_cons_zero, List.setIfInBounds_toArray, List.set_cons_zero, List.set_cons_succ]
          refine wpAnyH_ready (rs := [12]) (by kernel_rfl) (by simp) ?_
          refine AllReadyH.cons rfl (fun K' hK => ?_) AllReadyH.nil
          go_simp
          skip
          refine hK.out _ _ trivial (fun hHeld => ?_)
          clear hK K'
          simp only [List.setIfInBounds_toArray, List.set_cons_zero, List.set_cons_succ]
          refine wpAnyH_take (i := 13) (v := ?v13z36) rfl (by kernel_rfl) (by kernel_rfl) (by kernel_rfl) (fun _ _ _ h => h) (Or.inl ⟨by rfl, ?y13z36⟩) (by assumption) ?r13z36
          case y13z36 => (intro w hSw; (try dsimp only at hSw); go_simp; try with_reducible rfl)
          simp only [Act.put, List.getElem_toArray, List.getElem_cons_succ, List.getElem_cons_zero, List.setIfInBounds_toArray, List.set_cons_zero, List.set_cons_succ]
          refine wpAnyH_ready (rs := [14]) (by kernel_rfl) (by simp) ?_
          refine AllReadyH.cons rfl (fun K' hK => ?_) AllReadyH.nil
          go_simp
          skip
          refine hK.out _ _ trivial (fun hHeld => ?_)
          clear hK K'
          simp only [List.setIfInBounds_toArray, List.set_cons_zero, List.set_cons_succ]
          refine wpAnyH_done (by kernel_rfl) ?_ _
          go_wp2_with fail
          go_meet
          exact Lib.hid (HREL.out w7 a1 c1 a2 c2 a3 c3 G7.out ⟨O1.out.1.keep (.of (G56.out.trans G67.out)), O1.out.2⟩ ⟨O2.out.1.keep (.of G67.out), O2.out.2⟩ O3.out)
      · go_simp
        skip
        refine hK.out _ _ trivial (fun hHeld => ?_)
        clear hK K'
        simp only [List.setIfInBounds_toArray, List.set_cons_zero, List.set_cons_succ]
        refine wpAnyH_ready (rs := [1]) (by kernel_rfl) (by simp) ?_
        refine AllReadyH.cons rfl (fun K' hK => ?_) AllReadyH.nil
        go_simp
        skip
        refine hK.out _ _ trivial (fun hHeld => ?_)
        clear hK K'
        simp only [List.setIfInBounds_toArray, List.set_cons_zero, List.set_cons_succ]
        refine wpAnyH_ready (rs := [2]) (by kernel_rfl) (by simp) ?_
        refine AllReadyH.cons rfl (fun K' hK => ?_) AllReadyH.nil
        go_simp
        go_at_call 39
        refine (HI1.out _ (G3.out.trans (grown_drewT (grown_reflT _ _)))).mono ?_
        rintro e w5 ⟨⟨a1, c1, rfl, hle, ho⟩, hg⟩
        have G5 : Hid (W3.grownBy w5 none) := Lib.hid ((grown_drewT (grown_reflT W3 none)).trans hg)
        have O1 := Lib.hid (And.intro (own_cells (B' := w.heap.size + 3) ho (by exact Nat.le_of_eq S3.out.symm)) hle)
        have f0 := G5.out.cell d0 (by simp)
        have f13 := G5.out.cell d13 (by simp)
        have f14 := G5.out.cell d14 (by simp)
        clear hg ho hle
        refine hK.out _ _ trivial (fun hHeld => ?_)
        clear hK K'
        simp only [List.setIfInBounds_toArray, List.set_cons_zero, List.set_cons_succ]
        refine wpAnyH_take (i := 9) (v := ?v9z37) rfl (by kernel_rfl) (by kernel_rfl) (by kernel_rfl) (fun _ _ _ h => h) (Or.inl ⟨by rfl, ?y9z37⟩) (by assumption) ?r9z37
        case y9z37 => (intro w hSw; (try dsimp only at hSw); go_simp; try with_reducible rfl)
        simp only [Act.put, List.getElem_toArray, List.getElem_cons_succ, List.getElem_cons_zero, List.setIfInBounds_toArray, List.set_cons_zero, List.set_cons_succ]
        refine wpAnyH_ready (rs := [5]) (by kernel_rfl) (by simp) ?_
        refine AllReadyH.cons rfl (fun K' hK => ?_) AllReadyH.nil
        go_simp
        go_at_call 39
        refine (HG1.out _ (G3.out.trans G5.out)).mono ?_
        rintro e w6 ⟨⟨a2, c2, rfl, hle, ho⟩, hg⟩
        have G56 := Lib.hid hg
        have G6 : Hid (W3.grownBy w6 none) := Lib.hid (G5.out.trans hg)
        have O2 := Lib.hid (And.intro (own_cells (B' := w.heap.size + 3) ho (by have := G5.out.size; have := S3.out; omega)) hle)
        have h0 := G6.out.cell d0 (by simp)
        have h13 := G6.out.cell d13 (by simp)
        have h14 := G6.out.cell d14 (by simp)
        clear hg ho hle
        refine hK.out _ _ trivial (fun hHeld => ?_)
        clear hK K'
        simp only [List.setIfInBounds_toArray, List.set_cons_zero, List.set_cons_succ]
        refine wpAnyH_ready (rs := [8]) (by kernel_rfl) (by simp) ?_
        refine AllReadyH.cons rfl (fun K' hK => ?_) AllReadyH.nil
        go_simp
        go_at_call 84
        refine (HO1.out _ (G3.out.trans G6.out)).mono ?_
        rintro e w7 ⟨⟨a3, c3, rfl, hle, ho⟩, hg⟩
        have G67 := Lib.hid hg
        have G7 : Hid (W3.grownBy w7 none) := Lib.hid (G6.out.trans hg)
        have O3 := Lib.hid (And.intro (own_cells (B' := w.heap.size + 3) ho (by have := G6.out.size; have := S3.out; omega)) hle)
        have B7 := blk_grown G7.out B3.out
        have i0 := G7.out.cell d0 (by simp)
        have i13 := G7.out.cell d13 (by simp)
        have i14 := G7.out.cell d14 (by simp)
        have j0 := frozen_of_row _ _ 0 _ _ B7
        have j13 := frozen_of_row _ _ 13 _ _ B7
        have j14 := frozen_of_row _ _ 14 _ _ B7
        clear hg ho hle B7
        refine hK.out _ _ trivial (fun hHeld => ?_)
        clear hK K'
        simp only [List.setIfInBounds_toArray, List.set_cons_zero, List.set_cons_succ]
        refine wpAnyH_ready (rs := [10]) (by kernel_rfl) (by simp) ?_
        refine AllReadyH.cons rfl (fun K' hK => ?_) AllReadyH.nil
        go_simp
        skip
        refine hK.out _ _ trivial (fun hHeld => ?_)
        clear hK K'
        simp only [List.setIfInBounds_toArray, List.set_cons_zero, List.set_cons_succ]
        refine wpAnyH_take (i := 11) (v := ?v11z38) rfl (by kernel_rfl) (by kernel_rfl) (by kernel_rfl) (fun _ _ _ h => h) (Or.inl ⟨by rfl, ?y11z38⟩) (by assumption) ?r11z38
        case y11z38 => (intro w hSw; (try dsimp only at hSw); go_simp; try with_reducible rfl)
        simp only [Act.put, List.getElem_toArray, List.getElem_cons_succ, List.getElem_cons_zero, List.setIfInBounds_toArray, List.set_cons_zero, List.set_cons_succ]
        refine wpAnyH_ready (rs := [12]) (by kernel_rfl) (by simp) ?_
        refine AllReadyH.cons rfl (fun K' hK => ?_) AllReadyH.nil
        go_simp
        skip
        refine hK.out _ _ trivial (fun hHeld => ?_)
        clear hK K'
        simp only [List.setIfInBounds_toArray, List.set_cons_zero, List.set_cons_succ]
        refine wpAnyH_take (i := 13) (v := ?v13z39) rfl (by kernel_rfl) (by kernel_rfl) (by kernel_rfl) (fun _ _ _ h => h) (Or.inl ⟨by rfl, ?y13z39⟩) (by assumption) ?r13z39
        case y13z39 => (intro w hSw; (try dsimp only at hSw); go_simp; try with_reducible rfl)
        simp only [Act.put, List.getElem_toArray, List.getElem_cons_succ, List.getElem_cons_zero, List.setIfInBounds_toArray, List.set_cons_zero, List.set_cons_succ]
        refine wpAnyH_ready (rs := [14]) (by kernel_rfl) (by simp) ?_
        refine AllReadyH.cons rfl (fun K' hK => ?_) AllReadyH.nil
        go_simp
        skip
        refine hK.out _ _ trivial (fun hHeld => ?_)
        clear hK K'
        simp only [List.setIfInBounds_toArray, List.set_cons_zero, List.set_cons_succ]
        refine wpAnyH_done (by kernel_rfl) ?_ _
        go_wp2_with fail
        go_meet
        exact Lib.hid (HREL.out w7 a1 c1 a2 c2 a3 c3 G7.out ⟨O1.out.1.keep (.of (G56.out.trans G67.out)), O1.out.2⟩ ⟨O2.out.1.keep (.of G67.out), O2.out.2⟩ O3.out)
    · go_simp
      skip
      refine hK.out _ _ trivial (fun hHeld => ?_)
      clear hK K'
      simp only [List.setIfInBounds_toArray, List.set_cons_zero, List.set_cons_succ]
      refine wpAnyH_ready (rs := [1, 4]) (by kernel_rfl) (by simp) ?_
      refine (AllReadyH.cons rfl (fun K' hK => ?_) (AllReadyH.cons rfl (fun K' hK => ?_) AllReadyH.nil))
      · go_simp
        skip
        refine hK.out _ _ trivial (fun hHeld => ?_)
        clear hK K'
        simp only [List.setIfInBounds_toArray, List.set_cons_zero, List.set_cons_succ]
        refine wpAnyH_ready (rs := [2, 4]) (by kernel_rfl) (by simp) ?_
        refine (AllReadyH.cons rfl (fun K' hK => ?_) (AllReadyH.cons rfl (fun K' hK => ?_) AllReadyH.nil))
        · go_simp
          go_at_call 39
          refine (HI1.out _ (G3.out.trans (grown_drewT (grown_reflT _ _)))).mono ?_
          rintro e w5 ⟨⟨a1, c1, rfl, hle, ho⟩, hg⟩
          have G5 : Hid (W3.grownBy w5 none) := Lib.hid ((grown_drewT (grown_reflT W3 none)).trans hg)
          have O1 := Lib.hid (And.intro (own_cells (B' := w.heap.size + 3) ho (by exact Nat.le_of_eq S3.out.symm)) hle)
          have f0 := G5.out.cell d0 (by simp)
          have f13 := G5.out.cell d13 (by simp)
          have f14 := G5.out.cell d14 (by simp)
          clear hg ho hle
          refine hK.out _ _ trivial (fun hHeld => ?_)
          clear hK K'
          simp only [List.setIfInBounds_toArray, List.set_cons_zero, List.set_cons_succ]
          refine wpAnyH_ready (rs := [4]) (by kernel_rfl) (by simp) ?_
          refine AllReadyH.cons rfl (fun K' hK => ?_) AllReadyH.nil
          go_simp
          skip
          refine hK.out _ _ trivial (fun hHeld => ?_)
          clear hK K'
          simp only [List.setIfInBounds_toArray, List.set_cons_zero, List.set_cons_succ]
          refine wpAnyH_take (i := 9) (v := ?v9z40) rfl (by kernel_rfl) (by kernel_rfl) (by kernel_rfl) (fun _ _ _ h => h) (Or.inl ⟨by rfl, ?y9z40⟩) (by assumption) ?r9z40
          case y9z40 => (intro w hSw; (try dsimp only at hSw); go_simp; try with_reducible rfl)
          simp only [Act.put, List.getElem_toArray, List.getElem_cons_succ, List.getElem_cons_zero, List.setIfInBounds_toArray, List.set_cons_zero, List.set_cons_succ]
          refine wpAnyH_ready (rs := [5]) (by kernel_rfl) (by simp) ?_
          refine AllReadyH.cons rfl (fun K' hK => ?_) AllReadyH.nil
          go_simp
          go_at_call 39
          refine (HG1.out _ (G3.out.trans G5.out)).mono ?_
          rintro e w6 ⟨⟨a2, c2, rfl, hle, ho⟩, hg⟩
          have G56 := Lib.hid hg
          have G6 : Hid (W3.grownBy w6 none) := Lib.hid (G5.out.trans hg)
          have O2 := Lib.hid (And.intro (own_cells (B' := w.heap.size + 3) ho (by have := G5.out.size; have := S3.out; omega)) hle)
          have h0 := G6.out.cell d0 (by simp)
          have h13 := G6.out.cell d13 (by simp)
          have h14 := G6.out.cell d14 (by simp)
          clear hg ho hle
          refine hK.out _ _ trivial (fun hHeld => ?_)
          clear hK K'
          simp only [List.setIfInBounds_toArray, List.set_cons_zero, List.set_cons_succ]
          refine wpAnyH_ready (rs := [8]) (by kernel_rfl) (by simp) ?_
          refine AllReadyH.cons rfl (fun K' hK => ?_) AllReadyH.nil
          go_simp
          go_at_call 84
          refine (HO1.out _ (G3.out.trans G6.out)).mono ?_
          rintro e w7 ⟨⟨a3, c3, rfl, hle, ho⟩, hg⟩
          have G67 := Lib.hid hg
          have G7 : Hid (W3.grownBy w7 none) := Lib.hid (G6.out.trans hg)
          have O3 := Lib.hid (And.intro (own_cells (B' := w.heap.size + 3) ho (by have := G6.out.size; have := S3.out; omega)) hle)
          have B7 := blk_grown G7.out B3.out
          have i0 := G7.out.cell d0 (by simp)
          have i13 := G7.out.cell d13 (by simp)
          have i14 := G7.out.cell d14 (by simp)
          have j0 := frozen_of_row _ _ 0 _ _ B7
          have j13 := frozen_of_row _ _ 13 _ _ B7
          have j14 := frozen_of_row _ _ 14 _ _ B7
          clear hg ho hle B7
          refine hK.out _ _ trivial (fun hHeld => ?_)
          clear hK K'
          simp only [List.setIfInBounds_toArray, List.set_cons_zero, List.set_cons_succ]
          refine wpAnyH_ready (rs := [10]) (by kernel_rfl) (by simp) ?_
          refine AllReadyH.cons rfl (fun K' hK => ?_) AllReadyH.nil
          go_simp
          skip
          refine hK.out _ _ trivial (fun hHeld => ?_)
          clear hK K'
          simp only [List.setIfInBounds_toArray, List.set_cons_zero, List.set_cons_succ]
          refine wpAnyH_take (i := 11) (v := ?v11z41) rfl (by kernel_rfl) (by kernel_rfl) (by kernel_rfl) (fun _ _ _ h => h) (Or.inl ⟨by rfl, ?y11z41⟩) (by assumption) ?r11z41
          case y11z41 => (intro w hSw; (try dsimp only at hSw); go_simp; try with_reducible rfl)
          simp only [Act.put, List.getElem_toArray, List.getElem_cons_succ, List.getElem_cons_zero, List.setIfInBounds_toArray, List.set_cons_zero, List.set_cons_succ]
          refine wpAnyH_ready (rs := [12]) (by kernel_rfl) (by simp) ?_
          refine AllReadyH.cons rfl (fun K' hK => ?_) AllReadyH.nil
          go_simp
          skip
          refine hK.out _ _ trivial (fun hHeld => ?_)
          clear hK K'
          simp only [List.setIfInBounds_toArray, List.set_cons_zero, List.set_cons_succ]
          refine wpAnyH_take (i := 13) (v := ?v13z42) rfl (by kernel_rfl) (by kernel_rfl) (by kernel_rfl) (fun _ _ _ h => h) (Or.inl ⟨by rfl, ?y13z42⟩) (by assumption) ?r13z42
          case y13z42 => (intro w hSw; (try dsimp only at hSw); go_simp; try with_reducible rfl)
          simp only [Act.put, List.getElem_toArray, List.getElem_cons_succ, List.getElem_cons_zero, List.setIfInBounds_toArray, List.set_cons_zero, List.set_cons_succ]
          refine wpAnyH_ready (rs := [14]) (by kernel_rfl) (by simp) ?_
          refine AllReadyH.cons rfl (fun K' hK => ?_) AllReadyH.nil
          go_simp
          skip
          refine hK.out _ _ trivial (fun hHeld => ?_)
          clear hK K'
          simp only [List.setIfInBounds_toArray, List.set_cons_zero, List.set_cons_succ]
          refine wpAnyH_done (by kernel_rfl) ?_ _
          go_wp2_with fail
          go_meet
          exact Lib.hid (HREL.out w7 a1 c1 a2 c2 a3 c3 G7.out ⟨O1.out.1.keep (.of (G56.out.trans G67.out)), O1.out.2⟩ ⟨O2.out.1.keep (.of G67.out), O2.out.2⟩ O3.out)
        · go_simp
          skip
          refine hK.out _ _ trivial (fun hHeld => ?_)
          clear hK K'
          simp only [List.setIfInBounds_toArray, List.set_cons_zero, List.set_cons_succ]
          refine wpAnyH_ready (rs := [2]) (by kernel_rfl) (by simp) ?_
          refine AllReadyH.cons rfl (fun K' hK => ?_) AllReadyH.nil
          go_simp
          go_at_call 39
          refine (HI1.out _ (G3.out.trans (grown_drewT (grown_reflT _ _)))).mono ?_
          rintro e w5 ⟨⟨a1, c1, rfl, hle, ho⟩, hg⟩
          have G5 : Hid (W3.grownBy w5 none) := Lib.hid ((grown_drewT (grown_reflT W3 none)).trans hg)
          have O1 := Lib.hid (And.intro (own_cells (B' := w.heap.size + 3) ho (by exact Nat.le_of_eq S3.out.symm)) hle)
          have f0 := G5.out.cell d0 (by simp)
          have f13 := G5.out.cell d13 (by simp)
          have f14 := G5.out.cell d14 (by simp)
          clear hg ho hle
          refine hK.out _ _ trivial (fun hHeld => ?_)
          clear hK K'
          simp only [List.setIfInBounds_toArray, List.set_cons_zero, List.set_cons_succ]
          refine wpAnyH_take (i := 9) (v := ?v9z43) rfl (by kernel_rfl) (by kernel_rfl) (by kernel_rfl) (fun _ _ _ h => h) (Or.inl ⟨by rfl, ?y9z43⟩) (by assumption) ?r9z43
          case y9z43 => (intro w hSw; (try dsimp only at hSw); go_simp; try with_reducible rfl)
          simp only [Act.put, List.getElem_toArray, List.getElem_cons_succ, List.getElem_cons_zero, List.setIfInBounds_toArray, List.set_cons_zero, List.set_cons_succ]
          refine wpAnyH_ready (rs := [5]) (by kernel_rfl) (by simp) ?_
          refine AllReadyH.cons rfl (fun K' hK => ?_) AllReadyH.nil
          go_simp
          go_at_call 39
          refine (HG1.out _ (G3.out.trans G5.out)).mono ?_
          rintro e w6 ⟨⟨a2, c2, rfl, hle, ho⟩, hg⟩
          have G56 := Lib.hid hg
          have G6 : Hid (W3.grownBy w6 none) := Lib.hid (G5.out.trans hg)
          have O2 := Lib.hid (And.intro (own_cells (B' := w.heap.size + 3) ho (by have := G5.out.size; have := S3.out; omega)) hle)
          have h0 := G6.out.cell d0 (by simp)
          have h13 := G6.out.cell d13 (by simp)
          have h14 := G6.out.cell d14 (by simp)
          clear hg ho hle
          refine hK.out _ _ trivial (fun hHeld => ?_)
          clear hK K'
          simp only [List.setIfInBounds_toArray, List.set_cons_zero, List.set_cons_succ]
          refine wpAnyH_ready (rs := [8]) (by kernel_rfl) (by simp) ?_
          refine AllReadyH.cons rfl (fun K' hK => ?_) AllReadyH.nil
          go_simp
          go_at_call 84
          refine (HO1.out _ (G3.out.trans G6.out)).mono ?_
          rintro e w7 ⟨⟨a3, c3, rfl, hle, ho⟩, hg⟩
          have G67 := Lib.hid hg
          have G7 : Hid (W3.grownBy w7 none) := Lib.hid (G6.out.trans hg)
          have O3 := Lib.hid (And.intro (own_cells (B' := w.heap.size + 3) ho (by have := G6.out.size; have := S3.out; omega)) hle)
          have B7 := blk_grown G7.out B3.out
          have i0 := G7.out.cell d0 (by simp)
          have i13 := G7.out.cell d13 (by simp)
          have i14 := G7.out.cell d14 (by simp)
          have j0 := frozen_of_row _ _ 0 _ _ B7
          have j13 := frozen_of_row _ _ 13 _ _ B7
          have j14 := frozen_of_row _ _ 14 _ _ B7
          clear hg ho hle B7
          refine hK.out _ _ trivial (fun hHeld => ?_)
          clear hK K'
          simp only [List.setIfInBounds_toArray, List.set_cons_zero, List.set_cons_succ]
          refine wpAnyH_ready (rs := [10]) (by kernel_rfl) (by simp) ?_
          refine AllReadyH.cons rfl (fun K' hK => ?_) AllReadyH.nil
          go_simp
          skip
          refine hK.out _ _ trivial (fun hHeld => ?_)
          clear hK K'
          simp only [List.setIfInBounds_toArray, List.set_cons_zero, List.set_cons_succ]
          refine wpAnyH_take (i := 11) (v := ?v11z44) rfl (by kernel_rfl) (by kernel_rfl) (by kernel_rfl) (fun _ _ _ h => h) (Or.inl ⟨by rfl, ?y11z44⟩) (by assumption) ?r11z44
          case y11z44 => (intro w hSw; (try dsimp only at hSw); go_simp; try with_reducible rfl)
          simp only [Act.put, List.getElem_toArray, List.getElem_cons_succ, List.getElem_cons_zero, List.setIfInBounds_toArray, List.set_cons_zero, List.set_cons_succ]
          refine wpAnyH_ready (rs := [12]) (by kernel_rfl) (by simp) ?_
          refine AllReadyH.cons rfl (fun K' hK => ?_) AllReadyH.nil
          go_simp
          skip
          refine hK.out _ _ trivial (fun hHeld => ?_)
          clear hK K'
          simp only [List.setIfInBounds_toArray, List.set_cons_zero, List.set_cons_succ]
          refine wpAnyH_take (i := 13) (v := ?v13z45) rfl (by kernel_rfl) (by kernel_rfl) (by kernel_rfl) (fun _ _ _ h => h) (Or.inl ⟨by rfl, ?y13z45⟩) (by assumption) ?r13z45
          case y13z45 => (intro w hSw; (try dsimp only at hSw); go_simp; try with_reducible rfl)
          simp only [Act.put, List.getElem_toArray, List.getElem_cons_succ, List.getElem_cons_zero, List.setIfInBounds_toArray, List.set_cons_zero, List.set_cons_succ]
          refine wpAnyH_ready (rs := [14]) (by kernel_rfl) (by simp) ?_
          refine AllReadyH.cons rfl (fun K' hK => ?_) AllReadyH.nil
          go_simp
          skip
          refine hK.out _ _ trivial (fun hHeld => ?_)
          clear hK K'
          simp only [List.setIfInBounds_toArray, List.set_cons_zero, List.set_cons_succ]
          refine wpAnyH_done (by kernel_rfl) ?_ _
          go_wp2_with fail
          go_meet
          exact Lib.hid (HREL.out w7 a1 c1 a2 c2 a3 c3 G7.out ⟨O1.out.1.keep (.of (G56.out.trans G67.out)), O1.out.2⟩ ⟨O2.out.1.keep (.of G67.out), O2.out.2⟩ O3.out)
      · go_simp
        skip
        refine hK.out _ _ trivial (fun hHeld => ?_)
        clear hK K'
        simp only [List.setIfInBounds_toArray, List.set_cons_zero, List.set_cons_succ]
        refine wpAnyH_ready (rs := [1]) (by kernel_rfl) (by simp) ?_
        refine AllReadyH.cons rfl (fun K' hK => ?_) AllReadyH.nil
        go_simp
        skip
        refine hK.out _ _ trivial (fun hHeld => ?_)
        clear hK K'
        simp only [List.setIfInBounds_toArray, List.set_cons_zero, List.set_cons_succ]
        refine wpAnyH_ready (rs := [2]) (by kernel_rfl) (by simp) ?_
        refine AllReadyH.cons rfl (fun K' hK => ?_) AllReadyH.nil
        go_simp
        go_at_call 39
        refine (HI1.out _ (G3.out.trans (grown_drewT (grown_reflT _ _)))).mono ?_
        rintro e w5 ⟨⟨a1, c1, rfl, hle, ho⟩, hg⟩
        have G5 : Hid (W3.grownBy w5 none) := Lib.hid ((grown_drewT (grown_reflT W3 none)).trans hg)
        have O1 := Lib.hid (And.intro (own_cells (B' := w.heap.size + 3) ho (by exact Nat.le_of_eq S3.out.symm)) hle)
        have f0 := G5.out.cell d0 (by simp)
        have f13 := G5.out.cell d13 (by simp)
        have f14 := G5.out.cell d14 (by simp)
        clear hg ho hle
        refine hK.out _ _ trivial (fun hHeld => ?_)
        clear hK K'
        simp only [List.setIfInBounds_toArray, List.set_cons_zero, List.set_cons_succ]
        refine wpAnyH_take (i := 9) (v := ?v9z46) rfl (by kernel_rfl) (by kernel_rfl) (by kernel_rfl) (fun _ _ _ h => h) (Or.inl ⟨by rfl, ?y9z46⟩) (by assumption) ?r9z46
        case y9z46 => (intro w hSw; (try dsimp only at hSw); go_simp; try with_reducible rfl)
        simp only [Act.put, List.getElem_toArray, List.getElem_cons_succ, List.getElem_cons_zero, List.setIfInBounds_toArray, List.set_cons_zero, List.set_cons_succ]
        refine wpAnyH_ready (rs := [5]) (by kernel_rfl) (by simp) ?_
        refine AllReadyH.cons rfl (fun K' hK => ?_) AllReadyH.nil
        go_simp
        go_at_call 39
        refine (HG1.out _ (G3.out.trans G5.out)).mono ?_
        rintro e w6 ⟨⟨a2, c2, rfl, hle, ho⟩, hg⟩
        have G56 := Lib.hid hg
        have G6 : Hid (W3.grownBy w6 none) := Lib.hid (G5.out.trans hg)
        have O2 := Lib.hid (And.intro (own_cells (B' := w.heap.size + 3) ho (by have := G5.out.size; have := S3.out; omega)) hle)
        have h0 := G6.out.cell d0 (by simp)
        have h13 := G6.out.cell d13 (by simp)
        have h14 := G6.out.cell d14 (by simp)
        clear hg ho hle
        refine hK.out _ _ trivial (fun hHeld => ?_)
        clear hK K'
        simp only [List.setIfInBounds_toArray, List.set_cons_zero, List.set_cons_succ]
        refine wpAnyH_ready (rs := [8]) (by kernel_rfl) (by simp) ?_
        refine AllReadyH.cons rfl (fun K' hK => ?_) AllReadyH.nil
        go_simp
        go_at_call 84
        refine (HO1.out _ (G3.out.trans G6.out)).mono ?_
        rintro e w7 ⟨⟨a3, c3, rfl, hle, ho⟩, hg⟩
        have G67 := Lib.hid hg
        have G7 : Hid (W3.grownBy w7 none) := Lib.hid (G6.out.trans hg)
        have O3 := Lib.hid (And.intro (own_cells (B' := w.heap.size + 3) ho (by have := G6.out.size; have := S3.out; omega)) hle)
        have B7 := blk_grown G7.out B3.out
        have i0 := G7.out.cell d0 (by simp)
        have i13 := G7.out.cell d13 (by simp)
        have i14 := G7.out.cell d14 (by simp)
        have j0 := frozen_of_row _ _ 0 _ _ B7
        have j13 := frozen_of_row _ _ 13 _ _ B7
        have j14 := frozen_of_row _ _ 14 _ _ B7
        clear hg ho hle B7
        refine hK.out _ _ trivial (fun hHeld => ?_)
        clear hK K'
        simp only [List.setIfInBounds_toArray, List.set_cons_zero, List.set_cons_succ]
        refine wpAnyH_ready (rs := [10]) (by kernel_rfl) (by simp) ?_
        refine AllReadyH.cons rfl (fun K' hK => ?_) AllReadyH.nil
        go_simp
        skip
        refine hK.out _ _ trivial (fun hHeld => ?_)
        clear hK K'
        simp only [List.setIfInBounds_toArray, List.set_cons_zero, List.set_cons_succ]
        refine wpAnyH_take (i := 11) (v := ?v11z47) rfl (by kernel_rfl) (by kernel_rfl) (by kernel_rfl) (fun _ _ _ h => h) (Or.inl ⟨by rfl, ?y11z47⟩) (by assumption) ?r11z47
        case y11z47 => (intro w hSw; (try dsimp only at hSw); go_simp; try with_reducible rfl)
        simp only [Act.put, List.getElem_toArray, List.getElem_cons_succ, List.getElem_cons_zero, List.setIfInBounds_toArray, List.set_cons_zero, List.set_cons_succ]
        refine wpAnyH_ready (rs := [12]) (by kernel_rfl) (by simp) ?_
        refine AllReadyH.cons rfl (fun K' hK => ?_) AllReadyH.nil
        go_simp
        skip
        refine hK.out _ _ trivial (fun hHeld => ?_)
        clear hK K'
        simp only [List.setIfInBounds_toArray, List.set_cons_zero, List.set_cons_succ]
        refine wpAnyH_take (i := 13) (v := ?v13z48) rfl (by kernel_rfl) (by kernel_rfl) (by kernel_rfl) (fun _ _ _ h => h) (Or.inl ⟨by rfl, ?y13z48⟩) (by assumption) ?r13z48
        case y13z48 => (intro w hSw; (try dsimp only at hSw); go_simp; try with_reducible rfl)
        simp only [Act.put, List.getElem_toArray, List.getElem_cons_succ, List.getElem_cons_zero, List.setIfInBounds_toArray, List.set_cons_zero, List.set_cons_succ]
        refine wpAnyH_ready (rs := [14]) (by kernel_rfl) (by simp) ?_
        refine AllReadyH.cons rfl (fun K' hK => ?_) AllReadyH.nil
        go_simp
        skip
        refine hK.out _ _ trivial (fun hHeld => ?_)
        clear hK K'
        simp only [List.setIfInBounds_toArray, List.set_cons_zero, List.set_cons_succ]
        refine wpAnyH_done (by kernel_rfl) ?_ _
        go_wp2_with fail
        go_meet
        exact Lib.hid (HREL.out w7 a1 c1 a2 c2 a3 c3 G7.out ⟨O1.out.1.keep (.of (G56.out.trans G67.out)), O1.out.2⟩ ⟨O2.out.1.keep (.of G67.out), O2.out.2⟩ O3.out)
  case rest =>
  obtain ⟨y1, hS⟩ := hcut.out
  have HS := Lib.hid hS
  have HX : Hid (y.e.spelt cs = if y1.all = true then { y1.e with items := allI cs } else y1.e) := Lib.hid (by
    rw [hS.e, show y1.all = y.e.all from congrArg Qry.all hS.e]; rfl)
  have HL := Lib.hid (allI_len cs)
  have e1 := (cell_of_row _ _ 1 _ _ _ hS.q).trans (qm_c1 y1)
  have e16 := (cell_of_row _ _ 16 _ _ _ hS.q).trans (qm_c16 y1)
  have e0 := (cell_of_row _ _ 0 _ _ _ hS.q).trans (qm_c0 y1)
  have f0 := frozen_of_row _ _ 0 _ _ hS.q
  have t0 := cell_of_row _ _ 0 _ _ _ hS.t
  have t1 := cell_of_row _ _ 1 _ _ _ hS.t
  have t2 := cell_of_row _ _ 2 _ _ _ hS.t
  simp only [List.getElem?_toArray, List.getElem?_cons_zero, List.getElem?_cons_succ] at t0 t1 t2
  obtain ⟨qs, hqs⟩ : ∃ q, q = y.e.spelt cs := ⟨_, rfl⟩
  rw [← hqs] at HX
  have HQS := Lib.hid hqs
  clear hqs
  obtain ⟨al, hal⟩ : ∃ al, al = y1.all := ⟨_, rfl⟩
  rw [← hal] at e1 HX
  clear hcut hS d0 d13 d14 HREL HI1 HG1 HO1 B3 T3 R3 C0 C13 C14 hQ1 hQ2 S3 hal HCQ HNs G3
  go_upto_if 18 with fail
  go_cut [] from 18 (fun wx => Hid (∃ y2, Spl w N a m cap K qs y.cond y2 wx))
  case first =>
    cases al with
    | false =>
      have HX2 : Hid (qs = y1.e) := Lib.hid (by rw [HX.out, if_neg (by simp)])
      go_wp2_with fail
      go_meet
      exact Lib.hid ⟨y1, { HS.out with e := HX2.out.symm }⟩
    | true =>
      have HX2 : Hid (qs = { y1.e with items := allI cs }) := Lib.hid (by rw [HX.out, if_pos rfl])
      clear HX
      go_wp2_with fail
      refine (HA1.out _ HS.out.g).mono ?_
      rintro e w8 ⟨b8, c8, rfl, hw, hlo, hg⟩
      have G8 := Lib.hid hg
      have W8 := Lib.hid (And.intro hw hlo)
      have k0 := hg.cell e0 (by simp)
      have l0 := (hg.frozen_far ⟨w.heap.size + 1, 0, none⟩ (World.block_lt_of_cell? _ _ e0) (by simp)).trans f0
      clear hw hlo hg e0 e16 e1 f0 t0 t1 t2
      go_wp2_with fail
      go_meet
      refine Lib.hid ⟨{ y1 with ia := b8, ic := c8, items := allI cs }, ?_⟩
      have hS := HS.out
      have hs := hS.g.size
      have hw3 := hS.sz
      have hs8 := G8.out.size
      have hset : ∀ b, b ≠ w.heap.size + 1 → (w8.setCell ⟨w.heap.size + 1, 0, none⟩ (.slice b8 m c8)).heap[b]? = w8.heap[b]? := fun b hb => Below.heap_setCell _ _ _ _ (fun e => hb e)
      have hk : Stays (fun j => w.heap.size + 3 ≤ j) w8 (w8.setCell ⟨w.heap.size + 1, 0, none⟩ (.slice b8 m c8)) := ⟨by simp, fun b hb _ => hset b (by omega)⟩
      refine ⟨by rw [HX2.out]; rfl, hS.cond, ?_, ⟨(win_cells W8.out.1 (fun k hk => by have := W8.out.2 k hk; omega)).keep hk, by rw [HL.out, ← Hm.out]; exact W8.out.1.le⟩, ⟨(hS.cg.1.keep (.of G8.out)).keep hk, hS.cg.2⟩, ⟨(hS.co.1.keep (.of G8.out)).keep hk, hS.co.2⟩, grown_setnewX (hS.g.trans G8.out) (by omega) _ _, by simp; omega, by rw [hset _ (by omega)]; exact blk_grown G8.out hS.t, by rw [hset _ (by omega)]; exact blk_grown G8.out hS.r⟩
      rw [heap_setCell_same _ _ 0 _ _ _ (blk_grown G8.out hS.q)]
      have := qm_items y1 b8 c8 (allI cs)
      rw [HL.out, ← Hm.out] at this
      rw [this]
  case rest =>
  obtain ⟨y2, hS⟩ := hcut.out
  have HS2 := Lib.hid hS
  have RC : Hid (wc.rangeAt (w.heap.size + 1) 3 y.cond.c) := Lib.hid (fun j u hj => (cell_of_row _ _ (3 + j) _ _ _ hS.q).trans (y2.at3 j u (by rw [hS.cond]; exact hj)))
  clear hcut hS e1 e16 e0 f0 t0 t1 t2 HS HX HA1
  go_wp2_with (refine wpList_load_mid rfl 33 (.tmp 24) rfl (w.heap.size + 1) 3 rfl y.cond.c _ RC.out Tryz.underlying33 rfl (by rw [HC.out]; exact pred_size) ?_)
  refine (HP1.out _ HS2.out.g).mono ?_
  rintro e w9 ⟨x, rfl, hx, hxS, hg⟩
  have G9 := Lib.hid hg
  have HX9 := Lib.hid (And.intro hx hxS)
  have B9 := Lib.hid (blk_grown hg HS2.out.q)
  have hwc := Lib.hid HS2.out.g.size
  have R9 := Lib.hid (blk_grown hg HS2.out.r)
  have TH : Hid (w9.there (w.heap.size + 1) 3 10) := Lib.hid fun j hj => ⟨by
    rw [cell_of_row _ _ (3 + j) _ _ _ B9.out, Array.getElem?_eq_getElem (by rw [Qm.c_size]; omega)]; rfl, frozen_of_row _ _ _ _ _ B9.out⟩
  have BA : Hid ((w9.setCells (w.heap.size + 1) 3 x.c).heap[w.heap.size + 1]? = some (.cells { y2 with cond := x : Qm }.c 36 (0, 0))) := Lib.hid (by rw [heap_setCells _ _ _ _ B9.out, qm_cond])
  have hsc := grown_setCells (w.heap.size + 1) x.c 3 w9
  have RA : Hid ((w9.setCells (w.heap.size + 1) 3 x.c).heap[w.heap.size + 2]? = some (.cells (Qm.z 0).c 36 (0, 0))) := Lib.hid (by rw [hsc.block _ (Array.getElem?_eq_some_iff.1 R9.out).1 (by simp)]; exact R9.out)
  have HSC := Lib.hid hsc
  clear hg hx hxS hsc HP1
  go_wp2_with (first
    | (refine wpList_store_mid rfl 33 (.tmp 27) (.tmp 26) rfl (w.heap.size + 1) 3 x.c.toArray rfl rfl (by rw [Pm.c_size]; exact TH.out) (by rw [Pm.c_size]; exact pred_size) (Pm.c_all _) ?_)
    | (refine wpList_load_row rfl 36 (.tmp 3) rfl (w.heap.size + 1) rfl 36 { y2 with cond := x : Qm }.c (0, 0) _ BA.out Tryz.underlying36 rfl (by rw [Qm.c_size]; exact query_size) ?_)
    | (refine wpList_store_row rfl 36 (.tmp 4) (.tmp 28) rfl (w.heap.size + 2) { y2 with cond := x : Qm }.c rfl rfl 36 (Qm.z 0).c RA.out (by rw [Qm.c_size]; exact query_size) (by rw [Qm.c_size, Qm.c_size]) (Qm.c_all _) ?_))
  have hrow := grown_setRow (w9.setCells (w.heap.size + 1) 3 x.c) (w.heap.size + 2) { y2 with cond := x : Qm }.c
  have hblk := setRow_heap (w9.setCells (w.heap.size + 1) 3 x.c) (w.heap.size + 2) (Qm.z 0).c { y2 with cond := x : Qm }.c _ _ RA.out
  have hS := HS2.out
  have hk : Stays (fun j => w.heap.size + 3 ≤ j) w9 ((w9.setCells (w.heap.size + 1) 3 x.c).setRow (w.heap.size + 2) { y2 with cond := x : Qm }.c) := ⟨Nat.le_trans HSC.out.size hrow.size, fun b hb hlt => (hrow.block b (Nat.lt_of_lt_of_le hlt HSC.out.size) (by simp; omega)).trans (HSC.out.block b hlt (by simp; omega))⟩
  have hwlt := hS.sz
  have hfin : QmS (fun j => w.heap.size ≤ j) ((w9.setCells (w.heap.size + 1) 3 x.c).setRow (w.heap.size + 2) { y2 with cond := x : Qm }.c) { y2 with cond := x : Qm } := by
    refine ⟨⟨((hS.ci.1.keep (.of G9.out)).keep hk).mono (fun b _ hb => by omega), hS.ci.2⟩, ?_, ⟨((hS.cg.1.keep (.of G9.out)).keep hk).mono (fun b _ hb => by omega), hS.cg.2⟩, ((hS.co.1.keep (.of G9.out)).keep hk).mono (fun b _ hb => by omega), hS.co.2⟩
    exact (HX9.out.2.mono (S' := fun j => w.heap.size + 3 ≤ j) (fun b _ hb => by omega)).keep hk |>.mono (fun b _ hb => by omega)
  refine bodyPost_ret (results_qm rfl _ _ (w.heap.size + 2) { y2 with cond := x : Qm } rfl hblk) rfl ⟨_, rfl, ?_, hfin, grown_thenX (grown_thenX (hS.g.trans G9.out) HSC.out (fun j e => by cases e; omega)) hrow (fun j e => by cases e; omega)⟩
  have he := hS.e
  rw [← HQS.out, ← he]
  show Qry.mk _ _ _ x.e _ _ _ = Qry.mk _ _ _ y2.cond.e _ _ _
  rw [HX9.out.1, hS.cond]
end Go.Proofs.YtjaclmoobfeikaaGreatDoor
namespace Go.Proofs.YtjaclmoobfeikaaGreatDoor
open Go.RowKit

theorem qm_c2 : ∀ y : Qm, y.c[2]? = some (.string y.table)
  | ⟨_, _, _, _, _, .mk .., _, _, _, _, _, _, _⟩ => rfl
/-- Bounds of a query, and where it lies. -/
structure QBk (w : World) (y : Qm) : Prop where
  s : QmS (fun j => j < w.heap.size) w y
  n : y.cond.n ≤ 1000
  f : y.cond.e.few
  i : y.items.length ≤ 1000
  o : y.order.length ≤ 1000
  g : y.group.length ≤ 1000
theorem QBk.keep {w w' : World} {y : Qm} (h : QBk w y) (hg : w.grownBy w' none) : QBk w' y := ⟨(h.s.keep (.of hg)).mono (fun _ _ hb => Nat.lt_of_lt_of_le hb hg.size), h.n, h.f, h.i, h.o, h.g⟩
/-- What checked answers. -/
def ChkIs (f : Nat → Addr) (l : List Tb) (y : Qm) (w : World) (e : Ending) (w' : World) : Prop :=
  w.grownBy w' none ∧ ((∃ p, checkE l y.e = .error p ∧ isCk p.2 ∧ e = .returned (.tuple #[.agg (Qm.z 0).c, fltV f (some p)])) ∨
    ∃ y' : Qm, checkE l y.e = .ok y'.e ∧ e = .returned (.tuple #[.agg y'.c, .nilIface]) ∧ QmS (fun j => w.heap.size ≤ j) w' y')
theorem itemE_code (cs : List Cl) (x : Itm) (h : itemE cs x ≠ 0) : isCk (itemE cs x) := by
  unfold itemE at h ⊢
  split
  · rename_i h1; rw [if_pos h1] at h; exact absurd rfl h
  · rename_i h1
    rw [if_neg h1] at h
    split
    · exact .inr (.inl rfl)
    · split
      · exact .inr (.inr (.inl rfl))
      · rename_i hk h2
        rw [hk] at h
        simp only at h
        rw [if_neg h2] at h
        exact absurd rfl h
theorem aloneE_code (cs : List Cl) (x : Prd) (h : aloneE cs x ≠ 0) : isCk (aloneE cs x) := by
  unfold aloneE at h ⊢
  split
  · exact .inr (.inl rfl)
  · rename_i ks hk
    rw [hk] at h
    simp only at h
    split
    · exact .inr (.inr (.inl rfl))
    · rename_i h2
      rw [if_neg h2] at h
      exact absurd rfl h
theorem groupE_code (cs : List Cl) : ∀ (l b : List Itm) (e : Nat × Nat), groupE cs b l = some e → isCk e.2
  | [], b, e, h => by cases h
  | x :: r, b, e, h => by
    rw [groupE] at h
    split at h
    · cases h; exact .inr (.inl rfl)
    · split at h
      · cases h; exact .inr (.inr (.inr (.inr rfl)))
      · exact groupE_code cs r _ e h
theorem reviewE_code (cs : List Cl) (q : Qry) (e : Nat × Nat) (h : reviewE cs q = some e) : isCk e.2 := by
  unfold reviewE at h
  split at h
  · rename_i e1 h1; cases h; exact firstE_code _ _ isCk (itemE_code cs) _ _ h1
  · split at h
    · rename_i e1 h1; cases h; exact firstE_code _ _ isCk (aloneE_code cs) _ _ h1
    · split at h
      · rename_i e1 h1; cases h; exact groupE_code cs _ _ _ h1
      · split at h
        · rename_i e1 h1; cases h; exact firstE_code _ _ isCk (itemE_code cs) _ _ h1
        · unfold groupingE at h
          split at h
          · split at h
            · cases h; exact .inr (.inr (.inr (.inl rfl)))
            · refine firstE_code _ _ isCk (fun x hx => ?_) _ _ h
              unfold strayE at hx ⊢
              split
              · exact .inr (.inr (.inr (.inl rfl)))
              · rename_i h2; rw [if_neg h2] at hx; exact absurd rfl hx
          · cases h
set_option maxRecDepth 100000 in
set_option maxHeartbeats 6400000 in
theorem checked_any (G : Nat) (f : Nat → Addr) (a : Option Addr) (cap : Nat) (l : List Tb) (y : Qm) (w : World) (h : TabsAt w.heap.size w a l) (hs : ∀ t ∈ l, t.l.length ≤ 1000) (hy : QBk w y) (hE : CkEnv G f w) :
    Calls Tryz.prog 30 #[.agg y.c, .slice a l.length cap] w (ChkIs f l y w) := by
  have HF := Lib.hid (fun W (hW : w.grownBy W none) => find_any a cap l y.table W ((h.keep hW (by simp)).mono hW.size) hs)
  have HR := Lib.hid (fun (t : Tb) a' cap' W (hW : w.grownBy W none) (hc : ColsAt W.heap.size W a' t.l) => review_anyC G f t.n t.k a' cap' t.l y W hc (hy.keep hW).s hy.n hy.f hy.i hy.o hy.g (hE.keep hW))
  have HS := Lib.hid (fun (t : Tb) (ht : t.l.length ≤ 1000) a' cap' W (hW : w.grownBy W none) (hc : ColsAt W.heap.size W a' t.l) => spelt_any t.n t.k a' cap' t.l y W hc ht (hy.keep hW).s hy.n hy.f hy.i hy.o hy.g)
  have HE := Lib.hid hE
  have HS1 := Lib.hid hs
  have HCE : Hid (∀ R, checkE l y.e = R → R = match tabN l y.table with
    | none => .error (0, 14)
    | some t => match reviewE t.l y.e with
      | some e => .error e
      | none => .ok (y.e.spelt t.l)) := Lib.hid (fun R hR => by rw [← hR]; rfl)
  have C2 := Lib.hid (qm_c2 y)
  have hQ1 := Lib.hid y.c_size
  have hQ2 := y.c_all
  have HRw := Lib.hid (fun t : Tb => reviewE_code t.l y.e)
  obtain ⟨R, hR⟩ : ∃ R, R = checkE l y.e := ⟨_, rfl⟩
  have HC1 := Lib.hid (HCE.out R hR.symm)
  have HCR := Lib.hid hR
  obtain ⟨n, hn⟩ : ∃ n, n = l.length := ⟨_, rfl⟩
  rw [← hn] at HF ⊢
  obtain ⟨tb, htb⟩ : ∃ tb, tb = y.table := ⟨_, rfl⟩
  rw [← htb] at HF HC1 C2
  obtain ⟨cq, hcq⟩ : ∃ cq, cq = y.c := ⟨_, rfl⟩
  rw [← hcq] at hQ1 hQ2 HR HS C2 ⊢
  clear h hs hy hE hR hn htb hcq HCE
  have G0 := Lib.hid (World.grownBy_alloc w (.cells cq 36) none)
  have B0 := heap_alloc_new w (.cells cq 36)
  have G1 := Lib.hid (World.grownBy_alloc (w.alloc (.cells cq 36)) (.cells (Qm.z 0).c 36) none)
  have R1 := heap_alloc_new (w.alloc (.cells cq 36)) (.cells (Qm.z 0).c 36)
  rw [show (w.alloc (.cells cq 36)).heap.size = w.heap.size + 1 by simp] at R1
  obtain ⟨W1, hW1⟩ : ∃ W1, W1 = (w.alloc (.cells cq 36)).alloc (.cells (Qm.z 0).c 36) := ⟨_, rfl⟩
  have GW : Hid (w.grownBy W1 none) := Lib.hid (by rw [hW1]; exact G0.out.trans G1.out)
  have BW : Hid (W1.heap[w.heap.size]? = some (.cells cq 36 (0, 0))) := Lib.hid (by rw [hW1]; exact blk_grown G1.out B0)
  have RW : Hid (W1.heap[w.heap.size + 1]? = some (.cells (Qm.z 0).c 36 (0, 0))) := Lib.hid (by rw [hW1]; exact R1)
  have d2 := (cell_of_row _ _ 2 _ _ _ BW.out).trans C2.out
  clear B0 R1 G0 G1
  go_enter Tryz.func30, Tryz.ntmps30
  go_upto_region 1 with fail
  change Code.wp _ _ _ _ ((w.alloc (.cells cq 36)).alloc (.cells (Qm.z 0).c 36))
  rw [← hW1]
  clear hW1
  go_wp2_with fail
  refine (HF.out _ GW.out).mono ?_
  rintro e w2 ⟨hr, hg⟩
  have G2 := Lib.hid (GW.out.trans hg)
  have B2 := Lib.hid (blk_grown hg BW.out)
  have R2 := Lib.hid (blk_grown hg RW.out)
  clear hg d2 HF
  rcases hr with ⟨hN, rfl⟩ | ⟨t, a', cap', hN, rfl, hm, hc, hcols, _⟩
  · have HX : Hid (R = .error (0, 14)) := Lib.hid (by rw [HC1.out, hN])
    obtain ⟨w3, hw3⟩ : ∃ w3, w3 = w2.alloc (.cells #[.string ⟨#[]⟩, .slice none 0 0, .int .i64 0] 44) := ⟨_, rfl⟩
    have g3 : w2.grownBy w3 none := by rw [hw3]; exact World.grownBy_alloc w2 _ none
    have G3 := Lib.hid (G2.out.trans g3)
    have R3 := Lib.hid (blk_grown g3 R2.out)
    have cv := (HE.out.keep G3.out).s14.var
    clear hN HC1 g3
    go_upto_region 3 with fail
    change Code.wp _ _ _ _ (w2.alloc (.cells #[.string ⟨#[]⟩, .slice none 0 0, .int .i64 0] 44))
    rw [← hw3]
    clear hw3
    refine wp_region_held_drew (S := (fun _ => True)) (by kernel_rfl) trivial (fun hHeld => ?_)
    refine wpAnyH_take (i := 0) (v := ?v0z1) rfl (by kernel_rfl) (by kernel_rfl) (by kernel_rfl) (fun _ _ _ h => h) (Or.inl ⟨by rfl, ?y0z1⟩) (by assumption) ?r0z1
    case y0z1 => (intro w hSw; (try dsimp only at hSw); go_simp; try with_reducible rfl)
    simp only [Act.put, List.getElem_toArray, List.getElem_cons_zero, List.size_toArray, List.length_cons, List.length_nil, Nat.reduceAdd, Array.replicate, List.replicate, List.setIfInBounds_toArray, List.set_cons_zero, List.set_cons_succ]
    refine wpAnyH_ready (rs := [1, 4]) (by kernel_rfl) (by simp) ?_
    refine (AllReadyH.cons rfl (fun K' hK => ?_) (AllReadyH.cons rfl (fun K' hK => ?_) AllReadyH.nil))
    · go_simp
      skip
      refine hK.out _ _ trivial (fun hHeld => ?_)
      clear hK K'
      simp only [List.setIfInBounds_toArray, List.set_cons_zero, List.set_cons_succ]
      refine wpAnyH_take (i := 2) (v := ?v2z2) rfl (by kernel_rfl) (by kernel_rfl) (by kernel_rfl) (fun _ _ _ h => h) (Or.inl ⟨by rfl, ?y2z2⟩) (by assumption) ?r2z2
      case y2z2 => (intro w hSw; (try dsimp only at hSw); go_simp; try with_reducible rfl)
      simp only [Act.put, List.getElem_toArray, List.getElem_cons_succ, List.getElem_cons_zero, List.setIfInBounds_toArray, List.set_cons_zero, List.set_cons_succ]
      refine wpAnyH_take (i := 3) (v := ?v3z3) rfl (by kernel_rfl) (by kernel_rfl) (by kernel_rfl) (fun _ _ _ h => h) (Or.inl ⟨by rfl, ?y3z3⟩) (by assumption) ?r3z3
      case y3z3 => (intro w hSw; (try dsimp only at hSw); go_simp; try with_reducible rfl)
      simp only [Act.put, List.getElem_toArray, List.getElem_cons_succ, List.getElem_cons_zero, List.setIfInBounds_toArray, List.set_cons_zero, List.set_cons_succ]
      refine wpAnyH_ready (rs := [4]) (by kernel_rfl) (by simp) ?_
      refine AllReadyH.cons rfl (fun K' hK => ?_) AllReadyH.nil
      refine wp_store_row 36 (.tmp 4) (.tmp 18) rfl (w.heap.size + 1) (Qm.z 0).c (by rfl) (by rfl) 36 (Qm.z 0).c (by exact R3.out) (by rw [Qm.c_size]; exact query_size) (by rfl) (Qm.c_all _) ?_
      refine hK.out _ _ trivial (fun hHeld => ?_)
      clear hK K'
      simp only [Act.put, List.getElem_toArray, List.getElem_cons_succ, List.getElem_cons_zero, List.setIfInBounds_toArray, List.set_cons_zero, List.set_cons_succ]
      refine wpAnyH_take (i := 5) (v := ?v5z4) rfl (by kernel_rfl) (by kernel_rfl) (by kernel_rfl) (fun _ _ _ h => h) (Or.inl ⟨by rfl, ?y5z4⟩) (by assumption) ?r5z4
      case y5z4 => (intro w hSw; (try dsimp only at hSw); go_simp; try with_reducible rfl)
      simp only [Act.put, List.getElem_toArray, List.getElem_cons_succ, List.getElem_cons_zero, List.setIfInBounds_toArray, List.set_cons_zero, List.set_cons_succ]
      refine wpAnyH_done (by kernel_rfl) ?_ _
      have hS := grown_setRow w3.drew (w.heap.size + 1) (Qm.z 0).c
      have hB := setRow_heap w3.drew (w.heap.size + 1) (Qm.z 0).c (Qm.z 0).c _ _ (by exact R3.out)
      have hfin : ChkIs f l y w (.returned (.tuple #[.agg (Qm.z 0).c, fltV f (some (0, 14))])) (w3.drew.setRow (w.heap.size + 1) (Qm.z 0).c) := ⟨grown_thenX (grown_drewT G3.out) hS (fun j e => by cases e; omega), .inl ⟨(0, 14), by rw [← HCR.out, HX.out], .inl rfl, rfl⟩⟩
      go_wp2_with fail
      exact bodyPost_ret (results_qm2 (p := 4) (u := 5) rfl _ _ (w.heap.size + 1) (Qm.z 0) rfl hB) rfl hfin
    · skip
      refine wp_store_row 36 (.tmp 4) (.tmp 18) rfl (w.heap.size + 1) (Qm.z 0).c (by rfl) (by rfl) 36 (Qm.z 0).c (by exact R3.out) (by rw [Qm.c_size]; exact query_size) (by rfl) (Qm.c_all _) ?_
      refine hK.out _ _ trivial (fun hHeld => ?_)
      clear hK K'
      simp only [Act.put, List.getElem_toArray, List.getElem_cons_succ, List.getElem_cons_zero, List.setIfInBounds_toArray, List.set_cons_zero, List.set_cons_succ]
      refine wpAnyH_ready (rs := [1]) (by kernel_rfl) (by simp) ?_
      refine AllReadyH.cons rfl (fun K' hK => ?_) AllReadyH.nil
      have cv2 := (grown_setRow w3.drew (w.heap.size + 1) (Qm.z 0).c).cell (show w3.drew.cell? _ = _ from cv) (by intro e; have e := Option.some.inj e; dsimp only at e; have := HE.out.s14.lt; have := HE.out.le; omega)
      go_simp
      refine hK.out _ _ trivial (fun hHeld => ?_)
      clear hK K'
      simp only [List.setIfInBounds_toArray, List.set_cons_zero, List.set_cons_succ]
      refine wpAnyH_take (i := 2) (v := ?v2z5) rfl (by kernel_rfl) (by kernel_rfl) (by kernel_rfl) (fun _ _ _ h => h) (Or.inl ⟨by rfl, ?y2z5⟩) (by assumption) ?r2z5
      case y2z5 => (intro w hSw; (try dsimp only at hSw); go_simp; try with_reducible rfl)
      simp only [Act.put, List.getElem_toArray, List.getElem_cons_succ, List.getElem_cons_zero, List.setIfInBounds_toArray, List.set_cons_zero, List.set_cons_succ]
      refine wpAnyH_take (i := 3) (v := ?v3z6) rfl (by kernel_rfl) (by kernel_rfl) (by kernel_rfl) (fun _ _ _ h => h) (Or.inl ⟨by rfl, ?y3z6⟩) (by assumption) ?r3z6
      case y3z6 => (intro w hSw; (try dsimp only at hSw); go_simp; try with_reducible rfl)
      simp only [Act.put, List.getElem_toArray, List.getElem_cons_succ, List.getElem_cons_zero, List.setIfInBounds_toArray, List.set_cons_zero, List.set_cons_succ]
      refine wpAnyH_take (i := 5) (v := ?v5z7) rfl (by kernel_rfl) (by kernel_rfl) (by kernel_rfl) (fun _ _ _ h => h) (Or.inl ⟨by rfl, ?y5z7⟩) (by assumption) ?r5z7
      case y5z7 => (intro w hSw; (try dsimp only at hSw); go_simp; try with_reducible rfl)
      simp only [Act.put, List.getElem_toArray, List.getElem_cons_succ, List.getElem_cons_zero, List.setIfInBounds_toArray, List.set_cons_zero, List.set_cons_succ]
      refine wpAnyH_done (by kernel_rfl) ?_ _
      have hS := grown_setRow w3.drew (w.heap.size + 1) (Qm.z 0).c
      have hB := setRow_heap w3.drew (w.heap.size + 1) (Qm.z 0).c (Qm.z 0).c _ _ (by exact R3.out)
      have hfin : ChkIs f l y w (.returned (.tuple #[.agg (Qm.z 0).c, fltV f (some (0, 14))])) (w3.drew.setRow (w.heap.size + 1) (Qm.z 0).c) := ⟨grown_thenX (grown_drewT G3.out) hS (fun j e => by cases e; omega), .inl ⟨(0, 14), by rw [← HCR.out, HX.out], .inl rfl, rfl⟩⟩
      go_wp2_with fail
      exact bodyPost_ret (results_qm2 (p := 4) (u := 5) rfl _ _ (w.heap.size + 1) (Qm.z 0) rfl hB) rfl hfin
  · have ht := HS1.out t hm
    have HX : Hid (R = match reviewE t.l y.e with
      | some e => .error e
      | none => .ok (y.e.spelt t.l)) := Lib.hid (by rw [HC1.out, hN])
    have HR1 := Lib.hid (HR.out t a' cap')
    have HS2 := Lib.hid (HS.out t ht a' cap')
    have HR2 := Lib.hid (HRw.out t)
    have HCo := Lib.hid hcols
    obtain ⟨R5, hR5⟩ : ∃ R5, R5 = reviewE t.l y.e := ⟨_, rfl⟩
    rw [← hR5] at HX HR1 HR2
    obtain ⟨tn, ta, tc, tl, tk⟩ := t
    dsimp only at hc HR1 HS2 HCo
    obtain ⟨m, hm2⟩ : ∃ m, m = tl.length := ⟨_, rfl⟩
    have GT := Lib.hid (World.grownBy_alloc w2 (.cells #[.string tn, .slice a' m cap', .int .i64 tk] 44) none)
    have BT := heap_alloc_new w2 (.cells #[.string tn, .slice a' m cap', .int .i64 tk] 44)
    rw [← hm2] at HR1 HS2 ⊢
    have B3 := Lib.hid (blk_grown GT.out B2.out)
    have R3 := Lib.hid (blk_grown GT.out R2.out)
    have t0 := cell_of_row _ _ 0 _ _ _ BT
    have t1 := cell_of_row _ _ 1 _ _ _ BT
    have t2 := cell_of_row _ _ 2 _ _ _ BT
    simp only [List.getElem?_toArray, List.getElem?_cons_zero, List.getElem?_cons_succ] at t0 t1 t2
    have BT := Lib.hid BT
    clear hN HC1 hm hc hcols hR5 hm2 HR HS HS1 HRw ht
    go_wp2_with (refine wpList_load_row rfl 36 (.tmp 2) rfl w.heap.size rfl 36 cq (0, 0) _ B3.out Tryz.underlying36 rfl (by rw [hQ1.out]; exact query_size) ?_)
    refine (HR1.out _ (G2.out.trans GT.out) ((HCo.out.keep GT.out (by simp)).mono GT.out.size)).mono ?_
    rintro e w4 ⟨rfl, hg⟩
    have G4 := Lib.hid ((G2.out.trans GT.out).trans hg)
    have B4 := Lib.hid (blk_grown hg B3.out)
    have R4 := Lib.hid (blk_grown hg R3.out)
    have HC4 := Lib.hid ((HCo.out.keep (GT.out.trans hg) (by simp)).mono (GT.out.trans hg).size)
    have T4 := blk_grown hg BT.out
    have t0 := cell_of_row _ _ 0 _ _ _ T4
    have t1 := cell_of_row _ _ 1 _ _ _ T4
    have t2 := cell_of_row _ _ 2 _ _ _ T4
    simp only [List.getElem?_toArray, List.getElem?_cons_zero, List.getElem?_cons_succ] at t0 t1 t2
    clear hg T4
    cases R5 with
    | some e =>
      have HX2 : Hid (R = .error e) := HX
      have hck := HR2.out e rfl
      have HK := Lib.hid hck
      unfold fltV
      clear HX hck
      go_wp2_with (refine wpList_store_row rfl 36 (.tmp 4) (.tmp 27) rfl (w.heap.size + 1) (Qm.z 0).c rfl rfl 36 (Qm.z 0).c R4.out (by rw [Qm.c_size]; exact query_size) rfl (Qm.c_all _) ?_)
      have hS := grown_setRow w4 (w.heap.size + 1) (Qm.z 0).c
      have hB := setRow_heap w4 (w.heap.size + 1) (Qm.z 0).c (Qm.z 0).c _ _ R4.out
      have hfin : ChkIs f l y w (.returned (.tuple #[.agg (Qm.z 0).c, fltV f (some e)])) (w4.setRow (w.heap.size + 1) (Qm.z 0).c) := ⟨grown_thenX G4.out hS (fun j e => by cases e; omega), .inl ⟨e, by rw [← HCR.out, HX2.out], HK.out, rfl⟩⟩
      exact bodyPost_ret (results_qm2 (p := 4) (u := 5) rfl _ _ (w.heap.size + 1) (Qm.z 0) rfl hB) rfl hfin
    | none =>
      have HX2 : Hid (R = .ok (y.e.spelt tl)) := HX
      rw [show fltV f none = .nilIface from rfl]
      clear HX HR2
      go_wp2_with (refine wpList_load_row rfl 36 (.tmp 2) rfl w.heap.size rfl 36 cq (0, 0) _ B4.out Tryz.underlying36 rfl (by rw [hQ1.out]; exact query_size) ?_)
      refine (HS2.out _ G4.out HC4.out).mono ?_
      rintro e w5 ⟨y', rfl, hy', hyS, hg⟩
      have G5 := Lib.hid (G4.out.trans hg)
      have R5 := Lib.hid (blk_grown hg R4.out)
      have hs4 := G4.out.size
      have hs4' := (Array.getElem?_eq_some_iff.1 R4.out).1
      have HY' := Lib.hid (And.intro hy' hyS)
      clear hg hy' hyS t0 t1 t2
      go_wp2_with (refine wpList_store_row rfl 36 (.tmp 4) (.tmp 31) rfl (w.heap.size + 1) y'.c rfl rfl 36 (Qm.z 0).c R5.out (by rw [Qm.c_size]; exact query_size) (by rw [Qm.c_size, Qm.c_size]) (Qm.c_all _) ?_)
      have hS := grown_setRow w5 (w.heap.size + 1) y'.c
      have hB := setRow_heap w5 (w.heap.size + 1) (Qm.z 0).c y'.c _ _ R5.out
      have hfin : ChkIs f l y w (.returned (.tuple #[.agg y'.c, .nilIface])) (w5.setRow (w.heap.size + 1) y'.c) := ⟨grown_thenX G5.out hS (fun j e => by cases e; omega), .inr ⟨y', by rw [← HCR.out, HX2.out, HY'.out.1], rfl, (HY'.out.2.keep (w' := w5.setRow (w.heap.size + 1) y'.c) ⟨hS.size, fun b hb hlt => hS.block b hlt (by simp; omega)⟩).mono (fun b _ hb => by omega)⟩⟩
      exact bodyPost_ret (results_qm2 (p := 4) (u := 5) rfl _ _ (w.heap.size + 1) y' rfl hB) rfl hfin
/-- What Check answers. -/
def CkIs (l : List Tb) (y : Qm) (w : World) (e : Ending) (w' : World) : Prop :=
  w.grownBy w' none ∧ ((∃ p, checkE l y.e = .error p ∧ isCk p.2 ∧ e = .returned (.tuple #[.agg (Qm.z 0).c, .int .i64 (p.1 : Nat), .int .i64 (p.2 : Nat)])) ∨
    ∃ y' : Qm, checkE l y.e = .ok y'.e ∧ e = .returned (.tuple #[.agg y'.c, .int .i64 0, .int .i64 0]) ∧ QmS (fun j => w.heap.size ≤ j) w' y')
set_option maxRecDepth 100000 in
set_option maxHeartbeats 6400000 in
theorem check_anyC (G : Nat) (f : Nat → Addr) (a : Option Addr) (cap : Nat) (l : List Tb) (y : Qm) (w : World) (h : TabsAt w.heap.size w a l) (hs : ∀ t ∈ l, t.l.length ≤ 1000) (hy : QBk w y) (hE : CkEnv G f w) :
    Calls Tryz.prog 16 #[.agg y.c, .slice a l.length cap] w (CkIs l y w) := by
  have HC := Lib.hid (fun W (hW : w.grownBy W none) => checked_any G f a cap l y W ((h.keep hW (by simp)).mono hW.size) hs (hy.keep hW) (hE.keep hW))
  have HF := Lib.hid CkF.as_hitF
  have HA := Lib.hid as_nil
  have HN := Lib.hid (fun (x : Int) (c : Nat) (hc : isCk c) W (hW : w.grownBy W none) => ckNo_any G f x c hc W (hE.keep hW))
  have HE := Lib.hid hE
  have hQ1 := Lib.hid y.c_size
  have hQ2 := y.c_all
  generalize l.length = n at *
  obtain ⟨cq, hcq⟩ : ∃ cq, cq = y.c := ⟨_, rfl⟩
  rw [← hcq] at hQ1 hQ2 HC ⊢
  clear h hs hy hE hcq
  have G0 := Lib.hid (World.grownBy_alloc w (.cells cq 36) none)
  have B0 := heap_alloc_new w (.cells cq 36)
  have G1 := Lib.hid (World.grownBy_alloc (w.alloc (.cells cq 36)) (.cells (Qm.z 0).c 36) none)
  have R1 := heap_alloc_new (w.alloc (.cells cq 36)) (.cells (Qm.z 0).c 36)
  rw [show (w.alloc (.cells cq 36)).heap.size = w.heap.size + 1 by simp] at R1
  obtain ⟨W1, hW1⟩ : ∃ W1, W1 = (w.alloc (.cells cq 36)).alloc (.cells (Qm.z 0).c 36) := ⟨_, rfl⟩
  have GW : Hid (w.grownBy W1 none) := Lib.hid (by rw [hW1]; exact G0.out.trans G1.out)
  have BW : Hid (W1.heap[w.heap.size]? = some (.cells cq 36 (0, 0))) := Lib.hid (by rw [hW1]; exact blk_grown G1.out B0)
  have RW : Hid (W1.heap[w.heap.size + 1]? = some (.cells (Qm.z 0).c 36 (0, 0))) := Lib.hid (by rw [hW1]; exact R1)
  clear B0 R1 G0 G1
  go_enter Tryz.func16, Tryz.ntmps16
  go_upto_region 1 with fail
  change Code.wp _ _ _ _ ((w.alloc (.cells cq 36)).alloc (.cells (Qm.z 0).c 36))
  rw [← hW1]
  clear hW1
  go_wp2_with (refine wpList_load_row rfl 36 (.tmp 2) rfl w.heap.size rfl 36 cq (0, 0) _ BW.out Tryz.underlying36 rfl (by rw [hQ1.out]; exact query_size) ?_)
  refine (HC.out _ GW.out).mono ?_
  rintro e w2 ⟨hg, hr⟩
  have G2 := Lib.hid (GW.out.trans hg)
  have R2 := Lib.hid (blk_grown hg RW.out)
  have hs1 := GW.out.size
  have hs1' := (Array.getElem?_eq_some_iff.1 RW.out).1
  have hsW := hg.size
  clear hg HC
  have HM : Hid (∀ (x : Qm), w2.grownBy ((w2.alloc (.cells (Qm.z 0).c 36)).setRow w2.heap.size x.c) none ∧ ((w2.alloc (.cells (Qm.z 0).c 36)).setRow w2.heap.size x.c).heap[w2.heap.size]? = some (.cells x.c 36 (0, 0))) := Lib.hid fun x =>
    ⟨grown_thenX (World.grownBy_alloc w2 (.cells (Qm.z 0).c 36) none) (grown_setRow _ w2.heap.size x.c) (fun j e => by cases e; exact Nat.le_refl _), setRow_heap _ _ (Qm.z 0).c x.c _ _ (heap_alloc_new w2 _)⟩
  have B5 := Lib.hid (heap_alloc_new w2 (.cells (Qm.z 0).c 36))
  rcases hr with ⟨p, hp, hk, rfl⟩ | ⟨y', hy', rfl, hyS⟩
  · have HP := Lib.hid (And.intro hp hk)
    have HM1 := Lib.hid (HM.out (Qm.z 0))
    clear hp hk HM
    unfold fltV
    obtain ⟨W3, hW3⟩ : ∃ W3, W3 = (w2.alloc (.cells (Qm.z 0).c 36)).setRow w2.heap.size (Qm.z 0).c := ⟨_, rfl⟩
    rw [← hW3] at HM1
    have hs3 : W3.heap.size = w2.heap.size + 1 := by rw [hW3]; simp
    have gF := World.grownBy_alloc W3 (.cells #[.int .i64 0, .nilIface] 90) none
    have F4 := heap_alloc_new W3 (.cells #[.int .i64 0, .nilIface] 90)
    obtain ⟨W4, hW4⟩ : ∃ W4, W4 = W3.alloc (.cells #[.int .i64 0, .nilIface] 90) := ⟨_, rfl⟩
    rw [← hW4] at gF F4
    have G4 := Lib.hid ((G2.out.trans HM1.out.1).trans gF)
    have R4 := Lib.hid (blk_grown (HM1.out.1.trans gF) R2.out)
    rw [hs3] at F4
    go_wp2_with (refine wpList_store_row rfl 36 (.tmp 7) (.tmp 14) rfl w2.heap.size (Qm.z 0).c rfl rfl 36 (Qm.z 0).c B5.out (by rw [Qm.c_size]; exact query_size) rfl (Qm.c_all _) ?_)
    change Calls _ _ _ (((w2.alloc (.cells (Qm.z 0).c 36)).setRow w2.heap.size (Qm.z 0).c).alloc (.cells #[.int .i64 0, .nilIface] 90)) _
    rw [← hW3, ← hW4]
    clear hW3 hW4 gF B5
    unfold ckV
    refine (HF.out p.1 256 (.pointer (some (f p.2))) (w2.heap.size + 1) G _ _ W4 (errT_keep HE.out.et G4.out) (cell_of_row _ _ 0 _ _ _ F4) (cell_of_row _ _ 1 _ _ _ F4) (frozen_of_row _ _ 0 _ _ F4) (frozen_of_row _ _ 1 _ _ F4)).mono ?_
    rintro e w8 ⟨rfl, h8⟩
    obtain ⟨w7, hg7, hw8⟩ := h8
    have l4 := (Array.getElem?_eq_some_iff.1 F4).1
    have F8 : Hid (w8.heap[w2.heap.size + 1]? = some (.cells #[.int .i64 (p.1 : Nat), .iface 256 (.pointer (some (f p.2)))] 90 (0, 0))) := Lib.hid (by
      rw [hw8]
      exact heap_setCell_same _ _ _ _ _ _ (heap_setCell_same _ _ _ _ _ _ (blk_grown hg7 F4)))
    have R8 : Hid (w8.heap[w.heap.size + 1]? = some (.cells (Qm.z 0).c 36 (0, 0))) := Lib.hid (by
      rw [hw8]
      exact (heap_setCell_other _ _ _ _ (by simp; omega)).trans ((heap_setCell_other _ _ _ _ (by simp; omega)).trans (blk_grown hg7 R4.out)))
    have G8 : Hid (w.grownBy w8 none) := Lib.hid (by
      rw [hw8]
      exact grown_setnewX (grown_setnewX (G4.out.trans hg7) (by omega) _ _) (by omega) _ _)
    clear hg7 hw8 F4 R4 G4 HF HA HM1 R2 RW BW G2 GW
    have x0 := cell_of_row _ _ 0 _ _ _ F8.out
    have x1 := cell_of_row _ _ 1 _ _ _ F8.out
    simp only [List.getElem?_toArray, List.getElem?_cons_zero, List.getElem?_cons_succ] at x0 x1
    go_wp2_with fail
    refine wp_region_held_drew (S := (fun _ => True)) (by kernel_rfl) trivial (fun hHeld => ?_)
    refine wpAnyH_take (i := 0) (v := ?v0z1) rfl (by kernel_rfl) (by kernel_rfl) (by kernel_rfl) (fun _ _ _ h => h) (Or.inl ⟨by rfl, ?y0z1⟩) (by assumption) ?r0z1
    case y0z1 => (intro w hSw; (try dsimp only at hSw); go_simp; try with_reducible rfl)
    simp only [Act.put, List.getElem_toArray, List.getElem_cons_zero, List.size_toArray, List.length_cons, List.length_nil, Nat.reduceAdd, Array.replicate, List.replicate, List.setIfInBounds_toArray, List.set_cons_zero, List.set_cons_succ]
    refine wpAnyH_take (i := 1) (v := ?v1z2) rfl (by kernel_rfl) (by kernel_rfl) (by kernel_rfl) (fun _ _ _ h => h) (Or.inl ⟨by rfl, ?y1z2⟩) (by assumption) ?r1z2
    case y1z2 => (intro w hSw; (try dsimp only at hSw); go_simp; try with_reducible rfl)
    simp only [Act.put, List.getElem_toArray, List.getElem_cons_succ, List.getElem_cons_zero, List.setIfInBounds_toArray, List.set_cons_zero, List.set_cons_succ]
    refine wpAnyH_ready (rs := [2, 3]) (by kernel_rfl) (by simp) ?_
    refine (AllReadyH.cons rfl (fun K' hK => ?_) (AllReadyH.cons rfl (fun K' hK => ?_) AllReadyH.nil))
    · go_simp
      skip
      refine hK.out _ _ trivial (fun hHeld => ?_)
      clear hK K'
      simp only [List.setIfInBounds_toArray, List.set_cons_zero, List.set_cons_succ]
      refine wpAnyH_ready (rs := [3]) (by kernel_rfl) (by simp) ?_
      refine AllReadyH.cons rfl (fun K' hK => ?_) AllReadyH.nil
      go_simp
      skip
      refine hK.out _ _ trivial (fun hHeld => ?_)
      clear hK K'
      simp only [List.setIfInBounds_toArray, List.set_cons_zero, List.set_cons_succ]
      refine wpAnyH_ready (rs := [4]) (by kernel_rfl) (by simp) ?_
      refine AllReadyH.cons rfl (fun K' hK => ?_) AllReadyH.nil
      go_simp
      go_at_call 31
      refine (HN.out p.1 p.2 HP.out.2 _ (by exact grown_drewT G8.out)).mono ?_
      rintro e w9 ⟨rfl, hg⟩
      have G89 : Hid (w8.grownBy w9 none) := Lib.hid ((grown_drewT (grown_reflT w8 none)).trans hg)
      have R9 := Lib.hid (blk_grown G89.out R8.out)
      have z0 := G89.out.cell x0 (by simp)
      clear hg
      refine hK.out _ _ trivial (fun hHeld => ?_)
      clear hK K'
      simp only [List.setIfInBounds_toArray, List.set_cons_zero, List.set_cons_succ]
      refine wpAnyH_ready (rs := [5]) (by kernel_rfl) (by simp) ?_
      refine AllReadyH.cons rfl (fun K' hK => ?_) AllReadyH.nil
      refine wp_store_row 36 (.tmp 4) (.tmp 19) rfl (w.heap.size + 1) (Qm.z 0).c (by rfl) (by rfl) 36 (Qm.z 0).c (by exact R9.out) (by rw [Qm.c_size]; exact query_size) (by rfl) (Qm.c_all _) ?_
      refine hK.out _ _ trivial (fun hHeld => ?_)
      clear hK K'
      simp only [Act.put, List.getElem_toArray, List.getElem_cons_succ, List.getElem_cons_zero, List.setIfInBounds_toArray, List.set_cons_zero, List.set_cons_succ]
      refine wpAnyH_take (i := 6) (v := ?v6z3) rfl (by kernel_rfl) (by kernel_rfl) (by kernel_rfl) (fun _ _ _ h => h) (Or.inl ⟨by rfl, ?y6z3⟩) (by assumption) ?r6z3
      case y6z3 => (intro w hSw; (try dsimp only at hSw); go_simp; try with_reducible rfl)
      simp only [Act.put, List.getElem_toArray, List.getElem_cons_succ, List.getElem_cons_zero, List.setIfInBounds_toArray, List.set_cons_zero, List.set_cons_succ]
      refine wpAnyH_take (i := 7) (v := ?v7z4) rfl (by kernel_rfl) (by kernel_rfl) (by kernel_rfl) (fun _ _ _ h => h) (Or.inl ⟨by rfl, ?y7z4⟩) (by assumption) ?r7z4
      case y7z4 => (intro w hSw; (try dsimp only at hSw); go_simp; try with_reducible rfl)
      simp only [Act.put, List.getElem_toArray, List.getElem_cons_succ, List.getElem_cons_zero, List.setIfInBounds_toArray, List.set_cons_zero, List.set_cons_succ]
      refine wpAnyH_done (by kernel_rfl) ?_ _
      have hS := grown_setRow w9 (w.heap.size + 1) (Qm.z 0).c
      have hB := setRow_heap w9 (w.heap.size + 1) (Qm.z 0).c (Qm.z 0).c _ _ (by exact R9.out)
      have hfin : CkIs l y w (.returned (.tuple #[.agg (Qm.z 0).c, .int .i64 (p.1 : Nat), .int .i64 (p.2 : Nat)])) (w9.setRow (w.heap.size + 1) (Qm.z 0).c) := ⟨grown_thenX (G8.out.trans G89.out) hS (fun j e => by cases e; omega), .inl ⟨p, HP.out.1, HP.out.2, rfl⟩⟩
      go_wp2_with fail
      exact bodyPost_ret (results_qm3 (p := 4) (u := 5) (v := 6) rfl _ _ (w.heap.size + 1) (Qm.z 0) rfl hB) rfl hfin
    · go_simp
      skip
      refine hK.out _ _ trivial (fun hHeld => ?_)
      clear hK K'
      simp only [List.setIfInBounds_toArray, List.set_cons_zero, List.set_cons_succ]
      refine wpAnyH_ready (rs := [2, 4]) (by kernel_rfl) (by simp) ?_
      refine (AllReadyH.cons rfl (fun K' hK => ?_) (AllReadyH.cons rfl (fun K' hK => ?_) AllReadyH.nil))
      · go_simp
        skip
        refine hK.out _ _ trivial (fun hHeld => ?_)
        clear hK K'
        simp only [List.setIfInBounds_toArray, List.set_cons_zero, List.set_cons_succ]
        refine wpAnyH_ready (rs := [4]) (by kernel_rfl) (by simp) ?_
        refine AllReadyH.cons rfl (fun K' hK => ?_) AllReadyH.nil
        go_simp
        go_at_call 31
        refine (HN.out p.1 p.2 HP.out.2 _ (by exact grown_drewT G8.out)).mono ?_
        rintro e w9 ⟨rfl, hg⟩
        have G89 : Hid (w8.grownBy w9 none) := Lib.hid ((grown_drewT (grown_reflT w8 none)).trans hg)
        have R9 := Lib.hid (blk_grown G89.out R8.out)
        have z0 := G89.out.cell x0 (by simp)
        clear hg
        refine hK.out _ _ trivial (fun hHeld => ?_)
        clear hK K'
        simp only [List.setIfInBounds_toArray, List.set_cons_zero, List.set_cons_succ]
        refine wpAnyH_ready (rs := [5]) (by kernel_rfl) (by simp) ?_
        refine AllReadyH.cons rfl (fun K' hK => ?_) AllReadyH.nil
        refine wp_store_row 36 (.tmp 4) (.tmp 19) rfl (w.heap.size + 1) (Qm.z 0).c (by rfl) (by rfl) 36 (Qm.z 0).c (by exact R9.out) (by rw [Qm.c_size]; exact query_size) (by rfl) (Qm.c_all _) ?_
        refine hK.out _ _ trivial (fun hHeld => ?_)
        clear hK K'
        simp only [Act.put, List.getElem_toArray, List.getElem_cons_succ, List.getElem_cons_zero, List.setIfInBounds_toArray, List.set_cons_zero, List.set_cons_succ]
        refine wpAnyH_take (i := 6) (v := ?v6z5) rfl (by kernel_rfl) (by kernel_rfl) (by kernel_rfl) (fun _ _ _ h => h) (Or.inl ⟨by rfl, ?y6z5⟩) (by assumption) ?r6z5
        case y6z5 => (intro w hSw; (try dsimp only at hSw); go_simp; try with_reducible rfl)
        simp only [Act.put, List.getElem_toArray, List.getElem_cons_succ, List.getElem_cons_zero, List.setIfInBounds_toArray, List.set_cons_zero, List.set_cons_succ]
        refine wpAnyH_take (i := 7) (v := ?v7z6) rfl (by kernel_rfl) (by kernel_rfl) (by kernel_rfl) (fun _ _ _ h => h) (Or.inl ⟨by rfl, ?y7z6⟩) (by assumption) ?r7z6
        case y7z6 => (intro w hSw; (try dsimp only at hSw); go_simp; try with_reducible rfl)
        simp only [Act.put, List.getElem_toArray, List.getElem_cons_succ, List.getElem_cons_zero, List.setIfInBounds_toArray, List.set_cons_zero, List.set_cons_succ]
        refine wpAnyH_done (by kernel_rfl) ?_ _
        have hS := grown_setRow w9 (w.heap.size + 1) (Qm.z 0).c
        have hB := setRow_heap w9 (w.heap.size + 1) (Qm.z 0).c (Qm.z 0).c _ _ (by exact R9.out)
        have hfin : CkIs l y w (.returned (.tuple #[.agg (Qm.z 0).c, .int .i64 (p.1 : Nat), .int .i64 (p.2 : Nat)])) (w9.setRow (w.heap.size + 1) (Qm.z 0).c) := ⟨grown_thenX (G8.out.trans G89.out) hS (fun j e => by cases e; omega), .inl ⟨p, HP.out.1, HP.out.2, rfl⟩⟩
        go_wp2_with fail
        exact bodyPost_ret (results_qm3 (p := 4) (u := 5) (v := 6) rfl _ _ (w.heap.size + 1) (Qm.z 0) rfl hB) rfl hfin
      · go_simp
        go_at_call 31
        refine (HN.out p.1 p.2 HP.out.2 _ (by exact grown_drewT G8.out)).mono ?_
        rintro e w9 ⟨rfl, hg⟩
        have G89 : Hid (w8.grownBy w9 none) := Lib.hid ((grown_drewT (grown_reflT w8 none)).trans hg)
        have R9 := Lib.hid (blk_grown G89.out R8.out)
        have z0 := G89.out.cell x0 (by simp)
        clear hg
        refine hK.out _ _ trivial (fun hHeld => ?_)
        clear hK K'
        simp only [List.setIfInBounds_toArray, List.set_cons_zero, List.set_cons_succ]
        refine wpAnyH_ready (rs := [2, 5]) (by kernel_rfl) (by simp) ?_
        refine (AllReadyH.cons rfl (fun K' hK => ?_) (AllReadyH.cons rfl (fun K' hK => ?_) AllReadyH.nil))
        · go_simp
          skip
          refine hK.out _ _ trivial (fun hHeld => ?_)
          clear hK K'
          simp only [List.setIfInBounds_toArray, List.set_cons_zero, List.set_cons_succ]
          refine wpAnyH_ready (rs := [5]) (by kernel_rfl) (by simp) ?_
          refine AllReadyH.cons rfl (fun K' hK => ?_) AllReadyH.nil
          refine wp_store_row 36 (.tmp 4) (.tmp 19) rfl (w.heap.size + 1) (Qm.z 0).c (by rfl) (by rfl) 36 (Qm.z 0).c (by exact R9.out) (by rw [Qm.c_size]; exact query_size) (by rfl) (Qm.c_all _) ?_
          refine hK.out _ _ trivial (fun hHeld => ?_)
          clear hK K'
          simp only [Act.put, List.getElem_toArray, List.getElem_cons_succ, List.getElem_cons_zero, List.setIfInBounds_toArray, List.set_cons_zero, List.set_cons_succ]
          refine wpAnyH_take (i := 6) (v := ?v6z7) rfl (by kernel_rfl) (by kernel_rfl) (by kernel_rfl) (fun _ _ _ h => h) (Or.inl ⟨by rfl, ?y6z7⟩) (by assumption) ?r6z7
          case y6z7 => (intro w hSw; (try dsimp only at hSw); go_simp; try with_reducible rfl)
          simp only [Act.put, List.getElem_toArray, List.getElem_cons_succ, List.getElem_cons_zero, List.setIfInBounds_toArray, List.set_cons_zero, List.set_cons_succ]
          refine wpAnyH_take (i := 7) (v := ?v7z8) rfl (by kernel_rfl) (by kernel_rfl) (by kernel_rfl) (fun _ _ _ h => h) (Or.inl ⟨by rfl, ?y7z8⟩) (by assumption) ?r7z8
          case y7z8 => (intro w hSw; (try dsimp only at hSw); go_simp; try with_reducible rfl)
          simp only [Act.put, List.getElem_toArray, List.getElem_cons_succ, List.getElem_cons_zero, List.setIfInBounds_toArray, List.set_cons_zero, List.set_cons_succ]
          refine wpAnyH_done (by kernel_rfl) ?_ _
          have hS := grown_setRow w9 (w.heap.size + 1) (Qm.z 0).c
          have hB := setRow_heap w9 (w.heap.size + 1) (Qm.z 0).c (Qm.z 0).c _ _ (by exact R9.out)
          have hfin : CkIs l y w (.returned (.tuple #[.agg (Qm.z 0).c, .int .i64 (p.1 : Nat), .int .i64 (p.2 : Nat)])) (w9.setRow (w.heap.size + 1) (Qm.z 0).c) := ⟨grown_thenX (G8.out.trans G89.out) hS (fun j e => by cases e; omega), .inl ⟨p, HP.out.1, HP.out.2, rfl⟩⟩
          go_wp2_with fail
          exact bodyPost_ret (results_qm3 (p := 4) (u := 5) (v := 6) rfl _ _ (w.heap.size + 1) (Qm.z 0) rfl hB) rfl hfin
        · skip
          refine wp_store_row 36 (.tmp 4) (.tmp 19) rfl (w.heap.size + 1) (Qm.z 0).c (by rfl) (by rfl) 36 (Qm.z 0).c (by exact R9.out) (by rw [Qm.c_size]; exact query_size) (by rfl) (Qm.c_all _) ?_
          refine hK.out _ _ trivial (fun hHeld => ?_)
          clear hK K'
          simp only [Act.put, List.getElem_toArray, List.getElem_cons_succ, List.getElem_cons_zero, List.setIfInBounds_toArray, List.set_cons_zero, List.set_cons_succ]
          refine wpAnyH_ready (rs := [2]) (by kernel_rfl) (by simp) ?_
          refine AllReadyH.cons rfl (fun K' hK => ?_) AllReadyH.nil
          have z02 := (grown_setRow w9 (w.heap.size + 1) (Qm.z 0).c).cell z0 (by simp; omega)
          go_simp
          refine hK.out _ _ trivial (fun hHeld => ?_)
          clear hK K'
          simp only [List.setIfInBounds_toArray, List.set_cons_zero, List.set_cons_succ]
          refine wpAnyH_take (i := 6) (v := ?v6z9) rfl (by kernel_rfl) (by kernel_rfl) (by kernel_rfl) (fun _ _ _ h => h) (Or.inl ⟨by rfl, ?y6z9⟩) (by assumption) ?r6z9
          case y6z9 => (intro w hSw; (try dsimp only at hSw); go_simp; try with_reducible rfl)
          simp only [Act.put, List.getElem_toArray, List.getElem_cons_succ, List.getElem_cons_zero, List.setIfInBounds_toArray, List.set_cons_zero, List.set_cons_succ]
          refine wpAnyH_take (i := 7) (v := ?v7z10) rfl (by kernel_rfl) (by kernel_rfl) (by kernel_rfl) (fun _ _ _ h => h) (Or.inl ⟨by rfl, ?y7z10⟩) (by assumption) ?r7z10
          case y7z10 => (intro w hSw; (try dsimp only at hSw); go_simp; try with_reducible rfl)
          simp only [Act.put, List.getElem_toArray, List.getElem_cons_succ, List.getElem_cons_zero, List.setIfInBounds_toArray, List.set_cons_zero, List.set_cons_succ]
          refine wpAnyH_done (by kernel_rfl) ?_ _
          have hS := grown_setRow w9 (w.heap.size + 1) (Qm.z 0).c
          have hB := setRow_heap w9 (w.heap.size + 1) (Qm.z 0).c (Qm.z 0).c _ _ (by exact R9.out)
          have hfin : CkIs l y w (.returned (.tuple #[.agg (Qm.z 0).c, .int .i64 (p.1 : Nat), .int .i64 (p.2 : Nat)])) (w9.setRow (w.heap.size + 1) (Qm.z 0).c) := ⟨grown_thenX (G8.out.trans G89.out) hS (fun j e => by cases e; omega), .inl ⟨p, HP.out.1, HP.out.2, rfl⟩⟩
          go_wp2_with fail
          exact bodyPost_ret (results_qm3 (p := 4) (u := 5) (v := 6) rfl _ _ (w.heap.size + 1) (Qm.z 0) rfl hB) rfl hfin
  · have HY := Lib.hid (And.intro hy' hyS)
    have HM1 := Lib.hid (HM.out y')
    clear hy' hyS HM
    obtain ⟨W3, hW3⟩ : ∃ W3, W3 = (w2.alloc (.cells (Qm.z 0).c 36)).setRow w2.heap.size y'.c := ⟨_, rfl⟩
    rw [← hW3] at HM1
    obtain ⟨W4, hW4⟩ : ∃ W4, W4 = W3.alloc (.cells #[.int .i64 0, .nilIface] 90) := ⟨_, rfl⟩
    have gF : W3.grownBy W4 none := by rw [hW4]; exact World.grownBy_alloc W3 _ none
    have G24 := Lib.hid (HM1.out.1.trans gF)
    have G4 := Lib.hid (G2.out.trans G24.out)
    have R4 := Lib.hid (blk_grown G24.out R2.out)
    have B4 := Lib.hid (blk_grown gF HM1.out.2)
    go_wp2_with (refine wpList_store_row rfl 36 (.tmp 7) (.tmp 14) rfl w2.heap.size y'.c rfl rfl 36 (Qm.z 0).c B5.out (by rw [Qm.c_size]; exact query_size) (by rw [Qm.c_size, Qm.c_size]) (Qm.c_all _) ?_)
    change Calls _ _ _ (((w2.alloc (.cells (Qm.z 0).c 36)).setRow w2.heap.size y'.c).alloc (.cells #[.int .i64 0, .nilIface] 90)) _
    rw [← hW3, ← hW4]
    clear hW3 hW4 gF B5 HM1
    refine (HA.out _ _).mono ?_
    rintro e w7 ⟨rfl, rfl⟩
    go_wp2_with (first
      | (refine wpList_load_row rfl 36 (.tmp 7) rfl w2.heap.size rfl 36 y'.c (0, 0) _ B4.out Tryz.underlying36 rfl (by rw [Qm.c_size]; exact query_size) ?_)
      | (refine wpList_store_row rfl 36 (.tmp 4) (.tmp 24) rfl (w.heap.size + 1) y'.c rfl rfl 36 (Qm.z 0).c R4.out (by rw [Qm.c_size]; exact query_size) (by rw [Qm.c_size, Qm.c_size]) (Qm.c_all _) ?_))
    have hS := grown_setRow W4 (w.heap.size + 1) y'.c
    have hB := setRow_heap W4 (w.heap.size + 1) (Qm.z 0).c y'.c _ _ R4.out
    have hfin : CkIs l y w (.returned (.tuple #[.agg y'.c, .int .i64 0, .int .i64 0])) (W4.setRow (w.heap.size + 1) y'.c) := ⟨grown_thenX G4.out hS (fun j e => by cases e; omega), .inr ⟨y', HY.out.1, rfl, ((HY.out.2.keep (.of G24.out)).keep (w' := W4.setRow (w.heap.size + 1) y'.c) ⟨hS.size, fun b hb hlt => hS.block b hlt (by simp; omega)⟩).mono (fun b _ hb => by omega)⟩⟩
    exact bodyPost_ret (results_qm3 (p := 4) (u := 5) (v := 6) rfl _ _ (w.heap.size + 1) y' rfl hB) rfl hfin
end Go.Proofs.YtjaclmoobfeikaaGreatDoor
namespace Go.Proofs.YtjaclmoobfeikaaGreatDoor
open Go.RowKit

theorem parse_nzC {T : ByteArray} {p c : Nat} (h : parseL T = .error (p, c)) : c ≠ 0 := by
  unfold parseL at h
  cases hl : lexL T with
  | error e =>
    rw [hl] at h
    simp only [Except.error.injEq] at h
    have := lexL_codes T p c (by rw [hl, h])
    omega
  | ok l =>
    rw [hl] at h
    simp only at h
    have hn := queryL_nz ⟨l, none⟩ (fun p hp => by cases hp)
    cases he : (queryL ⟨l, none⟩).1.err with
    | none => rw [he] at h; simp at h
    | some e =>
      rw [he] at h
      simp only [Except.error.injEq] at h
      have := hn e he
      rw [h] at this
      exact this
theorem parse_bounds8 {T : ByteArray} {q : Qry} (h : parseL T = .ok q) : q.cond.n ≤ 1000 ∧ q.items.length ≤ 1000 ∧ q.group.length ≤ 1000 ∧ q.order.length ≤ 1000 := by
  have hb := (parse_bounds h).1
  unfold parseL at h
  cases hl : lexL T with
  | error e => rw [hl] at h; simp at h
  | ok l =>
    rw [hl] at h
    simp only at h
    cases he : (queryL ⟨l, none⟩).1.err with
    | some e => rw [he] at h; simp at h
    | none =>
      rw [he] at h
      simp only [Except.ok.injEq] at h
      rw [← h]
      rw [← h] at hb
      exact ⟨hb, Nat.le_trans (itemsQ_len _) (by decide), Nat.le_trans (groupQ_len _) (by decide), Nat.le_trans (orderQ_len _) (by decide)⟩
/-- A text's query upon a catalog, or the place and the number of what is wrong. -/
def ckL (s : ByteArray) (l : List Tb) : Except (Nat × Nat) Qry := match parseL s with
  | .error e => .error e
  | .ok q => checkE l q
def LkIs (s : ByteArray) (l : List Tb) (w : World) (e : Ending) (w' : World) : Prop :=
  w.grownBy w' none ∧ ((∃ p, ckL s l = .error p ∧ p.2 ≠ 0 ∧ e = .returned (.tuple #[.agg (Qm.z 0).c, .int .i64 (p.1 : Nat), .int .i64 (p.2 : Nat)])) ∨
    ∃ y' : Qm, ckL s l = .ok y'.e ∧ e = .returned (.tuple #[.agg y'.c, .int .i64 0, .int .i64 0]) ∧ QmS (fun j => w.heap.size ≤ j) w' y')
theorem isCk_nz {c : Nat} (h : isCk c) : c ≠ 0 := by unfold isCk at h; omega
set_option maxRecDepth 100000 in
set_option maxHeartbeats 6400000 in
theorem lawChecked_any (G G2 : Nat) (n g m l : Addr) (f : Nat → Addr) (s : ByteArray) (a : Option Addr) (cap : Nat) (ts : List Tb) (w : World) (h : TabsAt w.heap.size w a ts) (hs : ∀ t ∈ ts, t.l.length ≤ 1000) (hE : LxEnv G n g m l w) (hF : CkEnv G2 f w) :
    Calls Tryz.prog 8 #[.string s, .slice a ts.length cap] w (LkIs s ts w) := by
  have HP := Lib.hid (fun W (hW : w.grownBy W none) => parse_any G n g m l s W (hE.keep hW))
  have HC := Lib.hid (fun (y : Qm) W (hW : w.grownBy W none) (hy : QBk W y) => check_anyC G2 f a cap ts y W ((h.keep hW (by simp)).mono hW.size) hs hy (hF.keep hW))
  generalize ts.length = nt at *
  have HD : Hid (ckL s ts = match parseL s with
    | .error e => .error e
    | .ok q => checkE ts q) := Lib.hid rfl
  obtain ⟨R, hR⟩ : ∃ R, R = ckL s ts := ⟨_, rfl⟩
  rw [← hR] at HD
  have HR := Lib.hid hR
  have G0 := Lib.hid (World.grownBy_alloc w (.cells (Qm.z 0).c 36) none)
  have B0 := heap_alloc_new w (.cells (Qm.z 0).c 36)
  clear h hs hE hF hR
  go_enter Tryz.func8, Tryz.ntmps8
  go_wp2_with fail
  refine (HP.out _ G0.out).mono ?_
  rintro e w2 ⟨hg, hr⟩
  have G2' := Lib.hid (G0.out.trans hg)
  have R2 := Lib.hid (blk_grown hg B0)
  have B5 := Lib.hid (heap_alloc_new w2 (.cells (Qm.z 0).c 36))
  have hs0 : (w.alloc (.cells (Qm.z 0).c 36)).heap.size = w.heap.size + 1 := by simp
  have hs2 := hg.size
  have HM : Hid (∀ (x : Qm), w2.grownBy ((w2.alloc (.cells (Qm.z 0).c 36)).setRow w2.heap.size x.c) none ∧ ((w2.alloc (.cells (Qm.z 0).c 36)).setRow w2.heap.size x.c).heap[w2.heap.size]? = some (.cells x.c 36 (0, 0))) := Lib.hid fun x =>
    ⟨grown_thenX (World.grownBy_alloc w2 (.cells (Qm.z 0).c 36) none) (grown_setRow _ w2.heap.size x.c) (fun j e => by cases e; exact Nat.le_refl _), setRow_heap _ _ (Qm.z 0).c x.c _ _ (heap_alloc_new w2 _)⟩
  clear hg B0 HP
  rcases hr with ⟨p, c, hp, rfl⟩ | ⟨y, hp, rfl, hyS⟩
  · have hc := parse_nzC hp
    have HX : Hid (R = .error (p, c)) := Lib.hid (by rw [HD.out, hp])
    have hc' : ((c : Int) != 0) = true := by rw [bne_iff_ne]; omega
    have HC0 := Lib.hid hc
    have HM1 := HM.out (Qm.z 0)
    obtain ⟨W3, hW3⟩ : ∃ W3, W3 = (w2.alloc (.cells (Qm.z 0).c 36)).setRow w2.heap.size (Qm.z 0).c := ⟨_, rfl⟩
    rw [← hW3] at HM1
    have R3 := Lib.hid (blk_grown HM1.1 R2.out)
    have G3 := Lib.hid (G2'.out.trans HM1.1)
    clear hp hc HD HM HM1
    go_upto_region 3 with (refine wpList_store_row rfl 36 (.tmp 7) (.tmp 13) rfl w2.heap.size (Qm.z 0).c rfl rfl 36 (Qm.z 0).c B5.out (by rw [Qm.c_size]; exact query_size) rfl (Qm.c_all _) ?_)
    change Code.wp _ _ _ _ ((w2.alloc (.cells (Qm.z 0).c 36)).setRow w2.heap.size (Qm.z 0).c)
    rw [← hW3]
    clear hW3
    go_wp2_with (refine wpList_store_row rfl 36 (.tmp 4) (.tmp 18) rfl w.heap.size (Qm.z 0).c rfl rfl 36 (Qm.z 0).c R3.out (by rw [Qm.c_size]; exact query_size) rfl (Qm.c_all _) ?_)
    have hS := grown_setRow W3 w.heap.size (Qm.z 0).c
    have hB := setRow_heap W3 w.heap.size (Qm.z 0).c (Qm.z 0).c _ _ R3.out
    have hfin : LkIs s ts w (.returned (.tuple #[.agg (Qm.z 0).c, .int .i64 (p : Nat), .int .i64 (c : Nat)])) (W3.setRow w.heap.size (Qm.z 0).c) := ⟨grown_thenX G3.out hS (fun j e => by cases e; exact Nat.le_refl _), .inl ⟨(p, c), by rw [← HR.out, HX.out], HC0.out, rfl⟩⟩
    exact bodyPost_ret (results_qm3 (p := 4) (u := 5) (v := 6) rfl _ _ w.heap.size (Qm.z 0) rfl hB) rfl hfin
  · have HX : Hid (R = checkE ts y.e) := Lib.hid (by rw [HD.out, hp])
    have hb := parse_bounds8 hp
    have hf := parseL_few s y.e hp
    have HB : Hid (QBk w2 y) := Lib.hid ⟨hyS.mono (fun b hb _ => hb), by rw [Pm.n_e]; exact hb.1, hf, hb.2.1, hb.2.2.2, hb.2.2.1⟩
    have HM1 := HM.out y
    obtain ⟨W3, hW3⟩ : ∃ W3, W3 = (w2.alloc (.cells (Qm.z 0).c 36)).setRow w2.heap.size y.c := ⟨_, rfl⟩
    rw [← hW3] at HM1
    have R3 := Lib.hid (blk_grown HM1.1 R2.out)
    have B3 := Lib.hid HM1.2
    have G23 := Lib.hid HM1.1
    have G3 := Lib.hid (G2'.out.trans HM1.1)
    clear hp hb hf HD HM HM1 hyS
    go_upto_region 4 with (refine wpList_store_row rfl 36 (.tmp 7) (.tmp 13) rfl w2.heap.size y.c rfl rfl 36 (Qm.z 0).c B5.out (by rw [Qm.c_size]; exact query_size) (by rw [Qm.c_size, Qm.c_size]) (Qm.c_all _) ?_)
    change Code.wp _ _ _ _ ((w2.alloc (.cells (Qm.z 0).c 36)).setRow w2.heap.size y.c)
    rw [← hW3]
    clear hW3
    go_wp2_with (refine wpList_load_row rfl 36 (.tmp 7) rfl w2.heap.size rfl 36 y.c (0, 0) _ B3.out Tryz.underlying36 rfl (by rw [Qm.c_size]; exact query_size) ?_)
    refine (HC.out y _ G3.out (HB.out.keep G23.out)).mono ?_
    rintro e w5 ⟨hg, hr⟩
    have G5 := Lib.hid (G3.out.trans hg)
    have R5 := Lib.hid (blk_grown hg R3.out)
    have hs3 := G3.out.size
    have hs3' := (Array.getElem?_eq_some_iff.1 R3.out).1
    clear hg
    rcases hr with ⟨p, hp, hk, rfl⟩ | ⟨y', hp, rfl, hyS⟩
    · have HPp := Lib.hid (And.intro hp hk)
      clear hp hk
      go_wp2_with (refine wpList_store_row rfl 36 (.tmp 4) (.tmp 24) rfl w.heap.size (Qm.z 0).c rfl rfl 36 (Qm.z 0).c R5.out (by rw [Qm.c_size]; exact query_size) rfl (Qm.c_all _) ?_)
      have hS := grown_setRow w5 w.heap.size (Qm.z 0).c
      have hB := setRow_heap w5 w.heap.size (Qm.z 0).c (Qm.z 0).c _ _ R5.out
      have hfin : LkIs s ts w (.returned (.tuple #[.agg (Qm.z 0).c, .int .i64 (p.1 : Nat), .int .i64 (p.2 : Nat)])) (w5.setRow w.heap.size (Qm.z 0).c) := ⟨grown_thenX G5.out hS (fun j e => by cases e; exact Nat.le_refl _), .inl ⟨p, by rw [← HR.out, HX.out]; exact HPp.out.1, isCk_nz HPp.out.2, rfl⟩⟩
      exact bodyPost_ret (results_qm3 (p := 4) (u := 5) (v := 6) rfl _ _ w.heap.size (Qm.z 0) rfl hB) rfl hfin
    · have HY := Lib.hid (And.intro hp hyS)
      clear hp hyS
      go_wp2_with (refine wpList_store_row rfl 36 (.tmp 4) (.tmp 24) rfl w.heap.size y'.c rfl rfl 36 (Qm.z 0).c R5.out (by rw [Qm.c_size]; exact query_size) (by rw [Qm.c_size, Qm.c_size]) (Qm.c_all _) ?_)
      have hS := grown_setRow w5 w.heap.size y'.c
      have hB := setRow_heap w5 w.heap.size (Qm.z 0).c y'.c _ _ R5.out
      have hfin : LkIs s ts w (.returned (.tuple #[.agg y'.c, .int .i64 0, .int .i64 0])) (w5.setRow w.heap.size y'.c) := ⟨grown_thenX G5.out hS (fun j e => by cases e; exact Nat.le_refl _), .inr ⟨y', by rw [← HR.out, HX.out]; exact HY.out.1, rfl, (HY.out.2.keep (w' := w5.setRow w.heap.size y'.c) ⟨hS.size, fun b hb hlt => hS.block b hlt (by simp; omega)⟩).mono (fun b _ hb => by omega)⟩⟩
      exact bodyPost_ret (results_qm3 (p := 4) (u := 5) (v := 6) rfl _ _ w.heap.size y' rfl hB) rfl hfin
/-- The catalog of the laws. -/
def catC : List Cl := [⟨⟨#[97]⟩, 2, false⟩, ⟨⟨#[98]⟩, 3, false⟩, ⟨⟨#[99]⟩, 1, true⟩, ⟨⟨#[100]⟩, 2, true⟩]
def catT (a : Ptr) : Tb := ⟨⟨#[116]⟩, a, 4, catC, 1⟩
theorem catalogC_any (w : World) : Calls Tryz.prog 13 #[] w fun e w' => (∃ a b, e = .returned (.slice b 1 1) ∧ TabsAt w'.heap.size w' b [catT a]) ∧ w.grownBy w' none := by
  go_enter Tryz.func13, Tryz.ntmps13
  go_wp2_with fail
  go_ret
  have b1 := heap_alloc_new w (.cells #[.string ⟨#[97]⟩, .int .i64 2, .bool false, .string ⟨#[98]⟩, .int .i64 3, .bool false, .string ⟨#[99]⟩, .int .i64 1, .bool true, .string ⟨#[100]⟩, .int .i64 2, .bool true] 86)
  have g1 := World.grownBy_alloc w (.cells #[.string ⟨#[97]⟩, .int .i64 2, .bool false, .string ⟨#[98]⟩, .int .i64 3, .bool false, .string ⟨#[99]⟩, .int .i64 1, .bool true, .string ⟨#[100]⟩, .int .i64 2, .bool true] 86) none
  have b2 := heap_alloc_new (w.alloc (.cells #[.string ⟨#[97]⟩, .int .i64 2, .bool false, .string ⟨#[98]⟩, .int .i64 3, .bool false, .string ⟨#[99]⟩, .int .i64 1, .bool true, .string ⟨#[100]⟩, .int .i64 2, .bool true] 86)) (.cells #[.string ⟨#[116]⟩, .slice (some ⟨w.heap.size, 0, none⟩) 4 4, .int .i64 1] 44)
  have g2 := World.grownBy_alloc (w.alloc (.cells #[.string ⟨#[97]⟩, .int .i64 2, .bool false, .string ⟨#[98]⟩, .int .i64 3, .bool false, .string ⟨#[99]⟩, .int .i64 1, .bool true, .string ⟨#[100]⟩, .int .i64 2, .bool true] 86)) (.cells #[.string ⟨#[116]⟩, .slice (some ⟨w.heap.size, 0, none⟩) 4 4, .int .i64 1] 44) none
  have b1' := blk_grown g2 b1
  rw [show (w.alloc (.cells #[.string ⟨#[97]⟩, .int .i64 2, .bool false, .string ⟨#[98]⟩, .int .i64 3, .bool false, .string ⟨#[99]⟩, .int .i64 1, .bool true, .string ⟨#[100]⟩, .int .i64 2, .bool true] 86)).heap.size = w.heap.size + 1 by simp] at b2
  refine ⟨⟨some ⟨w.heap.size, 0, none⟩, some ⟨w.heap.size + 1, 0, none⟩, rfl, (by show 1 ≤ 9223372036854775807; decide), fun t ht => ?_, .inr ⟨w.heap.size + 1, 0, rfl, (Array.getElem?_eq_some_iff.1 b2).1, fun i hi => ?_⟩⟩, g1.trans g2⟩
  · obtain rfl : t = catT (some ⟨w.heap.size, 0, none⟩) := by simpa using ht
    refine ⟨(by show 4 ≤ 9223372036854775807; decide), .inr ⟨w.heap.size, 0, rfl, (Array.getElem?_eq_some_iff.1 b1').1, fun i hi => ?_⟩⟩
    have hi4 : i < 4 := hi
    obtain rfl | rfl | rfl | rfl : i = 0 ∨ i = 1 ∨ i = 2 ∨ i = 3 := by omega
    all_goals exact ⟨cell_of_row _ _ _ _ _ _ b1', cell_of_row _ _ _ _ _ _ b1', cell_of_row _ _ _ _ _ _ b1'⟩
  · obtain rfl : i = 0 := by have : i < 1 := hi; omega
    exact ⟨cell_of_row _ _ _ _ _ _ b2, cell_of_row _ _ _ _ _ _ b2, cell_of_row _ _ _ _ _ _ b2⟩
end Go.Proofs.YtjaclmoobfeikaaGreatDoor
