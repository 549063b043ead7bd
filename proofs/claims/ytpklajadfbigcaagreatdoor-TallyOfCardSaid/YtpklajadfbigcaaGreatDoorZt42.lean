import Derived.Test.YtpklajadfbigcaaGreatDoorZt19
import Derived.Test.YtpklajadfbigcaaGreatDoorZt41
import Derived.Test.YtpklajadfbigcaaGreatDoorZt40
import Derived.Test.YtpklajadfbigcaaGreatDoorZt08
import Derived.Test.YtpklajadfbigcaaGreatDoorZt36
set_option linter.unusedSimpArgs false
set_option linter.unusedVariables false
namespace Go.Proofs.YtpklajadfbigcaaGreatDoor
open Go.RowKit
set_option linter.unusedVariables false
set_option linter.unusedSimpArgs false
theorem rws_c {W : World} {gr gs : Nat} {T U : TypeId} (h : W.heap[gr]? = some (.cells #[.int .i64 2, .int .i64 1, .string ⟨#[]⟩, .int .i64 3, .int .i64 0, .string ⟨#[]⟩, .int .i64 0, .int .i64 0, .string ⟨#[]⟩, .int .i64 0, .int .i64 0, .string ⟨#[]⟩] T (0, 0))) (h2 : W.heap[gs]? = some (.cells #[.slice (some ⟨gr, 0, none⟩) 4 4] U (0, 0))) : RwsAt W.heap.size W (some ⟨gs, 0, none⟩) [⟨some ⟨gr, 0, none⟩, 4, rowV 1 ⟨0, 0, ⟨#[]⟩⟩⟩] := by
  refine ⟨by simp, fun x hx => ?_, .inr ⟨gs, 0, rfl, (Array.getElem?_eq_some_iff.1 h2).1, fun i hi => ?_⟩⟩
  · rw [List.mem_singleton.1 hx]
    refine ⟨⟨by show 4 ≤ 9223372036854775807; decide, .inr ⟨gr, 0, rfl, (Array.getElem?_eq_some_iff.1 h).1, fun j hj => ?_⟩⟩, Nat.le_refl _⟩
    have hj4 : j < 4 := hj
    obtain rfl | rfl | rfl | rfl : j = 0 ∨ j = 1 ∨ j = 2 ∨ j = 3 := by omega
    all_goals exact ⟨cell_of_row _ _ _ _ _ _ h, cell_of_row _ _ _ _ _ _ h, cell_of_row _ _ _ _ _ _ h⟩
  · obtain rfl : i = 0 := by simp at hi; omega
    exact cell_of_row _ _ 0 _ _ _ h2
theorem rwc_ok {gr : Nat} : (∀ x ∈ ([⟨some ⟨gr, 0, none⟩, 4, rowV 1 ⟨0, 0, ⟨#[]⟩⟩⟩] : List Rwm), FineR catC x) ∧ ∀ x ∈ ([⟨some ⟨gr, 0, none⟩, 4, rowV 1 ⟨0, 0, ⟨#[]⟩⟩⟩] : List Rwm), ∀ v ∈ x.l, In64 (vlV v) := by
  have h := rowT_ok 1 ⟨0, 0, ⟨#[]⟩⟩ (by decide) fine_z (fun h => absurd h (by decide))
  refine ⟨fun x hx => ?_, fun x hx => ?_⟩ <;> rw [List.mem_singleton.1 hx]
  · exact ⟨h.1, h.2.1⟩
  · exact h.2.2
theorem rwc_vs {gr : Nat} : ([⟨some ⟨gr, 0, none⟩, 4, rowV 1 ⟨0, 0, ⟨#[]⟩⟩⟩] : List Rwm).map (rowC ⟨#[100]⟩ catC) = [vlV ⟨0, 0, ⟨#[]⟩⟩] := by
  rw [List.map_cons, List.map_nil, rowC_rowV 1 ⟨0, 0, ⟨#[]⟩⟩ _ rfl]
theorem itm_size : (Tryz.prog.info? 27).map (·.size) = some 3 := by kernel_rfl
set_option maxRecDepth 100000 in
set_option maxHeartbeats 12800000 in
theorem awake17_any (G : Nat) (ad : Addr) (w : World) (hE : TaEnv G ad w) : Calls Tryz.prog 6 #[] w fun e w' => e = .returned (.bool true) ∧ w.grownBy w' none := by
  have HE := Lib.hid hE
  clear hE
  go_enter Tryz.func6, Tryz.ntmps6
  go_wp2_with fail
  refine (catalogC_any _).mono ?_
  rintro e w1 ⟨⟨a, b, rfl, hT⟩, hg⟩
  obtain ⟨gt, ot, rfl, _, d0, d1, d2⟩ := hT.at (i := 0) (by simp)
  have hC := hT.2.1 (catT a) (by simp)
  have HC := Lib.hid (show ColsAt w1.heap.size w1 a catC from hC)
  have G1 := Lib.hid hg
  have e0 : w1.cell? ⟨gt, ot, none⟩ = some (.string ⟨#[116]⟩) := by
    have h : w1.cell? ⟨gt, ot, none⟩ = some (.string (catT a).n) := by simpa using d0
    exact h
  have e1 : w1.cell? ⟨gt, ot + 1, none⟩ = some (.slice a 4 4) := by
    have h : w1.cell? ⟨gt, ot + 1, none⟩ = some (.slice (catT a).a (catT a).l.length (catT a).cap) := by simpa using d1
    exact h
  have e2 : w1.cell? ⟨gt, ot + 2, none⟩ = some (.int .i64 1) := by
    have h : w1.cell? ⟨gt, ot + 2, none⟩ = some (.int .i64 (catT a).k) := by simpa using d2
    exact h
  clear hT hg d0 d1 d2 hC
  go_upto_region 2 with fail
  clear e0 e1 e2
  change Code.wp _ _ _ _ (w1.alloc (.cells #[.string ⟨#[116]⟩, .slice a 4 4, .int .i64 1] 24))
  have T2 := Lib.hid (heap_alloc_new w1 (.cells #[.string ⟨#[116]⟩, .slice a 4 4, .int .i64 1] 24))
  have G2 := Lib.hid (World.grownBy_alloc w1 (.cells #[.string ⟨#[116]⟩, .slice a 4 4, .int .i64 1] 24) none)
  generalize w1.alloc (.cells #[.string ⟨#[116]⟩, .slice a 4 4, .int .i64 1] 24) = w2 at *
  obtain ⟨g1, hg1⟩ : ∃ g1, g1 = w1.heap.size := ⟨_, rfl⟩
  rw [← hg1] at T2 ⊢
  go_upto_region 3 with fail
  have X3 := Lib.hid (heap_alloc_new w2 (.cells #[.int .i64 3, .string ⟨#[100]⟩, .int .i64 0] 27))
  have G3 := Lib.hid (World.grownBy_alloc w2 (.cells #[.int .i64 3, .string ⟨#[100]⟩, .int .i64 0] 27) none)
  change Code.wp _ _ _ _ (w2.alloc (.cells #[.int .i64 3, .string ⟨#[100]⟩, .int .i64 0] 27))
  generalize w2.alloc (.cells #[.int .i64 3, .string ⟨#[100]⟩, .int .i64 0] 27) = w3 at *
  obtain ⟨g2, hg2⟩ : ∃ g2, g2 = w2.heap.size := ⟨_, rfl⟩
  rw [← hg2] at X3 ⊢
  have T3 := Lib.hid (blkD G3.out T2.out)
  have H3 := Lib.hid (G1.out.trans (G2.out.trans G3.out))
  have GC3 := Lib.hid (G2.out.trans G3.out)
  clear hg1 hg2 T2 G1 G2 G3
  go_cut [3, 4] from 13 to 21 (fun sp se wx => ∃ gp : Nat, sp = .pointer (some ⟨gp, 0, none⟩) ∧ se = .int .i64 0 ∧ Hid (wx.heap[gp]? = some (.cells #[.int .i64 2, .int .i64 9223372036854775807, .string ⟨#[]⟩] 37 (0, 0))) ∧ Hid (w3.grownBy wx none))
  case first =>
    refine wp_region_held_drew (S := (fun W => Hid (w3.grownBy W none))) (by kernel_rfl) (Lib.hid (grown_drewT (grown_reflX w3 none))) (fun hHeld => ?_)
    refine TKA (i := 0) (v := .agg #[.string ⟨#[116]⟩, .slice a 4 4, .int .i64 1]) rfl (yieldsIf_load_mid (by rfl) _ _ rfl g1 0 rfl _ _ (fun W hS => range_rowD (blkD hS.out T3.out)) Tryz.underlying24 rfl tab_size) ?_
    simp only [Act.put, List.getElem_toArray, List.getElem_cons_succ, List.getElem_cons_zero, List.size_toArray, List.length_cons, List.length_nil, Nat.reduceAdd, Array.replicate, List.replicate, List.setIfInBounds_toArray, List.set_cons_zero, List.set_cons_succ]
    refine TKA (i := 1) (v := .agg #[.int .i64 3, .string ⟨#[100]⟩, .int .i64 0]) rfl (yieldsIf_load_mid (by rfl) _ _ rfl g2 0 rfl _ _ (fun W hS => range_rowD (blkD hS.out X3.out)) Tryz.underlying27 rfl itm_size) ?_
    simp only [Act.put, List.getElem_toArray, List.getElem_cons_succ, List.getElem_cons_zero, List.size_toArray, List.length_cons, List.length_nil, Nat.reduceAdd, Array.replicate, List.replicate, List.setIfInBounds_toArray, List.set_cons_zero, List.set_cons_succ]
    refine wpAnyH_ready (rs := [2, 8]) (by kernel_rfl) (by simp) ?_
    refine (AllReadyH.cons rfl (fun K' hK => ?_) (AllReadyH.cons rfl (fun K' hK => ?_) AllReadyH.nil))
    · go_simp
      obtain ⟨v2, hv2⟩ : ∃ v, v = (w3.alloc (.cells #[.int .i64 9223372036854775807, .int .i64 1, .int .i64 (-1)] 3)).drew := ⟨_, rfl⟩
      have D2 : Hid (w3.grownBy v2 none) := Lib.hid (by rw [hv2]; exact grown_drewT (World.grownBy_alloc w3 (.cells #[.int .i64 9223372036854775807, .int .i64 1, .int .i64 (-1)] 3) none))
      have Z2 : Hid (w3.grownBy v2 none) := Lib.hid (((grown_reflX w3 none)).trans D2.out)
      have N2 : Hid (v2.heap[w3.heap.size]? = some (.cells #[.int .i64 9223372036854775807, .int .i64 1, .int .i64 (-1)] 3 (0, 0))) := Lib.hid (by rw [hv2]; exact heap_alloc_new w3 (.cells #[.int .i64 9223372036854775807, .int .i64 1, .int .i64 (-1)] 3))
      rw [← hv2]
      clear hv2
      obtain ⟨gn, hgn⟩ : ∃ g, g = w3.heap.size := ⟨_, rfl⟩
      rw [← hgn] at N2 ⊢
      have Hgn := Lib.hid hgn
      clear hgn
      refine hK.out _ _ Z2 (fun hHeld => ?_)
      clear hK K'
      simp only [Act.put, List.getElem_toArray, List.getElem_cons_succ, List.getElem_cons_zero, List.size_toArray, List.length_cons, List.length_nil, Nat.reduceAdd, Array.replicate, List.replicate, List.setIfInBounds_toArray, List.set_cons_zero, List.set_cons_succ]
      refine wpAnyH_ready (rs := [3, 8]) (by kernel_rfl) (by simp) ?_
      refine (AllReadyH.cons rfl (fun K' hK => ?_) (AllReadyH.cons rfl (fun K' hK => ?_) AllReadyH.nil))
      · go_simp
        go_at_call 18
        refine (lints_any gn [9223372036854775807, 1, -1] 3 _ N2.out (by decide)).mono ?_
        rintro e v3 ⟨⟨ra, rc, rs, rfl, hri, hra, hrc⟩, hg⟩
        have D3 := Lib.hid hg
        have Z3 : Hid (w3.grownBy v3 none) := Lib.hid ((Z2.out).trans hg)
        have RI := Lib.hid hri
        have RR3 := Lib.hid hra
        have RC : Hid (3 ≤ rc) := Lib.hid hrc
        clear hg hri hra hrc
        have N3 := Lib.hid (blkD D3.out N2.out)
        refine hK.out _ _ Z3 (fun hHeld => ?_)
        clear hK K'
        simp only [Act.put, List.getElem_toArray, List.getElem_cons_succ, List.getElem_cons_zero, List.size_toArray, List.length_cons, List.length_nil, Nat.reduceAdd, Array.replicate, List.replicate, List.setIfInBounds_toArray, List.set_cons_zero, List.set_cons_succ]
        refine wpAnyH_ready (rs := [4, 8]) (by kernel_rfl) (by simp) ?_
        refine (AllReadyH.cons rfl (fun K' hK => ?_) (AllReadyH.cons rfl (fun K' hK => ?_) AllReadyH.nil))
        · go_simp
          have HOF := tof_any G ad ⟨#[116]⟩ a 4 catC 1 3 ⟨#[100]⟩ 0 ra rc rs _ (HE.out.keep ((H3.out).trans Z3.out)) ((HC.out.keep ((GC3.out).trans Z3.out) (by simp)).mono ((GC3.out).trans Z3.out).size) catC_sz (by decide) (by decide) RR3.out (by rw [RI.out.1]; exact RC.out) (by rw [RI.out.1]; decide) (ints_ok RI.out (by decide) (by decide)).1 (ints_ok RI.out (by decide) (by decide)).2 (by decide)
          rw [RI.out.1, ints_vs RI.out, aw17_a.1, aw17_a.2] at HOF
          go_at_call 10
          refine HOF.mono ?_
          rintro e v4 ⟨rfl, hg⟩
          have D4 := Lib.hid hg
          have Z4 : Hid (w3.grownBy v4 none) := Lib.hid (Z3.out.trans hg)
          clear HOF hg
          have R4 := Lib.hid (RR3.out.up D4.out)
          have RR4 := R4
          refine hK.out _ _ Z4 (fun hHeld => ?_)
          clear hK K'
          simp only [Act.put, List.getElem_toArray, List.getElem_cons_succ, List.getElem_cons_zero, List.size_toArray, List.length_cons, List.length_nil, Nat.reduceAdd, Array.replicate, List.replicate, List.setIfInBounds_toArray, List.set_cons_zero, List.set_cons_succ]
          refine TKB (i := 5) (v := ?v5z1k1) rfl ?y5z1k1 ?r5z1k1
          case y5z1k1 => (intro w hSw; (try dsimp only at hSw); go_simp; try with_reducible rfl)
          simp only [Act.put, List.getElem_toArray, List.getElem_cons_succ, List.getElem_cons_zero, List.size_toArray, List.length_cons, List.length_nil, Nat.reduceAdd, Array.replicate, List.replicate, List.setIfInBounds_toArray, List.set_cons_zero, List.set_cons_succ]
          refine TKB (i := 6) (v := ?v6z2k1) rfl ?y6z2k1 ?r6z2k1
          case y6z2k1 => (intro w hSw; (try dsimp only at hSw); go_simp; try with_reducible rfl)
          simp only [Act.put, List.getElem_toArray, List.getElem_cons_succ, List.getElem_cons_zero, List.size_toArray, List.length_cons, List.length_nil, Nat.reduceAdd, Array.replicate, List.replicate, List.setIfInBounds_toArray, List.set_cons_zero, List.set_cons_succ]
          refine TKB (i := 7) (v := ?v7z3k1) rfl ?y7z3k1 ?r7z3k1
          case y7z3k1 => (intro w hSw; (try dsimp only at hSw); go_simp; try with_reducible rfl)
          simp only [Act.put, List.getElem_toArray, List.getElem_cons_succ, List.getElem_cons_zero, List.size_toArray, List.length_cons, List.length_nil, Nat.reduceAdd, Array.replicate, List.replicate, List.setIfInBounds_toArray, List.set_cons_zero, List.set_cons_succ]
          refine RD1 (i := 8) rfl (fun K' hK => ?_)
          go_simp
          obtain ⟨v8, hv8⟩ : ∃ v, v = (v4.alloc (.cells #[.int .i64 0, .int .i64 0, .string ⟨#[]⟩] 37)) := ⟨_, rfl⟩
          have D8 : Hid (v4.grownBy v8 none) := Lib.hid (by rw [hv8]; exact World.grownBy_alloc v4 (.cells #[.int .i64 0, .int .i64 0, .string ⟨#[]⟩] 37) none)
          have Z8 : Hid (w3.grownBy v8 none) := Lib.hid ((Z4.out).trans D8.out)
          have P8 : Hid (v8.heap[v4.heap.size]? = some (.cells #[.int .i64 0, .int .i64 0, .string ⟨#[]⟩] 37 (0, 0))) := Lib.hid (by rw [hv8]; exact heap_alloc_new v4 (.cells #[.int .i64 0, .int .i64 0, .string ⟨#[]⟩] 37))
          rw [← hv8]
          clear hv8
          obtain ⟨gp, hgp⟩ : ∃ g, g = v4.heap.size := ⟨_, rfl⟩
          rw [← hgp] at P8 ⊢
          have Hgp := Lib.hid hgp
          clear hgp
          have PLE : Hid (w3.heap.size ≤ gp) := Lib.hid (by rw [Hgp.out]; exact (Z4.out).size)
          refine hK.out _ _ Z8 (fun hHeld => ?_)
          clear hK K'
          simp only [Act.put, List.getElem_toArray, List.getElem_cons_succ, List.getElem_cons_zero, List.size_toArray, List.length_cons, List.length_nil, Nat.reduceAdd, Array.replicate, List.replicate, List.setIfInBounds_toArray, List.set_cons_zero, List.set_cons_succ]
          refine RD1 (i := 9) rfl (fun K' hK => ?_)
          obtain ⟨⟨p0, p1, p2⟩, p3, p4, p5⟩ := three_of P8.out
          go_simp
          clear p0 p1 p2 p3 p4 p5
          have P9 := Lib.hid (set3 (u0 := .int .i64 2) (u1 := .int .i64 9223372036854775807) (u2 := .string ⟨#[]⟩) P8.out)
          have Z9 := Lib.hid (grown_set3 Z8.out (b := gp) (PLE.out) (.int .i64 2) (.int .i64 9223372036854775807) (.string ⟨#[]⟩))
          refine hK.out _ _ Z9 (fun hHeld => ?_)
          clear hK K'
          simp only [Act.put, List.getElem_toArray, List.getElem_cons_succ, List.getElem_cons_zero, List.size_toArray, List.length_cons, List.length_nil, Nat.reduceAdd, Array.replicate, List.replicate, List.setIfInBounds_toArray, List.set_cons_zero, List.set_cons_succ]
          refine TKB (i := 10) (v := ?v10z4k1) rfl ?y10z4k1 ?r10z4k1
          case y10z4k1 => (intro w hSw; (try dsimp only at hSw); go_simp; try with_reducible rfl)
          simp only [Act.put, List.getElem_toArray, List.getElem_cons_succ, List.getElem_cons_zero, List.size_toArray, List.length_cons, List.length_nil, Nat.reduceAdd, Array.replicate, List.replicate, List.setIfInBounds_toArray, List.set_cons_zero, List.set_cons_succ]
          refine wpAnyH_done (by kernel_rfl) ?_ _
          clear hHeld
          go_wp2_with fail
          go_meet
          case rel => exact ⟨gp, rfl, rfl, P9, Z9⟩
        · go_simp
          obtain ⟨v8, hv8⟩ : ∃ v, v = (v3.alloc (.cells #[.int .i64 0, .int .i64 0, .string ⟨#[]⟩] 37)) := ⟨_, rfl⟩
          have D8 : Hid (v3.grownBy v8 none) := Lib.hid (by rw [hv8]; exact World.grownBy_alloc v3 (.cells #[.int .i64 0, .int .i64 0, .string ⟨#[]⟩] 37) none)
          have Z8 : Hid (w3.grownBy v8 none) := Lib.hid ((Z3.out).trans D8.out)
          have P8 : Hid (v8.heap[v3.heap.size]? = some (.cells #[.int .i64 0, .int .i64 0, .string ⟨#[]⟩] 37 (0, 0))) := Lib.hid (by rw [hv8]; exact heap_alloc_new v3 (.cells #[.int .i64 0, .int .i64 0, .string ⟨#[]⟩] 37))
          rw [← hv8]
          clear hv8
          obtain ⟨gp, hgp⟩ : ∃ g, g = v3.heap.size := ⟨_, rfl⟩
          rw [← hgp] at P8 ⊢
          have Hgp := Lib.hid hgp
          clear hgp
          have R8 := Lib.hid (RR3.out.up D8.out)
          have RR8 := R8
          have PLE : Hid (w3.heap.size ≤ gp) := Lib.hid (by rw [Hgp.out]; exact (Z3.out).size)
          refine hK.out _ _ Z8 (fun hHeld => ?_)
          clear hK K'
          simp only [Act.put, List.getElem_toArray, List.getElem_cons_succ, List.getElem_cons_zero, List.size_toArray, List.length_cons, List.length_nil, Nat.reduceAdd, Array.replicate, List.replicate, List.setIfInBounds_toArray, List.set_cons_zero, List.set_cons_succ]
          refine RD1 (i := 4) rfl (fun K' hK => ?_)
          go_simp
          have HOF := tof_any G ad ⟨#[116]⟩ a 4 catC 1 3 ⟨#[100]⟩ 0 ra rc rs _ (HE.out.keep ((H3.out).trans Z8.out)) ((HC.out.keep ((GC3.out).trans Z8.out) (by simp)).mono ((GC3.out).trans Z8.out).size) catC_sz (by decide) (by decide) RR8.out (by rw [RI.out.1]; exact RC.out) (by rw [RI.out.1]; decide) (ints_ok RI.out (by decide) (by decide)).1 (ints_ok RI.out (by decide) (by decide)).2 (by decide)
          rw [RI.out.1, ints_vs RI.out, aw17_a.1, aw17_a.2] at HOF
          go_at_call 10
          refine HOF.mono ?_
          rintro e v4 ⟨rfl, hg⟩
          have D4 := Lib.hid hg
          have Z4 : Hid (w3.grownBy v4 none) := Lib.hid (Z8.out.trans hg)
          clear HOF hg
          have P4 := Lib.hid (blkD D4.out P8.out)
          have R4 := Lib.hid (RR8.out.up D4.out)
          have RR4 := R4
          refine hK.out _ _ Z4 (fun hHeld => ?_)
          clear hK K'
          simp only [Act.put, List.getElem_toArray, List.getElem_cons_succ, List.getElem_cons_zero, List.size_toArray, List.length_cons, List.length_nil, Nat.reduceAdd, Array.replicate, List.replicate, List.setIfInBounds_toArray, List.set_cons_zero, List.set_cons_succ]
          refine TKB (i := 5) (v := ?v5z5k1) rfl ?y5z5k1 ?r5z5k1
          case y5z5k1 => (intro w hSw; (try dsimp only at hSw); go_simp; try with_reducible rfl)
          simp only [Act.put, List.getElem_toArray, List.getElem_cons_succ, List.getElem_cons_zero, List.size_toArray, List.length_cons, List.length_nil, Nat.reduceAdd, Array.replicate, List.replicate, List.setIfInBounds_toArray, List.set_cons_zero, List.set_cons_succ]
          refine TKB (i := 6) (v := ?v6z6k1) rfl ?y6z6k1 ?r6z6k1
          case y6z6k1 => (intro w hSw; (try dsimp only at hSw); go_simp; try with_reducible rfl)
          simp only [Act.put, List.getElem_toArray, List.getElem_cons_succ, List.getElem_cons_zero, List.size_toArray, List.length_cons, List.length_nil, Nat.reduceAdd, Array.replicate, List.replicate, List.setIfInBounds_toArray, List.set_cons_zero, List.set_cons_succ]
          refine TKB (i := 7) (v := ?v7z7k1) rfl ?y7z7k1 ?r7z7k1
          case y7z7k1 => (intro w hSw; (try dsimp only at hSw); go_simp; try with_reducible rfl)
          simp only [Act.put, List.getElem_toArray, List.getElem_cons_succ, List.getElem_cons_zero, List.size_toArray, List.length_cons, List.length_nil, Nat.reduceAdd, Array.replicate, List.replicate, List.setIfInBounds_toArray, List.set_cons_zero, List.set_cons_succ]
          refine RD1 (i := 9) rfl (fun K' hK => ?_)
          obtain ⟨⟨p0, p1, p2⟩, p3, p4, p5⟩ := three_of P4.out
          go_simp
          clear p0 p1 p2 p3 p4 p5
          have P9 := Lib.hid (set3 (u0 := .int .i64 2) (u1 := .int .i64 9223372036854775807) (u2 := .string ⟨#[]⟩) P4.out)
          have Z9 := Lib.hid (grown_set3 Z4.out (b := gp) (PLE.out) (.int .i64 2) (.int .i64 9223372036854775807) (.string ⟨#[]⟩))
          refine hK.out _ _ Z9 (fun hHeld => ?_)
          clear hK K'
          simp only [Act.put, List.getElem_toArray, List.getElem_cons_succ, List.getElem_cons_zero, List.size_toArray, List.length_cons, List.length_nil, Nat.reduceAdd, Array.replicate, List.replicate, List.setIfInBounds_toArray, List.set_cons_zero, List.set_cons_succ]
          refine TKB (i := 10) (v := ?v10z8k1) rfl ?y10z8k1 ?r10z8k1
          case y10z8k1 => (intro w hSw; (try dsimp only at hSw); go_simp; try with_reducible rfl)
          simp only [Act.put, List.getElem_toArray, List.getElem_cons_succ, List.getElem_cons_zero, List.size_toArray, List.length_cons, List.length_nil, Nat.reduceAdd, Array.replicate, List.replicate, List.setIfInBounds_toArray, List.set_cons_zero, List.set_cons_succ]
          refine wpAnyH_done (by kernel_rfl) ?_ _
          clear hHeld
          go_wp2_with fail
          go_meet
          case rel => exact ⟨gp, rfl, rfl, P9, Z9⟩
      · go_simp
        obtain ⟨v8, hv8⟩ : ∃ v, v = (v2.alloc (.cells #[.int .i64 0, .int .i64 0, .string ⟨#[]⟩] 37)) := ⟨_, rfl⟩
        have D8 : Hid (v2.grownBy v8 none) := Lib.hid (by rw [hv8]; exact World.grownBy_alloc v2 (.cells #[.int .i64 0, .int .i64 0, .string ⟨#[]⟩] 37) none)
        have Z8 : Hid (w3.grownBy v8 none) := Lib.hid ((Z2.out).trans D8.out)
        have P8 : Hid (v8.heap[v2.heap.size]? = some (.cells #[.int .i64 0, .int .i64 0, .string ⟨#[]⟩] 37 (0, 0))) := Lib.hid (by rw [hv8]; exact heap_alloc_new v2 (.cells #[.int .i64 0, .int .i64 0, .string ⟨#[]⟩] 37))
        rw [← hv8]
        clear hv8
        obtain ⟨gp, hgp⟩ : ∃ g, g = v2.heap.size := ⟨_, rfl⟩
        rw [← hgp] at P8 ⊢
        have Hgp := Lib.hid hgp
        clear hgp
        have N8 := Lib.hid (blkD D8.out N2.out)
        have PLE : Hid (w3.heap.size ≤ gp) := Lib.hid (by rw [Hgp.out]; exact (Z2.out).size)
        refine hK.out _ _ Z8 (fun hHeld => ?_)
        clear hK K'
        simp only [Act.put, List.getElem_toArray, List.getElem_cons_succ, List.getElem_cons_zero, List.size_toArray, List.length_cons, List.length_nil, Nat.reduceAdd, Array.replicate, List.replicate, List.setIfInBounds_toArray, List.set_cons_zero, List.set_cons_succ]
        refine RD1 (i := 3) rfl (fun K' hK => ?_)
        go_simp
        go_at_call 18
        refine (lints_any gn [9223372036854775807, 1, -1] 3 _ N8.out (by decide)).mono ?_
        rintro e v3 ⟨⟨ra, rc, rs, rfl, hri, hra, hrc⟩, hg⟩
        have D3 := Lib.hid hg
        have Z3 : Hid (w3.grownBy v3 none) := Lib.hid ((Z8.out).trans hg)
        have RI := Lib.hid hri
        have RR3 := Lib.hid hra
        have RC : Hid (3 ≤ rc) := Lib.hid hrc
        clear hg hri hra hrc
        have N3 := Lib.hid (blkD D3.out N8.out)
        have P3 := Lib.hid (blkD D3.out P8.out)
        refine hK.out _ _ Z3 (fun hHeld => ?_)
        clear hK K'
        simp only [Act.put, List.getElem_toArray, List.getElem_cons_succ, List.getElem_cons_zero, List.size_toArray, List.length_cons, List.length_nil, Nat.reduceAdd, Array.replicate, List.replicate, List.setIfInBounds_toArray, List.set_cons_zero, List.set_cons_succ]
        refine RD1 (i := 4) rfl (fun K' hK => ?_)
        go_simp
        have HOF := tof_any G ad ⟨#[116]⟩ a 4 catC 1 3 ⟨#[100]⟩ 0 ra rc rs _ (HE.out.keep ((H3.out).trans Z3.out)) ((HC.out.keep ((GC3.out).trans Z3.out) (by simp)).mono ((GC3.out).trans Z3.out).size) catC_sz (by decide) (by decide) RR3.out (by rw [RI.out.1]; exact RC.out) (by rw [RI.out.1]; decide) (ints_ok RI.out (by decide) (by decide)).1 (ints_ok RI.out (by decide) (by decide)).2 (by decide)
        rw [RI.out.1, ints_vs RI.out, aw17_a.1, aw17_a.2] at HOF
        go_at_call 10
        refine HOF.mono ?_
        rintro e v4 ⟨rfl, hg⟩
        have D4 := Lib.hid hg
        have Z4 : Hid (w3.grownBy v4 none) := Lib.hid (Z3.out.trans hg)
        clear HOF hg
        have P4 := Lib.hid (blkD D4.out P3.out)
        have R4 := Lib.hid (RR3.out.up D4.out)
        have RR4 := R4
        refine hK.out _ _ Z4 (fun hHeld => ?_)
        clear hK K'
        simp only [Act.put, List.getElem_toArray, List.getElem_cons_succ, List.getElem_cons_zero, List.size_toArray, List.length_cons, List.length_nil, Nat.reduceAdd, Array.replicate, List.replicate, List.setIfInBounds_toArray, List.set_cons_zero, List.set_cons_succ]
        refine TKB (i := 5) (v := ?v5z9k1) rfl ?y5z9k1 ?r5z9k1
        case y5z9k1 => (intro w hSw; (try dsimp only at hSw); go_simp; try with_reducible rfl)
        simp only [Act.put, List.getElem_toArray, List.getElem_cons_succ, List.getElem_cons_zero, List.size_toArray, List.length_cons, List.length_nil, Nat.reduceAdd, Array.replicate, List.replicate, List.setIfInBounds_toArray, List.set_cons_zero, List.set_cons_succ]
        refine TKB (i := 6) (v := ?v6z10k1) rfl ?y6z10k1 ?r6z10k1
        case y6z10k1 => (intro w hSw; (try dsimp only at hSw); go_simp; try with_reducible rfl)
        simp only [Act.put, List.getElem_toArray, List.getElem_cons_succ, List.getElem_cons_zero, List.size_toArray, List.length_cons, List.length_nil, Nat.reduceAdd, Array.replicate, List.replicate, List.setIfInBounds_toArray, List.set_cons_zero, List.set_cons_succ]
        refine TKB (i := 7) (v := ?v7z11k1) rfl ?y7z11k1 ?r7z11k1
        case y7z11k1 => (intro w hSw; (try dsimp only at hSw); go_simp; try with_reducible rfl)
        simp only [Act.put, List.getElem_toArray, List.getElem_cons_succ, List.getElem_cons_zero, List.size_toArray, List.length_cons, List.length_nil, Nat.reduceAdd, Array.replicate, List.replicate, List.setIfInBounds_toArray, List.set_cons_zero, List.set_cons_succ]
        refine RD1 (i := 9) rfl (fun K' hK => ?_)
        obtain ⟨⟨p0, p1, p2⟩, p3, p4, p5⟩ := three_of P4.out
        go_simp
        clear p0 p1 p2 p3 p4 p5
        have P9 := Lib.hid (set3 (u0 := .int .i64 2) (u1 := .int .i64 9223372036854775807) (u2 := .string ⟨#[]⟩) P4.out)
        have Z9 := Lib.hid (grown_set3 Z4.out (b := gp) (PLE.out) (.int .i64 2) (.int .i64 9223372036854775807) (.string ⟨#[]⟩))
        refine hK.out _ _ Z9 (fun hHeld => ?_)
        clear hK K'
        simp only [Act.put, List.getElem_toArray, List.getElem_cons_succ, List.getElem_cons_zero, List.size_toArray, List.length_cons, List.length_nil, Nat.reduceAdd, Array.replicate, List.replicate, List.setIfInBounds_toArray, List.set_cons_zero, List.set_cons_succ]
        refine TKB (i := 10) (v := ?v10z12k1) rfl ?y10z12k1 ?r10z12k1
        case y10z12k1 => (intro w hSw; (try dsimp only at hSw); go_simp; try with_reducible rfl)
        simp only [Act.put, List.getElem_toArray, List.getElem_cons_succ, List.getElem_cons_zero, List.size_toArray, List.length_cons, List.length_nil, Nat.reduceAdd, Array.replicate, List.replicate, List.setIfInBounds_toArray, List.set_cons_zero, List.set_cons_succ]
        refine wpAnyH_done (by kernel_rfl) ?_ _
        clear hHeld
        go_wp2_with fail
        go_meet
        case rel => exact ⟨gp, rfl, rfl, P9, Z9⟩
    · go_simp
      obtain ⟨v8, hv8⟩ : ∃ v, v = (w3.alloc (.cells #[.int .i64 0, .int .i64 0, .string ⟨#[]⟩] 37)).drew := ⟨_, rfl⟩
      have D8 : Hid (w3.grownBy v8 none) := Lib.hid (by rw [hv8]; exact grown_drewT (World.grownBy_alloc w3 (.cells #[.int .i64 0, .int .i64 0, .string ⟨#[]⟩] 37) none))
      have Z8 : Hid (w3.grownBy v8 none) := Lib.hid (((grown_reflX w3 none)).trans D8.out)
      have P8 : Hid (v8.heap[w3.heap.size]? = some (.cells #[.int .i64 0, .int .i64 0, .string ⟨#[]⟩] 37 (0, 0))) := Lib.hid (by rw [hv8]; exact heap_alloc_new w3 (.cells #[.int .i64 0, .int .i64 0, .string ⟨#[]⟩] 37))
      rw [← hv8]
      clear hv8
      obtain ⟨gp, hgp⟩ : ∃ g, g = w3.heap.size := ⟨_, rfl⟩
      rw [← hgp] at P8 ⊢
      have Hgp := Lib.hid hgp
      clear hgp
      have PLE : Hid (w3.heap.size ≤ gp) := Lib.hid (by rw [Hgp.out]; exact ((grown_reflX w3 none)).size)
      refine hK.out _ _ Z8 (fun hHeld => ?_)
      clear hK K'
      simp only [Act.put, List.getElem_toArray, List.getElem_cons_succ, List.getElem_cons_zero, List.size_toArray, List.length_cons, List.length_nil, Nat.reduceAdd, Array.replicate, List.replicate, List.setIfInBounds_toArray, List.set_cons_zero, List.set_cons_succ]
      refine RD1 (i := 2) rfl (fun K' hK => ?_)
      go_simp
      obtain ⟨v2, hv2⟩ : ∃ v, v = (v8.alloc (.cells #[.int .i64 9223372036854775807, .int .i64 1, .int .i64 (-1)] 3)) := ⟨_, rfl⟩
      have D2 : Hid (v8.grownBy v2 none) := Lib.hid (by rw [hv2]; exact World.grownBy_alloc v8 (.cells #[.int .i64 9223372036854775807, .int .i64 1, .int .i64 (-1)] 3) none)
      have Z2 : Hid (w3.grownBy v2 none) := Lib.hid ((Z8.out).trans D2.out)
      have N2 : Hid (v2.heap[v8.heap.size]? = some (.cells #[.int .i64 9223372036854775807, .int .i64 1, .int .i64 (-1)] 3 (0, 0))) := Lib.hid (by rw [hv2]; exact heap_alloc_new v8 (.cells #[.int .i64 9223372036854775807, .int .i64 1, .int .i64 (-1)] 3))
      rw [← hv2]
      clear hv2
      obtain ⟨gn, hgn⟩ : ∃ g, g = v8.heap.size := ⟨_, rfl⟩
      rw [← hgn] at N2 ⊢
      have Hgn := Lib.hid hgn
      clear hgn
      have P2 := Lib.hid (blkD D2.out P8.out)
      refine hK.out _ _ Z2 (fun hHeld => ?_)
      clear hK K'
      simp only [Act.put, List.getElem_toArray, List.getElem_cons_succ, List.getElem_cons_zero, List.size_toArray, List.length_cons, List.length_nil, Nat.reduceAdd, Array.replicate, List.replicate, List.setIfInBounds_toArray, List.set_cons_zero, List.set_cons_succ]
      refine RD1 (i := 3) rfl (fun K' hK => ?_)
      go_simp
      go_at_call 18
      refine (lints_any gn [9223372036854775807, 1, -1] 3 _ N2.out (by decide)).mono ?_
      rintro e v3 ⟨⟨ra, rc, rs, rfl, hri, hra, hrc⟩, hg⟩
      have D3 := Lib.hid hg
      have Z3 : Hid (w3.grownBy v3 none) := Lib.hid ((Z2.out).trans hg)
      have RI := Lib.hid hri
      have RR3 := Lib.hid hra
      have RC : Hid (3 ≤ rc) := Lib.hid hrc
      clear hg hri hra hrc
      have N3 := Lib.hid (blkD D3.out N2.out)
      have P3 := Lib.hid (blkD D3.out P2.out)
      refine hK.out _ _ Z3 (fun hHeld => ?_)
      clear hK K'
      simp only [Act.put, List.getElem_toArray, List.getElem_cons_succ, List.getElem_cons_zero, List.size_toArray, List.length_cons, List.length_nil, Nat.reduceAdd, Array.replicate, List.replicate, List.setIfInBounds_toArray, List.set_cons_zero, List.set_cons_succ]
      refine RD1 (i := 4) rfl (fun K' hK => ?_)
      go_simp
      have HOF := tof_any G ad ⟨#[116]⟩ a 4 catC 1 3 ⟨#[100]⟩ 0 ra rc rs _ (HE.out.keep ((H3.out).trans Z3.out)) ((HC.out.keep ((GC3.out).trans Z3.out) (by simp)).mono ((GC3.out).trans Z3.out).size) catC_sz (by decide) (by decide) RR3.out (by rw [RI.out.1]; exact RC.out) (by rw [RI.out.1]; decide) (ints_ok RI.out (by decide) (by decide)).1 (ints_ok RI.out (by decide) (by decide)).2 (by decide)
      rw [RI.out.1, ints_vs RI.out, aw17_a.1, aw17_a.2] at HOF
      go_at_call 10
      refine HOF.mono ?_
      rintro e v4 ⟨rfl, hg⟩
      have D4 := Lib.hid hg
      have Z4 : Hid (w3.grownBy v4 none) := Lib.hid (Z3.out.trans hg)
      clear HOF hg
      have P4 := Lib.hid (blkD D4.out P3.out)
      have R4 := Lib.hid (RR3.out.up D4.out)
      have RR4 := R4
      refine hK.out _ _ Z4 (fun hHeld => ?_)
      clear hK K'
      simp only [Act.put, List.getElem_toArray, List.getElem_cons_succ, List.getElem_cons_zero, List.size_toArray, List.length_cons, List.length_nil, Nat.reduceAdd, Array.replicate, List.replicate, List.setIfInBounds_toArray, List.set_cons_zero, List.set_cons_succ]
      refine TKB (i := 5) (v := ?v5z13k1) rfl ?y5z13k1 ?r5z13k1
      case y5z13k1 => (intro w hSw; (try dsimp only at hSw); go_simp; try with_reducible rfl)
      simp only [Act.put, List.getElem_toArray, List.getElem_cons_succ, List.getElem_cons_zero, List.size_toArray, List.length_cons, List.length_nil, Nat.reduceAdd, Array.replicate, List.replicate, List.setIfInBounds_toArray, List.set_cons_zero, List.set_cons_succ]
      refine TKB (i := 6) (v := ?v6z14k1) rfl ?y6z14k1 ?r6z14k1
      case y6z14k1 => (intro w hSw; (try dsimp only at hSw); go_simp; try with_reducible rfl)
      simp only [Act.put, List.getElem_toArray, List.getElem_cons_succ, List.getElem_cons_zero, List.size_toArray, List.length_cons, List.length_nil, Nat.reduceAdd, Array.replicate, List.replicate, List.setIfInBounds_toArray, List.set_cons_zero, List.set_cons_succ]
      refine TKB (i := 7) (v := ?v7z15k1) rfl ?y7z15k1 ?r7z15k1
      case y7z15k1 => (intro w hSw; (try dsimp only at hSw); go_simp; try with_reducible rfl)
      simp only [Act.put, List.getElem_toArray, List.getElem_cons_succ, List.getElem_cons_zero, List.size_toArray, List.length_cons, List.length_nil, Nat.reduceAdd, Array.replicate, List.replicate, List.setIfInBounds_toArray, List.set_cons_zero, List.set_cons_succ]
      refine RD1 (i := 9) rfl (fun K' hK => ?_)
      obtain ⟨⟨p0, p1, p2⟩, p3, p4, p5⟩ := three_of P4.out
      go_simp
      clear p0 p1 p2 p3 p4 p5
      have P9 := Lib.hid (set3 (u0 := .int .i64 2) (u1 := .int .i64 9223372036854775807) (u2 := .string ⟨#[]⟩) P4.out)
      have Z9 := Lib.hid (grown_set3 Z4.out (b := gp) (PLE.out) (.int .i64 2) (.int .i64 9223372036854775807) (.string ⟨#[]⟩))
      refine hK.out _ _ Z9 (fun hHeld => ?_)
      clear hK K'
      simp only [Act.put, List.getElem_toArray, List.getElem_cons_succ, List.getElem_cons_zero, List.size_toArray, List.length_cons, List.length_nil, Nat.reduceAdd, Array.replicate, List.replicate, List.setIfInBounds_toArray, List.set_cons_zero, List.set_cons_succ]
      refine TKB (i := 10) (v := ?v10z16k1) rfl ?y10z16k1 ?r10z16k1
      case y10z16k1 => (intro w hSw; (try dsimp only at hSw); go_simp; try with_reducible rfl)
      simp only [Act.put, List.getElem_toArray, List.getElem_cons_succ, List.getElem_cons_zero, List.size_toArray, List.length_cons, List.length_nil, Nat.reduceAdd, Array.replicate, List.replicate, List.setIfInBounds_toArray, List.set_cons_zero, List.set_cons_succ]
      refine wpAnyH_done (by kernel_rfl) ?_ _
      clear hHeld
      go_wp2_with fail
      go_meet
      case rel => exact ⟨gp, rfl, rfl, P9, Z9⟩
  case rest =>
  obtain ⟨gp3, rfl, rfl, PA, GA⟩ := hcut
  rename World => w4
  have T4 := Lib.hid (blkD GA.out T3.out)
  have X4 := Lib.hid (blkD GA.out X3.out)
  have H4 := Lib.hid (H3.out.trans GA.out)
  have GC4 := Lib.hid (GC3.out.trans GA.out)
  clear T3 X3 H3 GC3 GA
  go_upto_region 4 with fail
  go_cut [5, 6] from 21 to 29 (fun sp se wx => ∃ gp : Nat, sp = .pointer (some ⟨gp, 0, none⟩) ∧ se = .int .i64 24 ∧ Hid (wx.heap[gp]? = some (.cells #[.int .i64 0, .int .i64 0, .string ⟨#[]⟩] 37 (0, 0))) ∧ Hid (w4.grownBy wx none))
  case first =>
    refine wp_region_held_drew (S := (fun W => Hid (w4.grownBy W none))) (by kernel_rfl) (Lib.hid (grown_drewT (grown_reflX w4 none))) (fun hHeld => ?_)
    refine TKA (i := 0) (v := .agg #[.string ⟨#[116]⟩, .slice a 4 4, .int .i64 1]) rfl (yieldsIf_load_mid (by rfl) _ _ rfl g1 0 rfl _ _ (fun W hS => range_rowD (blkD hS.out T4.out)) Tryz.underlying24 rfl tab_size) ?_
    simp only [Act.put, List.getElem_toArray, List.getElem_cons_succ, List.getElem_cons_zero, List.size_toArray, List.length_cons, List.length_nil, Nat.reduceAdd, Array.replicate, List.replicate, List.setIfInBounds_toArray, List.set_cons_zero, List.set_cons_succ]
    refine TKA (i := 1) (v := .agg #[.int .i64 3, .string ⟨#[100]⟩, .int .i64 0]) rfl (yieldsIf_load_mid (by rfl) _ _ rfl g2 0 rfl _ _ (fun W hS => range_rowD (blkD hS.out X4.out)) Tryz.underlying27 rfl itm_size) ?_
    simp only [Act.put, List.getElem_toArray, List.getElem_cons_succ, List.getElem_cons_zero, List.size_toArray, List.length_cons, List.length_nil, Nat.reduceAdd, Array.replicate, List.replicate, List.setIfInBounds_toArray, List.set_cons_zero, List.set_cons_succ]
    refine wpAnyH_ready (rs := [2, 8]) (by kernel_rfl) (by simp) ?_
    refine (AllReadyH.cons rfl (fun K' hK => ?_) (AllReadyH.cons rfl (fun K' hK => ?_) AllReadyH.nil))
    · go_simp
      obtain ⟨v2, hv2⟩ : ∃ v, v = (w4.alloc (.cells #[.int .i64 9223372036854775807, .int .i64 1] 3)).drew := ⟨_, rfl⟩
      have D2 : Hid (w4.grownBy v2 none) := Lib.hid (by rw [hv2]; exact grown_drewT (World.grownBy_alloc w4 (.cells #[.int .i64 9223372036854775807, .int .i64 1] 3) none))
      have Z2 : Hid (w4.grownBy v2 none) := Lib.hid (((grown_reflX w4 none)).trans D2.out)
      have N2 : Hid (v2.heap[w4.heap.size]? = some (.cells #[.int .i64 9223372036854775807, .int .i64 1] 3 (0, 0))) := Lib.hid (by rw [hv2]; exact heap_alloc_new w4 (.cells #[.int .i64 9223372036854775807, .int .i64 1] 3))
      rw [← hv2]
      clear hv2
      obtain ⟨gn, hgn⟩ : ∃ g, g = w4.heap.size := ⟨_, rfl⟩
      rw [← hgn] at N2 ⊢
      have Hgn := Lib.hid hgn
      clear hgn
      refine hK.out _ _ Z2 (fun hHeld => ?_)
      clear hK K'
      simp only [Act.put, List.getElem_toArray, List.getElem_cons_succ, List.getElem_cons_zero, List.size_toArray, List.length_cons, List.length_nil, Nat.reduceAdd, Array.replicate, List.replicate, List.setIfInBounds_toArray, List.set_cons_zero, List.set_cons_succ]
      refine wpAnyH_ready (rs := [3, 8]) (by kernel_rfl) (by simp) ?_
      refine (AllReadyH.cons rfl (fun K' hK => ?_) (AllReadyH.cons rfl (fun K' hK => ?_) AllReadyH.nil))
      · go_simp
        go_at_call 18
        refine (lints_any gn [9223372036854775807, 1] 3 _ N2.out (by decide)).mono ?_
        rintro e v3 ⟨⟨ra, rc, rs, rfl, hri, hra, hrc⟩, hg⟩
        have D3 := Lib.hid hg
        have Z3 : Hid (w4.grownBy v3 none) := Lib.hid ((Z2.out).trans hg)
        have RI := Lib.hid hri
        have RR3 := Lib.hid hra
        have RC : Hid (2 ≤ rc) := Lib.hid hrc
        clear hg hri hra hrc
        have N3 := Lib.hid (blkD D3.out N2.out)
        refine hK.out _ _ Z3 (fun hHeld => ?_)
        clear hK K'
        simp only [Act.put, List.getElem_toArray, List.getElem_cons_succ, List.getElem_cons_zero, List.size_toArray, List.length_cons, List.length_nil, Nat.reduceAdd, Array.replicate, List.replicate, List.setIfInBounds_toArray, List.set_cons_zero, List.set_cons_succ]
        refine wpAnyH_ready (rs := [4, 8]) (by kernel_rfl) (by simp) ?_
        refine (AllReadyH.cons rfl (fun K' hK => ?_) (AllReadyH.cons rfl (fun K' hK => ?_) AllReadyH.nil))
        · go_simp
          have HOF := tof_any G ad ⟨#[116]⟩ a 4 catC 1 3 ⟨#[100]⟩ 0 ra rc rs _ (HE.out.keep ((H4.out).trans Z3.out)) ((HC.out.keep ((GC4.out).trans Z3.out) (by simp)).mono ((GC4.out).trans Z3.out).size) catC_sz (by decide) (by decide) RR3.out (by rw [RI.out.1]; exact RC.out) (by rw [RI.out.1]; decide) (ints_ok RI.out (by decide) (by decide)).1 (ints_ok RI.out (by decide) (by decide)).2 (by decide)
          rw [RI.out.1, ints_vs RI.out, aw17_b.1, aw17_b.2] at HOF
          go_at_call 10
          refine HOF.mono ?_
          rintro e v4 ⟨rfl, hg⟩
          have D4 := Lib.hid hg
          have Z4 : Hid (w4.grownBy v4 none) := Lib.hid (Z3.out.trans hg)
          clear HOF hg
          have R4 := Lib.hid (RR3.out.up D4.out)
          have RR4 := R4
          refine hK.out _ _ Z4 (fun hHeld => ?_)
          clear hK K'
          simp only [Act.put, List.getElem_toArray, List.getElem_cons_succ, List.getElem_cons_zero, List.size_toArray, List.length_cons, List.length_nil, Nat.reduceAdd, Array.replicate, List.replicate, List.setIfInBounds_toArray, List.set_cons_zero, List.set_cons_succ]
          refine TKB (i := 5) (v := ?v5z1k2) rfl ?y5z1k2 ?r5z1k2
          case y5z1k2 => (intro w hSw; (try dsimp only at hSw); go_simp; try with_reducible rfl)
          simp only [Act.put, List.getElem_toArray, List.getElem_cons_succ, List.getElem_cons_zero, List.size_toArray, List.length_cons, List.length_nil, Nat.reduceAdd, Array.replicate, List.replicate, List.setIfInBounds_toArray, List.set_cons_zero, List.set_cons_succ]
          refine TKB (i := 6) (v := ?v6z2k2) rfl ?y6z2k2 ?r6z2k2
          case y6z2k2 => (intro w hSw; (try dsimp only at hSw); go_simp; try with_reducible rfl)
          simp only [Act.put, List.getElem_toArray, List.getElem_cons_succ, List.getElem_cons_zero, List.size_toArray, List.length_cons, List.length_nil, Nat.reduceAdd, Array.replicate, List.replicate, List.setIfInBounds_toArray, List.set_cons_zero, List.set_cons_succ]
          refine TKB (i := 7) (v := ?v7z3k2) rfl ?y7z3k2 ?r7z3k2
          case y7z3k2 => (intro w hSw; (try dsimp only at hSw); go_simp; try with_reducible rfl)
          simp only [Act.put, List.getElem_toArray, List.getElem_cons_succ, List.getElem_cons_zero, List.size_toArray, List.length_cons, List.length_nil, Nat.reduceAdd, Array.replicate, List.replicate, List.setIfInBounds_toArray, List.set_cons_zero, List.set_cons_succ]
          refine RD1 (i := 8) rfl (fun K' hK => ?_)
          go_simp
          obtain ⟨v8, hv8⟩ : ∃ v, v = (v4.alloc (.cells #[.int .i64 0, .int .i64 0, .string ⟨#[]⟩] 37)) := ⟨_, rfl⟩
          have D8 : Hid (v4.grownBy v8 none) := Lib.hid (by rw [hv8]; exact World.grownBy_alloc v4 (.cells #[.int .i64 0, .int .i64 0, .string ⟨#[]⟩] 37) none)
          have Z8 : Hid (w4.grownBy v8 none) := Lib.hid ((Z4.out).trans D8.out)
          have P8 : Hid (v8.heap[v4.heap.size]? = some (.cells #[.int .i64 0, .int .i64 0, .string ⟨#[]⟩] 37 (0, 0))) := Lib.hid (by rw [hv8]; exact heap_alloc_new v4 (.cells #[.int .i64 0, .int .i64 0, .string ⟨#[]⟩] 37))
          rw [← hv8]
          clear hv8
          obtain ⟨gp, hgp⟩ : ∃ g, g = v4.heap.size := ⟨_, rfl⟩
          rw [← hgp] at P8 ⊢
          have Hgp := Lib.hid hgp
          clear hgp
          have PLE : Hid (w4.heap.size ≤ gp) := Lib.hid (by rw [Hgp.out]; exact (Z4.out).size)
          refine hK.out _ _ Z8 (fun hHeld => ?_)
          clear hK K'
          simp only [Act.put, List.getElem_toArray, List.getElem_cons_succ, List.getElem_cons_zero, List.size_toArray, List.length_cons, List.length_nil, Nat.reduceAdd, Array.replicate, List.replicate, List.setIfInBounds_toArray, List.set_cons_zero, List.set_cons_succ]
          refine RD1 (i := 9) rfl (fun K' hK => ?_)
          obtain ⟨⟨p0, p1, p2⟩, p3, p4, p5⟩ := three_of P8.out
          go_simp
          clear p0 p1 p2 p3 p4 p5
          have P9 := Lib.hid (set3 (u0 := .int .i64 0) (u1 := .int .i64 0) (u2 := .string ⟨#[]⟩) P8.out)
          have Z9 := Lib.hid (grown_set3 Z8.out (b := gp) (PLE.out) (.int .i64 0) (.int .i64 0) (.string ⟨#[]⟩))
          refine hK.out _ _ Z9 (fun hHeld => ?_)
          clear hK K'
          simp only [Act.put, List.getElem_toArray, List.getElem_cons_succ, List.getElem_cons_zero, List.size_toArray, List.length_cons, List.length_nil, Nat.reduceAdd, Array.replicate, List.replicate, List.setIfInBounds_toArray, List.set_cons_zero, List.set_cons_succ]
          refine TKB (i := 10) (v := ?v10z4k2) rfl ?y10z4k2 ?r10z4k2
          case y10z4k2 => (intro w hSw; (try dsimp only at hSw); go_simp; try with_reducible rfl)
          simp only [Act.put, List.getElem_toArray, List.getElem_cons_succ, List.getElem_cons_zero, List.size_toArray, List.length_cons, List.length_nil, Nat.reduceAdd, Array.replicate, List.replicate, List.setIfInBounds_toArray, List.set_cons_zero, List.set_cons_succ]
          refine wpAnyH_done (by kernel_rfl) ?_ _
          clear hHeld
          go_wp2_with fail
          go_meet
          case rel => exact ⟨gp, rfl, rfl, P9, Z9⟩
        · go_simp
          obtain ⟨v8, hv8⟩ : ∃ v, v = (v3.alloc (.cells #[.int .i64 0, .int .i64 0, .string ⟨#[]⟩] 37)) := ⟨_, rfl⟩
          have D8 : Hid (v3.grownBy v8 none) := Lib.hid (by rw [hv8]; exact World.grownBy_alloc v3 (.cells #[.int .i64 0, .int .i64 0, .string ⟨#[]⟩] 37) none)
          have Z8 : Hid (w4.grownBy v8 none) := Lib.hid ((Z3.out).trans D8.out)
          have P8 : Hid (v8.heap[v3.heap.size]? = some (.cells #[.int .i64 0, .int .i64 0, .string ⟨#[]⟩] 37 (0, 0))) := Lib.hid (by rw [hv8]; exact heap_alloc_new v3 (.cells #[.int .i64 0, .int .i64 0, .string ⟨#[]⟩] 37))
          rw [← hv8]
          clear hv8
          obtain ⟨gp, hgp⟩ : ∃ g, g = v3.heap.size := ⟨_, rfl⟩
          rw [← hgp] at P8 ⊢
          have Hgp := Lib.hid hgp
          clear hgp
          have R8 := Lib.hid (RR3.out.up D8.out)
          have RR8 := R8
          have PLE : Hid (w4.heap.size ≤ gp) := Lib.hid (by rw [Hgp.out]; exact (Z3.out).size)
          refine hK.out _ _ Z8 (fun hHeld => ?_)
          clear hK K'
          simp only [Act.put, List.getElem_toArray, List.getElem_cons_succ, List.getElem_cons_zero, List.size_toArray, List.length_cons, List.length_nil, Nat.reduceAdd, Array.replicate, List.replicate, List.setIfInBounds_toArray, List.set_cons_zero, List.set_cons_succ]
          refine RD1 (i := 4) rfl (fun K' hK => ?_)
          go_simp
          have HOF := tof_any G ad ⟨#[116]⟩ a 4 catC 1 3 ⟨#[100]⟩ 0 ra rc rs _ (HE.out.keep ((H4.out).trans Z8.out)) ((HC.out.keep ((GC4.out).trans Z8.out) (by simp)).mono ((GC4.out).trans Z8.out).size) catC_sz (by decide) (by decide) RR8.out (by rw [RI.out.1]; exact RC.out) (by rw [RI.out.1]; decide) (ints_ok RI.out (by decide) (by decide)).1 (ints_ok RI.out (by decide) (by decide)).2 (by decide)
          rw [RI.out.1, ints_vs RI.out, aw17_b.1, aw17_b.2] at HOF
          go_at_call 10
          refine HOF.mono ?_
          rintro e v4 ⟨rfl, hg⟩
          have D4 := Lib.hid hg
          have Z4 : Hid (w4.grownBy v4 none) := Lib.hid (Z8.out.trans hg)
          clear HOF hg
          have P4 := Lib.hid (blkD D4.out P8.out)
          have R4 := Lib.hid (RR8.out.up D4.out)
          have RR4 := R4
          refine hK.out _ _ Z4 (fun hHeld => ?_)
          clear hK K'
          simp only [Act.put, List.getElem_toArray, List.getElem_cons_succ, List.getElem_cons_zero, List.size_toArray, List.length_cons, List.length_nil, Nat.reduceAdd, Array.replicate, List.replicate, List.setIfInBounds_toArray, List.set_cons_zero, List.set_cons_succ]
          refine TKB (i := 5) (v := ?v5z5k2) rfl ?y5z5k2 ?r5z5k2
          case y5z5k2 => (intro w hSw; (try dsimp only at hSw); go_simp; try with_reducible rfl)
          simp only [Act.put, List.getElem_toArray, List.getElem_cons_succ, List.getElem_cons_zero, List.size_toArray, List.length_cons, List.length_nil, Nat.reduceAdd, Array.replicate, List.replicate, List.setIfInBounds_toArray, List.set_cons_zero, List.set_cons_succ]
          refine TKB (i := 6) (v := ?v6z6k2) rfl ?y6z6k2 ?r6z6k2
          case y6z6k2 => (intro w hSw; (try dsimp only at hSw); go_simp; try with_reducible rfl)
          simp only [Act.put, List.getElem_toArray, List.getElem_cons_succ, List.getElem_cons_zero, List.size_toArray, List.length_cons, List.length_nil, Nat.reduceAdd, Array.replicate, List.replicate, List.setIfInBounds_toArray, List.set_cons_zero, List.set_cons_succ]
          refine TKB (i := 7) (v := ?v7z7k2) rfl ?y7z7k2 ?r7z7k2
          case y7z7k2 => (intro w hSw; (try dsimp only at hSw); go_simp; try with_reducible rfl)
          simp only [Act.put, List.getElem_toArray, List.getElem_cons_succ, List.getElem_cons_zero, List.size_toArray, List.length_cons, List.length_nil, Nat.reduceAdd, Array.replicate, List.replicate, List.setIfInBounds_toArray, List.set_cons_zero, List.set_cons_succ]
          refine RD1 (i := 9) rfl (fun K' hK => ?_)
          obtain ⟨⟨p0, p1, p2⟩, p3, p4, p5⟩ := three_of P4.out
          go_simp
          clear p0 p1 p2 p3 p4 p5
          have P9 := Lib.hid (set3 (u0 := .int .i64 0) (u1 := .int .i64 0) (u2 := .string ⟨#[]⟩) P4.out)
          have Z9 := Lib.hid (grown_set3 Z4.out (b := gp) (PLE.out) (.int .i64 0) (.int .i64 0) (.string ⟨#[]⟩))
          refine hK.out _ _ Z9 (fun hHeld => ?_)
          clear hK K'
          simp only [Act.put, List.getElem_toArray, List.getElem_cons_succ, List.getElem_cons_zero, List.size_toArray, List.length_cons, List.length_nil, Nat.reduceAdd, Array.replicate, List.replicate, List.setIfInBounds_toArray, List.set_cons_zero, List.set_cons_succ]
          refine TKB (i := 10) (v := ?v10z8k2) rfl ?y10z8k2 ?r10z8k2
          case y10z8k2 => (intro w hSw; (try dsimp only at hSw); go_simp; try with_reducible rfl)
          simp only [Act.put, List.getElem_toArray, List.getElem_cons_succ, List.getElem_cons_zero, List.size_toArray, List.length_cons, List.length_nil, Nat.reduceAdd, Array.replicate, List.replicate, List.setIfInBounds_toArray, List.set_cons_zero, List.set_cons_succ]
          refine wpAnyH_done (by kernel_rfl) ?_ _
          clear hHeld
          go_wp2_with fail
          go_meet
          case rel => exact ⟨gp, rfl, rfl, P9, Z9⟩
      · go_simp
        obtain ⟨v8, hv8⟩ : ∃ v, v = (v2.alloc (.cells #[.int .i64 0, .int .i64 0, .string ⟨#[]⟩] 37)) := ⟨_, rfl⟩
        have D8 : Hid (v2.grownBy v8 none) := Lib.hid (by rw [hv8]; exact World.grownBy_alloc v2 (.cells #[.int .i64 0, .int .i64 0, .string ⟨#[]⟩] 37) none)
        have Z8 : Hid (w4.grownBy v8 none) := Lib.hid ((Z2.out).trans D8.out)
        have P8 : Hid (v8.heap[v2.heap.size]? = some (.cells #[.int .i64 0, .int .i64 0, .string ⟨#[]⟩] 37 (0, 0))) := Lib.hid (by rw [hv8]; exact heap_alloc_new v2 (.cells #[.int .i64 0, .int .i64 0, .string ⟨#[]⟩] 37))
        rw [← hv8]
        clear hv8
        obtain ⟨gp, hgp⟩ : ∃ g, g = v2.heap.size := ⟨_, rfl⟩
        rw [← hgp] at P8 ⊢
        have Hgp := Lib.hid hgp
        clear hgp
        have N8 := Lib.hid (blkD D8.out N2.out)
        have PLE : Hid (w4.heap.size ≤ gp) := Lib.hid (by rw [Hgp.out]; exact (Z2.out).size)
        refine hK.out _ _ Z8 (fun hHeld => ?_)
        clear hK K'
        simp only [Act.put, List.getElem_toArray, List.getElem_cons_succ, List.getElem_cons_zero, List.size_toArray, List.length_cons, List.length_nil, Nat.reduceAdd, Array.replicate, List.replicate, List.setIfInBounds_toArray, List.set_cons_zero, List.set_cons_succ]
        refine RD1 (i := 3) rfl (fun K' hK => ?_)
        go_simp
        go_at_call 18
        refine (lints_any gn [9223372036854775807, 1] 3 _ N8.out (by decide)).mono ?_
        rintro e v3 ⟨⟨ra, rc, rs, rfl, hri, hra, hrc⟩, hg⟩
        have D3 := Lib.hid hg
        have Z3 : Hid (w4.grownBy v3 none) := Lib.hid ((Z8.out).trans hg)
        have RI := Lib.hid hri
        have RR3 := Lib.hid hra
        have RC : Hid (2 ≤ rc) := Lib.hid hrc
        clear hg hri hra hrc
        have N3 := Lib.hid (blkD D3.out N8.out)
        have P3 := Lib.hid (blkD D3.out P8.out)
        refine hK.out _ _ Z3 (fun hHeld => ?_)
        clear hK K'
        simp only [Act.put, List.getElem_toArray, List.getElem_cons_succ, List.getElem_cons_zero, List.size_toArray, List.length_cons, List.length_nil, Nat.reduceAdd, Array.replicate, List.replicate, List.setIfInBounds_toArray, List.set_cons_zero, List.set_cons_succ]
        refine RD1 (i := 4) rfl (fun K' hK => ?_)
        go_simp
        have HOF := tof_any G ad ⟨#[116]⟩ a 4 catC 1 3 ⟨#[100]⟩ 0 ra rc rs _ (HE.out.keep ((H4.out).trans Z3.out)) ((HC.out.keep ((GC4.out).trans Z3.out) (by simp)).mono ((GC4.out).trans Z3.out).size) catC_sz (by decide) (by decide) RR3.out (by rw [RI.out.1]; exact RC.out) (by rw [RI.out.1]; decide) (ints_ok RI.out (by decide) (by decide)).1 (ints_ok RI.out (by decide) (by decide)).2 (by decide)
        rw [RI.out.1, ints_vs RI.out, aw17_b.1, aw17_b.2] at HOF
        go_at_call 10
        refine HOF.mono ?_
        rintro e v4 ⟨rfl, hg⟩
        have D4 := Lib.hid hg
        have Z4 : Hid (w4.grownBy v4 none) := Lib.hid (Z3.out.trans hg)
        clear HOF hg
        have P4 := Lib.hid (blkD D4.out P3.out)
        have R4 := Lib.hid (RR3.out.up D4.out)
        have RR4 := R4
        refine hK.out _ _ Z4 (fun hHeld => ?_)
        clear hK K'
        simp only [Act.put, List.getElem_toArray, List.getElem_cons_succ, List.getElem_cons_zero, List.size_toArray, List.length_cons, List.length_nil, Nat.reduceAdd, Array.replicate, List.replicate, List.setIfInBounds_toArray, List.set_cons_zero, List.set_cons_succ]
        refine TKB (i := 5) (v := ?v5z9k2) rfl ?y5z9k2 ?r5z9k2
        case y5z9k2 => (intro w hSw; (try dsimp only at hSw); go_simp; try with_reducible rfl)
        simp only [Act.put, List.getElem_toArray, List.getElem_cons_succ, List.getElem_cons_zero, List.size_toArray, List.length_cons, List.length_nil, Nat.reduceAdd, Array.replicate, List.replicate, List.setIfInBounds_toArray, List.set_cons_zero, List.set_cons_succ]
        refine TKB (i := 6) (v := ?v6z10k2) rfl ?y6z10k2 ?r6z10k2
        case y6z10k2 => (intro w hSw; (try dsimp only at hSw); go_simp; try with_reducible rfl)
        simp only [Act.put, List.getElem_toArray, List.getElem_cons_succ, List.getElem_cons_zero, List.size_toArray, List.length_cons, List.length_nil, Nat.reduceAdd, Array.replicate, List.replicate, List.setIfInBounds_toArray, List.set_cons_zero, List.set_cons_succ]
        refine TKB (i := 7) (v := ?v7z11k2) rfl ?y7z11k2 ?r7z11k2
        case y7z11k2 => (intro w hSw; (try dsimp only at hSw); go_simp; try with_reducible rfl)
        simp only [Act.put, List.getElem_toArray, List.getElem_cons_succ, List.getElem_cons_zero, List.size_toArray, List.length_cons, List.length_nil, Nat.reduceAdd, Array.replicate, List.replicate, List.setIfInBounds_toArray, List.set_cons_zero, List.set_cons_succ]
        refine RD1 (i := 9) rfl (fun K' hK => ?_)
        obtain ⟨⟨p0, p1, p2⟩, p3, p4, p5⟩ := three_of P4.out
        go_simp
        clear p0 p1 p2 p3 p4 p5
        have P9 := Lib.hid (set3 (u0 := .int .i64 0) (u1 := .int .i64 0) (u2 := .string ⟨#[]⟩) P4.out)
        have Z9 := Lib.hid (grown_set3 Z4.out (b := gp) (PLE.out) (.int .i64 0) (.int .i64 0) (.string ⟨#[]⟩))
        refine hK.out _ _ Z9 (fun hHeld => ?_)
        clear hK K'
        simp only [Act.put, List.getElem_toArray, List.getElem_cons_succ, List.getElem_cons_zero, List.size_toArray, List.length_cons, List.length_nil, Nat.reduceAdd, Array.replicate, List.replicate, List.setIfInBounds_toArray, List.set_cons_zero, List.set_cons_succ]
        refine TKB (i := 10) (v := ?v10z12k2) rfl ?y10z12k2 ?r10z12k2
        case y10z12k2 => (intro w hSw; (try dsimp only at hSw); go_simp; try with_reducible rfl)
        simp only [Act.put, List.getElem_toArray, List.getElem_cons_succ, List.getElem_cons_zero, List.size_toArray, List.length_cons, List.length_nil, Nat.reduceAdd, Array.replicate, List.replicate, List.setIfInBounds_toArray, List.set_cons_zero, List.set_cons_succ]
        refine wpAnyH_done (by kernel_rfl) ?_ _
        clear hHeld
        go_wp2_with fail
        go_meet
        case rel => exact ⟨gp, rfl, rfl, P9, Z9⟩
    · go_simp
      obtain ⟨v8, hv8⟩ : ∃ v, v = (w4.alloc (.cells #[.int .i64 0, .int .i64 0, .string ⟨#[]⟩] 37)).drew := ⟨_, rfl⟩
      have D8 : Hid (w4.grownBy v8 none) := Lib.hid (by rw [hv8]; exact grown_drewT (World.grownBy_alloc w4 (.cells #[.int .i64 0, .int .i64 0, .string ⟨#[]⟩] 37) none))
      have Z8 : Hid (w4.grownBy v8 none) := Lib.hid (((grown_reflX w4 none)).trans D8.out)
      have P8 : Hid (v8.heap[w4.heap.size]? = some (.cells #[.int .i64 0, .int .i64 0, .string ⟨#[]⟩] 37 (0, 0))) := Lib.hid (by rw [hv8]; exact heap_alloc_new w4 (.cells #[.int .i64 0, .int .i64 0, .string ⟨#[]⟩] 37))
      rw [← hv8]
      clear hv8
      obtain ⟨gp, hgp⟩ : ∃ g, g = w4.heap.size := ⟨_, rfl⟩
      rw [← hgp] at P8 ⊢
      have Hgp := Lib.hid hgp
      clear hgp
      have PLE : Hid (w4.heap.size ≤ gp) := Lib.hid (by rw [Hgp.out]; exact ((grown_reflX w4 none)).size)
      refine hK.out _ _ Z8 (fun hHeld => ?_)
      clear hK K'
      simp only [Act.put, List.getElem_toArray, List.getElem_cons_succ, List.getElem_cons_zero, List.size_toArray, List.length_cons, List.length_nil, Nat.reduceAdd, Array.replicate, List.replicate, List.setIfInBounds_toArray, List.set_cons_zero, List.set_cons_succ]
      refine RD1 (i := 2) rfl (fun K' hK => ?_)
      go_simp
      obtain ⟨v2, hv2⟩ : ∃ v, v = (v8.alloc (.cells #[.int .i64 9223372036854775807, .int .i64 1] 3)) := ⟨_, rfl⟩
      have D2 : Hid (v8.grownBy v2 none) := Lib.hid (by rw [hv2]; exact World.grownBy_alloc v8 (.cells #[.int .i64 9223372036854775807, .int .i64 1] 3) none)
      have Z2 : Hid (w4.grownBy v2 none) := Lib.hid ((Z8.out).trans D2.out)
      have N2 : Hid (v2.heap[v8.heap.size]? = some (.cells #[.int .i64 9223372036854775807, .int .i64 1] 3 (0, 0))) := Lib.hid (by rw [hv2]; exact heap_alloc_new v8 (.cells #[.int .i64 9223372036854775807, .int .i64 1] 3))
      rw [← hv2]
      clear hv2
      obtain ⟨gn, hgn⟩ : ∃ g, g = v8.heap.size := ⟨_, rfl⟩
      rw [← hgn] at N2 ⊢
      have Hgn := Lib.hid hgn
      clear hgn
      have P2 := Lib.hid (blkD D2.out P8.out)
      refine hK.out _ _ Z2 (fun hHeld => ?_)
      clear hK K'
      simp only [Act.put, List.getElem_toArray, List.getElem_cons_succ, List.getElem_cons_zero, List.size_toArray, List.length_cons, List.length_nil, Nat.reduceAdd, Array.replicate, List.replicate, List.setIfInBounds_toArray, List.set_cons_zero, List.set_cons_succ]
      refine RD1 (i := 3) rfl (fun K' hK => ?_)
      go_simp
      go_at_call 18
      refine (lints_any gn [9223372036854775807, 1] 3 _ N2.out (by decide)).mono ?_
      rintro e v3 ⟨⟨ra, rc, rs, rfl, hri, hra, hrc⟩, hg⟩
      have D3 := Lib.hid hg
      have Z3 : Hid (w4.grownBy v3 none) := Lib.hid ((Z2.out).trans hg)
      have RI := Lib.hid hri
      have RR3 := Lib.hid hra
      have RC : Hid (2 ≤ rc) := Lib.hid hrc
      clear hg hri hra hrc
      have N3 := Lib.hid (blkD D3.out N2.out)
      have P3 := Lib.hid (blkD D3.out P2.out)
      refine hK.out _ _ Z3 (fun hHeld => ?_)
      clear hK K'
      simp only [Act.put, List.getElem_toArray, List.getElem_cons_succ, List.getElem_cons_zero, List.size_toArray, List.length_cons, List.length_nil, Nat.reduceAdd, Array.replicate, List.replicate, List.setIfInBounds_toArray, List.set_cons_zero, List.set_cons_succ]
      refine RD1 (i := 4) rfl (fun K' hK => ?_)
      go_simp
      have HOF := tof_any G ad ⟨#[116]⟩ a 4 catC 1 3 ⟨#[100]⟩ 0 ra rc rs _ (HE.out.keep ((H4.out).trans Z3.out)) ((HC.out.keep ((GC4.out).trans Z3.out) (by simp)).mono ((GC4.out).trans Z3.out).size) catC_sz (by decide) (by decide) RR3.out (by rw [RI.out.1]; exact RC.out) (by rw [RI.out.1]; decide) (ints_ok RI.out (by decide) (by decide)).1 (ints_ok RI.out (by decide) (by decide)).2 (by decide)
      rw [RI.out.1, ints_vs RI.out, aw17_b.1, aw17_b.2] at HOF
      go_at_call 10
      refine HOF.mono ?_
      rintro e v4 ⟨rfl, hg⟩
      have D4 := Lib.hid hg
      have Z4 : Hid (w4.grownBy v4 none) := Lib.hid (Z3.out.trans hg)
      clear HOF hg
      have P4 := Lib.hid (blkD D4.out P3.out)
      have R4 := Lib.hid (RR3.out.up D4.out)
      have RR4 := R4
      refine hK.out _ _ Z4 (fun hHeld => ?_)
      clear hK K'
      simp only [Act.put, List.getElem_toArray, List.getElem_cons_succ, List.getElem_cons_zero, List.size_toArray, List.length_cons, List.length_nil, Nat.reduceAdd, Array.replicate, List.replicate, List.setIfInBounds_toArray, List.set_cons_zero, List.set_cons_succ]
      refine TKB (i := 5) (v := ?v5z13k2) rfl ?y5z13k2 ?r5z13k2
      case y5z13k2 => (intro w hSw; (try dsimp only at hSw); go_simp; try with_reducible rfl)
      simp only [Act.put, List.getElem_toArray, List.getElem_cons_succ, List.getElem_cons_zero, List.size_toArray, List.length_cons, List.length_nil, Nat.reduceAdd, Array.replicate, List.replicate, List.setIfInBounds_toArray, List.set_cons_zero, List.set_cons_succ]
      refine TKB (i := 6) (v := ?v6z14k2) rfl ?y6z14k2 ?r6z14k2
      case y6z14k2 => (intro w hSw; (try dsimp only at hSw); go_simp; try with_reducible rfl)
      simp only [Act.put, List.getElem_toArray, List.getElem_cons_succ, List.getElem_cons_zero, List.size_toArray, List.length_cons, List.length_nil, Nat.reduceAdd, Array.replicate, List.replicate, List.setIfInBounds_toArray, List.set_cons_zero, List.set_cons_succ]
      refine TKB (i := 7) (v := ?v7z15k2) rfl ?y7z15k2 ?r7z15k2
      case y7z15k2 => (intro w hSw; (try dsimp only at hSw); go_simp; try with_reducible rfl)
      simp only [Act.put, List.getElem_toArray, List.getElem_cons_succ, List.getElem_cons_zero, List.size_toArray, List.length_cons, List.length_nil, Nat.reduceAdd, Array.replicate, List.replicate, List.setIfInBounds_toArray, List.set_cons_zero, List.set_cons_succ]
      refine RD1 (i := 9) rfl (fun K' hK => ?_)
      obtain ⟨⟨p0, p1, p2⟩, p3, p4, p5⟩ := three_of P4.out
      go_simp
      clear p0 p1 p2 p3 p4 p5
      have P9 := Lib.hid (set3 (u0 := .int .i64 0) (u1 := .int .i64 0) (u2 := .string ⟨#[]⟩) P4.out)
      have Z9 := Lib.hid (grown_set3 Z4.out (b := gp) (PLE.out) (.int .i64 0) (.int .i64 0) (.string ⟨#[]⟩))
      refine hK.out _ _ Z9 (fun hHeld => ?_)
      clear hK K'
      simp only [Act.put, List.getElem_toArray, List.getElem_cons_succ, List.getElem_cons_zero, List.size_toArray, List.length_cons, List.length_nil, Nat.reduceAdd, Array.replicate, List.replicate, List.setIfInBounds_toArray, List.set_cons_zero, List.set_cons_succ]
      refine TKB (i := 10) (v := ?v10z16k2) rfl ?y10z16k2 ?r10z16k2
      case y10z16k2 => (intro w hSw; (try dsimp only at hSw); go_simp; try with_reducible rfl)
      simp only [Act.put, List.getElem_toArray, List.getElem_cons_succ, List.getElem_cons_zero, List.size_toArray, List.length_cons, List.length_nil, Nat.reduceAdd, Array.replicate, List.replicate, List.setIfInBounds_toArray, List.set_cons_zero, List.set_cons_succ]
      refine wpAnyH_done (by kernel_rfl) ?_ _
      clear hHeld
      go_wp2_with fail
      go_meet
      case rel => exact ⟨gp, rfl, rfl, P9, Z9⟩
  case rest =>
  obtain ⟨gp5, rfl, rfl, PB, GB⟩ := hcut
  rename World => w5
  have T5 := Lib.hid (blkD GB.out T4.out)
  have X5 := Lib.hid (blkD GB.out X4.out)
  have H5 := Lib.hid (H4.out.trans GB.out)
  have GC5 := Lib.hid (GC4.out.trans GB.out)
  have PA5 := Lib.hid (blkD GB.out PA.out)
  clear T4 X4 H4 GC4 GB PA
  go_upto_region 5 with fail
  go_cut [7, 8] from 29 to 41 (fun sp se wx => ∃ gp : Nat, sp = .pointer (some ⟨gp, 0, none⟩) ∧ se = .int .i64 0 ∧ Hid (wx.heap[gp]? = some (.cells #[.int .i64 0, .int .i64 0, .string ⟨#[]⟩] 37 (0, 0))) ∧ Hid (w5.grownBy wx none))
  case first =>
    refine wp_region_held_drew (S := (fun W => Hid (w5.grownBy W none))) (by kernel_rfl) (Lib.hid (grown_drewT (grown_reflX w5 none))) (fun hHeld => ?_)
    refine TKA (i := 0) (v := .agg #[.string ⟨#[116]⟩, .slice a 4 4, .int .i64 1]) rfl (yieldsIf_load_mid (by rfl) _ _ rfl g1 0 rfl _ _ (fun W hS => range_rowD (blkD hS.out T5.out)) Tryz.underlying24 rfl tab_size) ?_
    simp only [Act.put, List.getElem_toArray, List.getElem_cons_succ, List.getElem_cons_zero, List.size_toArray, List.length_cons, List.length_nil, Nat.reduceAdd, Array.replicate, List.replicate, List.setIfInBounds_toArray, List.set_cons_zero, List.set_cons_succ]
    refine TKA (i := 1) (v := .agg #[.int .i64 3, .string ⟨#[100]⟩, .int .i64 0]) rfl (yieldsIf_load_mid (by rfl) _ _ rfl g2 0 rfl _ _ (fun W hS => range_rowD (blkD hS.out X5.out)) Tryz.underlying27 rfl itm_size) ?_
    simp only [Act.put, List.getElem_toArray, List.getElem_cons_succ, List.getElem_cons_zero, List.size_toArray, List.length_cons, List.length_nil, Nat.reduceAdd, Array.replicate, List.replicate, List.setIfInBounds_toArray, List.set_cons_zero, List.set_cons_succ]
    refine TKB (i := 3) (v := ?v3z1k3) rfl ?y3z1k3 ?r3z1k3
    case y3z1k3 => (intro w hSw; (try dsimp only at hSw); go_simp; try with_reducible rfl)
    simp only [Act.put, List.getElem_toArray, List.getElem_cons_succ, List.getElem_cons_zero, List.size_toArray, List.length_cons, List.length_nil, Nat.reduceAdd, Array.replicate, List.replicate, List.setIfInBounds_toArray, List.set_cons_zero, List.set_cons_succ]
    refine TKB (i := 4) (v := ?v4z2k3) rfl ?y4z2k3 ?r4z2k3
    case y4z2k3 => (intro w hSw; (try dsimp only at hSw); go_simp; try with_reducible rfl)
    simp only [Act.put, List.getElem_toArray, List.getElem_cons_succ, List.getElem_cons_zero, List.size_toArray, List.length_cons, List.length_nil, Nat.reduceAdd, Array.replicate, List.replicate, List.setIfInBounds_toArray, List.set_cons_zero, List.set_cons_succ]
    refine TKB (i := 5) (v := ?v5z3k3) rfl ?y5z3k3 ?r5z3k3
    case y5z3k3 => (intro w hSw; (try dsimp only at hSw); go_simp; try with_reducible rfl)
    simp only [Act.put, List.getElem_toArray, List.getElem_cons_succ, List.getElem_cons_zero, List.size_toArray, List.length_cons, List.length_nil, Nat.reduceAdd, Array.replicate, List.replicate, List.setIfInBounds_toArray, List.set_cons_zero, List.set_cons_succ]
    refine wpAnyH_ready (rs := [2, 12]) (by kernel_rfl) (by simp) ?_
    refine (AllReadyH.cons rfl (fun K' hK => ?_) (AllReadyH.cons rfl (fun K' hK => ?_) AllReadyH.nil))
    · go_simp
      go_at_call 19
      refine (refInt_any 1 _).mono ?_
      rintro e v2 ⟨rfl, hv2⟩
      have D2 : Hid (w5.grownBy v2 none) := Lib.hid (by rw [← hv2]; exact (grown_drewT (grown_reflX w5 none)).trans (World.grownBy_alloc _ _ none))
      have Z2 : Hid (w5.grownBy v2 none) := Lib.hid (((grown_reflX w5 none)).trans D2.out)
      clear hv2
      unfold vi
      refine hK.out _ _ Z2 (fun hHeld => ?_)
      clear hK K'
      simp only [Act.put, List.getElem_toArray, List.getElem_cons_succ, List.getElem_cons_zero, List.size_toArray, List.length_cons, List.length_nil, Nat.reduceAdd, Array.replicate, List.replicate, List.setIfInBounds_toArray, List.set_cons_zero, List.set_cons_succ]
      refine wpAnyH_ready (rs := [6, 12]) (by kernel_rfl) (by simp) ?_
      refine (AllReadyH.cons rfl (fun K' hK => ?_) (AllReadyH.cons rfl (fun K' hK => ?_) AllReadyH.nil))
      · go_simp
        obtain ⟨v6, hv6⟩ : ∃ v, v = (v2.alloc (.cells #[.int .i64 2, .int .i64 1, .string ⟨#[]⟩, .int .i64 3, .int .i64 0, .string ⟨#[]⟩, .int .i64 0, .int .i64 0, .string ⟨#[]⟩, .int .i64 0, .int .i64 0, .string ⟨#[]⟩] 37)) := ⟨_, rfl⟩
        have D6 : Hid (v2.grownBy v6 none) := Lib.hid (by rw [hv6]; exact World.grownBy_alloc v2 (.cells #[.int .i64 2, .int .i64 1, .string ⟨#[]⟩, .int .i64 3, .int .i64 0, .string ⟨#[]⟩, .int .i64 0, .int .i64 0, .string ⟨#[]⟩, .int .i64 0, .int .i64 0, .string ⟨#[]⟩] 37) none)
        have Z6 : Hid (w5.grownBy v6 none) := Lib.hid ((Z2.out).trans D6.out)
        have R6 : Hid (v6.heap[v2.heap.size]? = some (.cells #[.int .i64 2, .int .i64 1, .string ⟨#[]⟩, .int .i64 3, .int .i64 0, .string ⟨#[]⟩, .int .i64 0, .int .i64 0, .string ⟨#[]⟩, .int .i64 0, .int .i64 0, .string ⟨#[]⟩] 37 (0, 0))) := Lib.hid (by rw [hv6]; exact heap_alloc_new v2 (.cells #[.int .i64 2, .int .i64 1, .string ⟨#[]⟩, .int .i64 3, .int .i64 0, .string ⟨#[]⟩, .int .i64 0, .int .i64 0, .string ⟨#[]⟩, .int .i64 0, .int .i64 0, .string ⟨#[]⟩] 37))
        rw [← hv6]
        clear hv6
        obtain ⟨gr, hgr⟩ : ∃ g, g = v2.heap.size := ⟨_, rfl⟩
        rw [← hgr] at R6 ⊢
        have Hgr := Lib.hid hgr
        clear hgr
        refine hK.out _ _ Z6 (fun hHeld => ?_)
        clear hK K'
        simp only [Act.put, List.getElem_toArray, List.getElem_cons_succ, List.getElem_cons_zero, List.size_toArray, List.length_cons, List.length_nil, Nat.reduceAdd, Array.replicate, List.replicate, List.setIfInBounds_toArray, List.set_cons_zero, List.set_cons_succ]
        refine wpAnyH_ready (rs := [7, 12]) (by kernel_rfl) (by simp) ?_
        refine (AllReadyH.cons rfl (fun K' hK => ?_) (AllReadyH.cons rfl (fun K' hK => ?_) AllReadyH.nil))
        · go_simp
          obtain ⟨v7, hv7⟩ : ∃ v, v = (v6.alloc (.cells #[.slice (some ⟨gr, 0, none⟩) 4 4] 54)) := ⟨_, rfl⟩
          have D7 : Hid (v6.grownBy v7 none) := Lib.hid (by rw [hv7]; exact World.grownBy_alloc v6 (.cells #[.slice (some ⟨gr, 0, none⟩) 4 4] 54) none)
          have Z7 : Hid (w5.grownBy v7 none) := Lib.hid ((Z6.out).trans D7.out)
          have S7 : Hid (v7.heap[v6.heap.size]? = some (.cells #[.slice (some ⟨gr, 0, none⟩) 4 4] 54 (0, 0))) := Lib.hid (by rw [hv7]; exact heap_alloc_new v6 (.cells #[.slice (some ⟨gr, 0, none⟩) 4 4] 54))
          rw [← hv7]
          clear hv7
          obtain ⟨gs, hgs⟩ : ∃ g, g = v6.heap.size := ⟨_, rfl⟩
          rw [← hgs] at S7 ⊢
          have Hgs := Lib.hid hgs
          clear hgs
          have R7 := Lib.hid (blkD D7.out R6.out)
          refine hK.out _ _ Z7 (fun hHeld => ?_)
          clear hK K'
          simp only [Act.put, List.getElem_toArray, List.getElem_cons_succ, List.getElem_cons_zero, List.size_toArray, List.length_cons, List.length_nil, Nat.reduceAdd, Array.replicate, List.replicate, List.setIfInBounds_toArray, List.set_cons_zero, List.set_cons_succ]
          refine wpAnyH_ready (rs := [8, 12]) (by kernel_rfl) (by simp) ?_
          refine (AllReadyH.cons rfl (fun K' hK => ?_) (AllReadyH.cons rfl (fun K' hK => ?_) AllReadyH.nil))
          · go_simp
            have HOF := tof_any G ad ⟨#[116]⟩ a 4 catC 1 3 ⟨#[100]⟩ 0 (some ⟨gs, 0, none⟩) 1 [⟨some ⟨gr, 0, none⟩, 4, rowV 1 ⟨0, 0, ⟨#[]⟩⟩⟩] _ (HE.out.keep ((H5.out).trans Z7.out)) ((HC.out.keep ((GC5.out).trans Z7.out) (by simp)).mono ((GC5.out).trans Z7.out).size) catC_sz (by decide) (by decide) (rws_c R7.out S7.out) (by simp) (by simp) rwc_ok.1 rwc_ok.2 (by decide)
            rw [rwc_vs, aw17_c.1, aw17_c.2] at HOF
            go_at_call 10
            refine HOF.mono ?_
            rintro e v8 ⟨rfl, hg⟩
            have D8 := Lib.hid hg
            have Z8 : Hid (w5.grownBy v8 none) := Lib.hid (Z7.out.trans hg)
            clear HOF hg
            have R8 := Lib.hid (blkD D8.out R7.out)
            have S8 := Lib.hid (blkD D8.out S7.out)
            refine hK.out _ _ Z8 (fun hHeld => ?_)
            clear hK K'
            simp only [Act.put, List.getElem_toArray, List.getElem_cons_succ, List.getElem_cons_zero, List.size_toArray, List.length_cons, List.length_nil, Nat.reduceAdd, Array.replicate, List.replicate, List.setIfInBounds_toArray, List.set_cons_zero, List.set_cons_succ]
            refine TKB (i := 9) (v := ?v9z4k3) rfl ?y9z4k3 ?r9z4k3
            case y9z4k3 => (intro w hSw; (try dsimp only at hSw); go_simp; try with_reducible rfl)
            simp only [Act.put, List.getElem_toArray, List.getElem_cons_succ, List.getElem_cons_zero, List.size_toArray, List.length_cons, List.length_nil, Nat.reduceAdd, Array.replicate, List.replicate, List.setIfInBounds_toArray, List.set_cons_zero, List.set_cons_succ]
            refine TKB (i := 10) (v := ?v10z5k3) rfl ?y10z5k3 ?r10z5k3
            case y10z5k3 => (intro w hSw; (try dsimp only at hSw); go_simp; try with_reducible rfl)
            simp only [Act.put, List.getElem_toArray, List.getElem_cons_succ, List.getElem_cons_zero, List.size_toArray, List.length_cons, List.length_nil, Nat.reduceAdd, Array.replicate, List.replicate, List.setIfInBounds_toArray, List.set_cons_zero, List.set_cons_succ]
            refine TKB (i := 11) (v := ?v11z6k3) rfl ?y11z6k3 ?r11z6k3
            case y11z6k3 => (intro w hSw; (try dsimp only at hSw); go_simp; try with_reducible rfl)
            simp only [Act.put, List.getElem_toArray, List.getElem_cons_succ, List.getElem_cons_zero, List.size_toArray, List.length_cons, List.length_nil, Nat.reduceAdd, Array.replicate, List.replicate, List.setIfInBounds_toArray, List.set_cons_zero, List.set_cons_succ]
            refine RD1 (i := 12) rfl (fun K' hK => ?_)
            go_simp
            obtain ⟨v12, hv12⟩ : ∃ v, v = (v8.alloc (.cells #[.int .i64 0, .int .i64 0, .string ⟨#[]⟩] 37)) := ⟨_, rfl⟩
            have D12 : Hid (v8.grownBy v12 none) := Lib.hid (by rw [hv12]; exact World.grownBy_alloc v8 (.cells #[.int .i64 0, .int .i64 0, .string ⟨#[]⟩] 37) none)
            have Z12 : Hid (w5.grownBy v12 none) := Lib.hid ((Z8.out).trans D12.out)
            have P12 : Hid (v12.heap[v8.heap.size]? = some (.cells #[.int .i64 0, .int .i64 0, .string ⟨#[]⟩] 37 (0, 0))) := Lib.hid (by rw [hv12]; exact heap_alloc_new v8 (.cells #[.int .i64 0, .int .i64 0, .string ⟨#[]⟩] 37))
            rw [← hv12]
            clear hv12
            obtain ⟨gp, hgp⟩ : ∃ g, g = v8.heap.size := ⟨_, rfl⟩
            rw [← hgp] at P12 ⊢
            have Hgp := Lib.hid hgp
            clear hgp
            have R12 := Lib.hid (blkD D12.out R8.out)
            have S12 := Lib.hid (blkD D12.out S8.out)
            have PLE : Hid (w5.heap.size ≤ gp) := Lib.hid (by rw [Hgp.out]; exact (Z8.out).size)
            refine hK.out _ _ Z12 (fun hHeld => ?_)
            clear hK K'
            simp only [Act.put, List.getElem_toArray, List.getElem_cons_succ, List.getElem_cons_zero, List.size_toArray, List.length_cons, List.length_nil, Nat.reduceAdd, Array.replicate, List.replicate, List.setIfInBounds_toArray, List.set_cons_zero, List.set_cons_succ]
            refine RD1 (i := 13) rfl (fun K' hK => ?_)
            obtain ⟨⟨p0, p1, p2⟩, p3, p4, p5⟩ := three_of P12.out
            go_simp
            clear p0 p1 p2 p3 p4 p5
            have P13 := Lib.hid (set3 (u0 := .int .i64 0) (u1 := .int .i64 0) (u2 := .string ⟨#[]⟩) P12.out)
            have Z13 := Lib.hid (grown_set3 Z12.out (b := gp) (PLE.out) (.int .i64 0) (.int .i64 0) (.string ⟨#[]⟩))
            refine hK.out _ _ Z13 (fun hHeld => ?_)
            clear hK K'
            simp only [Act.put, List.getElem_toArray, List.getElem_cons_succ, List.getElem_cons_zero, List.size_toArray, List.length_cons, List.length_nil, Nat.reduceAdd, Array.replicate, List.replicate, List.setIfInBounds_toArray, List.set_cons_zero, List.set_cons_succ]
            refine TKB (i := 14) (v := ?v14z7k3) rfl ?y14z7k3 ?r14z7k3
            case y14z7k3 => (intro w hSw; (try dsimp only at hSw); go_simp; try with_reducible rfl)
            simp only [Act.put, List.getElem_toArray, List.getElem_cons_succ, List.getElem_cons_zero, List.size_toArray, List.length_cons, List.length_nil, Nat.reduceAdd, Array.replicate, List.replicate, List.setIfInBounds_toArray, List.set_cons_zero, List.set_cons_succ]
            refine wpAnyH_done (by kernel_rfl) ?_ _
            clear hHeld
            go_wp2_with fail
            go_meet
            case rel => exact ⟨gp, rfl, rfl, P13, Z13⟩
          · go_simp
            obtain ⟨v12, hv12⟩ : ∃ v, v = (v7.alloc (.cells #[.int .i64 0, .int .i64 0, .string ⟨#[]⟩] 37)) := ⟨_, rfl⟩
            have D12 : Hid (v7.grownBy v12 none) := Lib.hid (by rw [hv12]; exact World.grownBy_alloc v7 (.cells #[.int .i64 0, .int .i64 0, .string ⟨#[]⟩] 37) none)
            have Z12 : Hid (w5.grownBy v12 none) := Lib.hid ((Z7.out).trans D12.out)
            have P12 : Hid (v12.heap[v7.heap.size]? = some (.cells #[.int .i64 0, .int .i64 0, .string ⟨#[]⟩] 37 (0, 0))) := Lib.hid (by rw [hv12]; exact heap_alloc_new v7 (.cells #[.int .i64 0, .int .i64 0, .string ⟨#[]⟩] 37))
            rw [← hv12]
            clear hv12
            obtain ⟨gp, hgp⟩ : ∃ g, g = v7.heap.size := ⟨_, rfl⟩
            rw [← hgp] at P12 ⊢
            have Hgp := Lib.hid hgp
            clear hgp
            have R12 := Lib.hid (blkD D12.out R7.out)
            have S12 := Lib.hid (blkD D12.out S7.out)
            have PLE : Hid (w5.heap.size ≤ gp) := Lib.hid (by rw [Hgp.out]; exact (Z7.out).size)
            refine hK.out _ _ Z12 (fun hHeld => ?_)
            clear hK K'
            simp only [Act.put, List.getElem_toArray, List.getElem_cons_succ, List.getElem_cons_zero, List.size_toArray, List.length_cons, List.length_nil, Nat.reduceAdd, Array.replicate, List.replicate, List.setIfInBounds_toArray, List.set_cons_zero, List.set_cons_succ]
            refine RD1 (i := 8) rfl (fun K' hK => ?_)
            go_simp
            have HOF := tof_any G ad ⟨#[116]⟩ a 4 catC 1 3 ⟨#[100]⟩ 0 (some ⟨gs, 0, none⟩) 1 [⟨some ⟨gr, 0, none⟩, 4, rowV 1 ⟨0, 0, ⟨#[]⟩⟩⟩] _ (HE.out.keep ((H5.out).trans Z12.out)) ((HC.out.keep ((GC5.out).trans Z12.out) (by simp)).mono ((GC5.out).trans Z12.out).size) catC_sz (by decide) (by decide) (rws_c R12.out S12.out) (by simp) (by simp) rwc_ok.1 rwc_ok.2 (by decide)
            rw [rwc_vs, aw17_c.1, aw17_c.2] at HOF
            go_at_call 10
            refine HOF.mono ?_
            rintro e v8 ⟨rfl, hg⟩
            have D8 := Lib.hid hg
            have Z8 : Hid (w5.grownBy v8 none) := Lib.hid (Z12.out.trans hg)
            clear HOF hg
            have R8 := Lib.hid (blkD D8.out R12.out)
            have S8 := Lib.hid (blkD D8.out S12.out)
            have P8 := Lib.hid (blkD D8.out P12.out)
            refine hK.out _ _ Z8 (fun hHeld => ?_)
            clear hK K'
            simp only [Act.put, List.getElem_toArray, List.getElem_cons_succ, List.getElem_cons_zero, List.size_toArray, List.length_cons, List.length_nil, Nat.reduceAdd, Array.replicate, List.replicate, List.setIfInBounds_toArray, List.set_cons_zero, List.set_cons_succ]
            refine TKB (i := 9) (v := ?v9z8k3) rfl ?y9z8k3 ?r9z8k3
            case y9z8k3 => (intro w hSw; (try dsimp only at hSw); go_simp; try with_reducible rfl)
            simp only [Act.put, List.getElem_toArray, List.getElem_cons_succ, List.getElem_cons_zero, List.size_toArray, List.length_cons, List.length_nil, Nat.reduceAdd, Array.replicate, List.replicate, List.setIfInBounds_toArray, List.set_cons_zero, List.set_cons_succ]
            refine TKB (i := 10) (v := ?v10z9k3) rfl ?y10z9k3 ?r10z9k3
            case y10z9k3 => (intro w hSw; (try dsimp only at hSw); go_simp; try with_reducible rfl)
            simp only [Act.put, List.getElem_toArray, List.getElem_cons_succ, List.getElem_cons_zero, List.size_toArray, List.length_cons, List.length_nil, Nat.reduceAdd, Array.replicate, List.replicate, List.setIfInBounds_toArray, List.set_cons_zero, List.set_cons_succ]
            refine TKB (i := 11) (v := ?v11z10k3) rfl ?y11z10k3 ?r11z10k3
            case y11z10k3 => (intro w hSw; (try dsimp only at hSw); go_simp; try with_reducible rfl)
            simp only [Act.put, List.getElem_toArray, List.getElem_cons_succ, List.getElem_cons_zero, List.size_toArray, List.length_cons, List.length_nil, Nat.reduceAdd, Array.replicate, List.replicate, List.setIfInBounds_toArray, List.set_cons_zero, List.set_cons_succ]
            refine RD1 (i := 13) rfl (fun K' hK => ?_)
            obtain ⟨⟨p0, p1, p2⟩, p3, p4, p5⟩ := three_of P8.out
            go_simp
            clear p0 p1 p2 p3 p4 p5
            have P13 := Lib.hid (set3 (u0 := .int .i64 0) (u1 := .int .i64 0) (u2 := .string ⟨#[]⟩) P8.out)
            have Z13 := Lib.hid (grown_set3 Z8.out (b := gp) (PLE.out) (.int .i64 0) (.int .i64 0) (.string ⟨#[]⟩))
            refine hK.out _ _ Z13 (fun hHeld => ?_)
            clear hK K'
            simp only [Act.put, List.getElem_toArray, List.getElem_cons_succ, List.getElem_cons_zero, List.size_toArray, List.length_cons, List.length_nil, Nat.reduceAdd, Array.replicate, List.replicate, List.setIfInBounds_toArray, List.set_cons_zero, List.set_cons_succ]
            refine TKB (i := 14) (v := ?v14z11k3) rfl ?y14z11k3 ?r14z11k3
            case y14z11k3 => (intro w hSw; (try dsimp only at hSw); go_simp; try with_reducible rfl)
            simp only [Act.put, List.getElem_toArray, List.getElem_cons_succ, List.getElem_cons_zero, List.size_toArray, List.length_cons, List.length_nil, Nat.reduceAdd, Array.replicate, List.replicate, List.setIfInBounds_toArray, List.set_cons_zero, List.set_cons_succ]
            refine wpAnyH_done (by kernel_rfl) ?_ _
            clear hHeld
            go_wp2_with fail
            go_meet
            case rel => exact ⟨gp, rfl, rfl, P13, Z13⟩
        · go_simp
          obtain ⟨v12, hv12⟩ : ∃ v, v = (v6.alloc (.cells #[.int .i64 0, .int .i64 0, .string ⟨#[]⟩] 37)) := ⟨_, rfl⟩
          have D12 : Hid (v6.grownBy v12 none) := Lib.hid (by rw [hv12]; exact World.grownBy_alloc v6 (.cells #[.int .i64 0, .int .i64 0, .string ⟨#[]⟩] 37) none)
          have Z12 : Hid (w5.grownBy v12 none) := Lib.hid ((Z6.out).trans D12.out)
          have P12 : Hid (v12.heap[v6.heap.size]? = some (.cells #[.int .i64 0, .int .i64 0, .string ⟨#[]⟩] 37 (0, 0))) := Lib.hid (by rw [hv12]; exact heap_alloc_new v6 (.cells #[.int .i64 0, .int .i64 0, .string ⟨#[]⟩] 37))
          rw [← hv12]
          clear hv12
          obtain ⟨gp, hgp⟩ : ∃ g, g = v6.heap.size := ⟨_, rfl⟩
          rw [← hgp] at P12 ⊢
          have Hgp := Lib.hid hgp
          clear hgp
          have R12 := Lib.hid (blkD D12.out R6.out)
          have PLE : Hid (w5.heap.size ≤ gp) := Lib.hid (by rw [Hgp.out]; exact (Z6.out).size)
          refine hK.out _ _ Z12 (fun hHeld => ?_)
          clear hK K'
          simp only [Act.put, List.getElem_toArray, List.getElem_cons_succ, List.getElem_cons_zero, List.size_toArray, List.length_cons, List.length_nil, Nat.reduceAdd, Array.replicate, List.replicate, List.setIfInBounds_toArray, List.set_cons_zero, List.set_cons_succ]
          refine RD1 (i := 7) rfl (fun K' hK => ?_)
          go_simp
          obtain ⟨v7, hv7⟩ : ∃ v, v = (v12.alloc (.cells #[.slice (some ⟨gr, 0, none⟩) 4 4] 54)) := ⟨_, rfl⟩
          have D7 : Hid (v12.grownBy v7 none) := Lib.hid (by rw [hv7]; exact World.grownBy_alloc v12 (.cells #[.slice (some ⟨gr, 0, none⟩) 4 4] 54) none)
          have Z7 : Hid (w5.grownBy v7 none) := Lib.hid ((Z12.out).trans D7.out)
          have S7 : Hid (v7.heap[v12.heap.size]? = some (.cells #[.slice (some ⟨gr, 0, none⟩) 4 4] 54 (0, 0))) := Lib.hid (by rw [hv7]; exact heap_alloc_new v12 (.cells #[.slice (some ⟨gr, 0, none⟩) 4 4] 54))
          rw [← hv7]
          clear hv7
          obtain ⟨gs, hgs⟩ : ∃ g, g = v12.heap.size := ⟨_, rfl⟩
          rw [← hgs] at S7 ⊢
          have Hgs := Lib.hid hgs
          clear hgs
          have R7 := Lib.hid (blkD D7.out R12.out)
          have P7 := Lib.hid (blkD D7.out P12.out)
          refine hK.out _ _ Z7 (fun hHeld => ?_)
          clear hK K'
          simp only [Act.put, List.getElem_toArray, List.getElem_cons_succ, List.getElem_cons_zero, List.size_toArray, List.length_cons, List.length_nil, Nat.reduceAdd, Array.replicate, List.replicate, List.setIfInBounds_toArray, List.set_cons_zero, List.set_cons_succ]
          refine RD1 (i := 8) rfl (fun K' hK => ?_)
          go_simp
          have HOF := tof_any G ad ⟨#[116]⟩ a 4 catC 1 3 ⟨#[100]⟩ 0 (some ⟨gs, 0, none⟩) 1 [⟨some ⟨gr, 0, none⟩, 4, rowV 1 ⟨0, 0, ⟨#[]⟩⟩⟩] _ (HE.out.keep ((H5.out).trans Z7.out)) ((HC.out.keep ((GC5.out).trans Z7.out) (by simp)).mono ((GC5.out).trans Z7.out).size) catC_sz (by decide) (by decide) (rws_c R7.out S7.out) (by simp) (by simp) rwc_ok.1 rwc_ok.2 (by decide)
          rw [rwc_vs, aw17_c.1, aw17_c.2] at HOF
          go_at_call 10
          refine HOF.mono ?_
          rintro e v8 ⟨rfl, hg⟩
          have D8 := Lib.hid hg
          have Z8 : Hid (w5.grownBy v8 none) := Lib.hid (Z7.out.trans hg)
          clear HOF hg
          have R8 := Lib.hid (blkD D8.out R7.out)
          have S8 := Lib.hid (blkD D8.out S7.out)
          have P8 := Lib.hid (blkD D8.out P7.out)
          refine hK.out _ _ Z8 (fun hHeld => ?_)
          clear hK K'
          simp only [Act.put, List.getElem_toArray, List.getElem_cons_succ, List.getElem_cons_zero, List.size_toArray, List.length_cons, List.length_nil, Nat.reduceAdd, Array.replicate, List.replicate, List.setIfInBounds_toArray, List.set_cons_zero, List.set_cons_succ]
          refine TKB (i := 9) (v := ?v9z12k3) rfl ?y9z12k3 ?r9z12k3
          case y9z12k3 => (intro w hSw; (try dsimp only at hSw); go_simp; try with_reducible rfl)
          simp only [Act.put, List.getElem_toArray, List.getElem_cons_succ, List.getElem_cons_zero, List.size_toArray, List.length_cons, List.length_nil, Nat.reduceAdd, Array.replicate, List.replicate, List.setIfInBounds_toArray, List.set_cons_zero, List.set_cons_succ]
          refine TKB (i := 10) (v := ?v10z13k3) rfl ?y10z13k3 ?r10z13k3
          case y10z13k3 => (intro w hSw; (try dsimp only at hSw); go_simp; try with_reducible rfl)
          simp only [Act.put, List.getElem_toArray, List.getElem_cons_succ, List.getElem_cons_zero, List.size_toArray, List.length_cons, List.length_nil, Nat.reduceAdd, Array.replicate, List.replicate, List.setIfInBounds_toArray, List.set_cons_zero, List.set_cons_succ]
          refine TKB (i := 11) (v := ?v11z14k3) rfl ?y11z14k3 ?r11z14k3
          case y11z14k3 => (intro w hSw; (try dsimp only at hSw); go_simp; try with_reducible rfl)
          simp only [Act.put, List.getElem_toArray, List.getElem_cons_succ, List.getElem_cons_zero, List.size_toArray, List.length_cons, List.length_nil, Nat.reduceAdd, Array.replicate, List.replicate, List.setIfInBounds_toArray, List.set_cons_zero, List.set_cons_succ]
          refine RD1 (i := 13) rfl (fun K' hK => ?_)
          obtain ⟨⟨p0, p1, p2⟩, p3, p4, p5⟩ := three_of P8.out
          go_simp
          clear p0 p1 p2 p3 p4 p5
          have P13 := Lib.hid (set3 (u0 := .int .i64 0) (u1 := .int .i64 0) (u2 := .string ⟨#[]⟩) P8.out)
          have Z13 := Lib.hid (grown_set3 Z8.out (b := gp) (PLE.out) (.int .i64 0) (.int .i64 0) (.string ⟨#[]⟩))
          refine hK.out _ _ Z13 (fun hHeld => ?_)
          clear hK K'
          simp only [Act.put, List.getElem_toArray, List.getElem_cons_succ, List.getElem_cons_zero, List.size_toArray, List.length_cons, List.length_nil, Nat.reduceAdd, Array.replicate, List.replicate, List.setIfInBounds_toArray, List.set_cons_zero, List.set_cons_succ]
          refine TKB (i := 14) (v := ?v14z15k3) rfl ?y14z15k3 ?r14z15k3
          case y14z15k3 => (intro w hSw; (try dsimp only at hSw); go_simp; try with_reducible rfl)
          simp only [Act.put, List.getElem_toArray, List.getElem_cons_succ, List.getElem_cons_zero, List.size_toArray, List.length_cons, List.length_nil, Nat.reduceAdd, Array.replicate, List.replicate, List.setIfInBounds_toArray, List.set_cons_zero, List.set_cons_succ]
          refine wpAnyH_done (by kernel_rfl) ?_ _
          clear hHeld
          go_wp2_with fail
          go_meet
          case rel => exact ⟨gp, rfl, rfl, P13, Z13⟩
      · go_simp
        obtain ⟨v12, hv12⟩ : ∃ v, v = (v2.alloc (.cells #[.int .i64 0, .int .i64 0, .string ⟨#[]⟩] 37)) := ⟨_, rfl⟩
        have D12 : Hid (v2.grownBy v12 none) := Lib.hid (by rw [hv12]; exact World.grownBy_alloc v2 (.cells #[.int .i64 0, .int .i64 0, .string ⟨#[]⟩] 37) none)
        have Z12 : Hid (w5.grownBy v12 none) := Lib.hid ((Z2.out).trans D12.out)
        have P12 : Hid (v12.heap[v2.heap.size]? = some (.cells #[.int .i64 0, .int .i64 0, .string ⟨#[]⟩] 37 (0, 0))) := Lib.hid (by rw [hv12]; exact heap_alloc_new v2 (.cells #[.int .i64 0, .int .i64 0, .string ⟨#[]⟩] 37))
        rw [← hv12]
        clear hv12
        obtain ⟨gp, hgp⟩ : ∃ g, g = v2.heap.size := ⟨_, rfl⟩
        rw [← hgp] at P12 ⊢
        have Hgp := Lib.hid hgp
        clear hgp
        have PLE : Hid (w5.heap.size ≤ gp) := Lib.hid (by rw [Hgp.out]; exact (Z2.out).size)
        refine hK.out _ _ Z12 (fun hHeld => ?_)
        clear hK K'
        simp only [Act.put, List.getElem_toArray, List.getElem_cons_succ, List.getElem_cons_zero, List.size_toArray, List.length_cons, List.length_nil, Nat.reduceAdd, Array.replicate, List.replicate, List.setIfInBounds_toArray, List.set_cons_zero, List.set_cons_succ]
        refine RD1 (i := 6) rfl (fun K' hK => ?_)
        go_simp
        obtain ⟨v6, hv6⟩ : ∃ v, v = (v12.alloc (.cells #[.int .i64 2, .int .i64 1, .string ⟨#[]⟩, .int .i64 3, .int .i64 0, .string ⟨#[]⟩, .int .i64 0, .int .i64 0, .string ⟨#[]⟩, .int .i64 0, .int .i64 0, .string ⟨#[]⟩] 37)) := ⟨_, rfl⟩
        have D6 : Hid (v12.grownBy v6 none) := Lib.hid (by rw [hv6]; exact World.grownBy_alloc v12 (.cells #[.int .i64 2, .int .i64 1, .string ⟨#[]⟩, .int .i64 3, .int .i64 0, .string ⟨#[]⟩, .int .i64 0, .int .i64 0, .string ⟨#[]⟩, .int .i64 0, .int .i64 0, .string ⟨#[]⟩] 37) none)
        have Z6 : Hid (w5.grownBy v6 none) := Lib.hid ((Z12.out).trans D6.out)
        have R6 : Hid (v6.heap[v12.heap.size]? = some (.cells #[.int .i64 2, .int .i64 1, .string ⟨#[]⟩, .int .i64 3, .int .i64 0, .string ⟨#[]⟩, .int .i64 0, .int .i64 0, .string ⟨#[]⟩, .int .i64 0, .int .i64 0, .string ⟨#[]⟩] 37 (0, 0))) := Lib.hid (by rw [hv6]; exact heap_alloc_new v12 (.cells #[.int .i64 2, .int .i64 1, .string ⟨#[]⟩, .int .i64 3, .int .i64 0, .string ⟨#[]⟩, .int .i64 0, .int .i64 0, .string ⟨#[]⟩, .int .i64 0, .int .i64 0, .string ⟨#[]⟩] 37))
        rw [← hv6]
        clear hv6
        obtain ⟨gr, hgr⟩ : ∃ g, g = v12.heap.size := ⟨_, rfl⟩
        rw [← hgr] at R6 ⊢
        have Hgr := Lib.hid hgr
        clear hgr
        have P6 := Lib.hid (blkD D6.out P12.out)
        refine hK.out _ _ Z6 (fun hHeld => ?_)
        clear hK K'
        simp only [Act.put, List.getElem_toArray, List.getElem_cons_succ, List.getElem_cons_zero, List.size_toArray, List.length_cons, List.length_nil, Nat.reduceAdd, Array.replicate, List.replicate, List.setIfInBounds_toArray, List.set_cons_zero, List.set_cons_succ]
        refine RD1 (i := 7) rfl (fun K' hK => ?_)
        go_simp
        obtain ⟨v7, hv7⟩ : ∃ v, v = (v6.alloc (.cells #[.slice (some ⟨gr, 0, none⟩) 4 4] 54)) := ⟨_, rfl⟩
        have D7 : Hid (v6.grownBy v7 none) := Lib.hid (by rw [hv7]; exact World.grownBy_alloc v6 (.cells #[.slice (some ⟨gr, 0, none⟩) 4 4] 54) none)
        have Z7 : Hid (w5.grownBy v7 none) := Lib.hid ((Z6.out).trans D7.out)
        have S7 : Hid (v7.heap[v6.heap.size]? = some (.cells #[.slice (some ⟨gr, 0, none⟩) 4 4] 54 (0, 0))) := Lib.hid (by rw [hv7]; exact heap_alloc_new v6 (.cells #[.slice (some ⟨gr, 0, none⟩) 4 4] 54))
        rw [← hv7]
        clear hv7
        obtain ⟨gs, hgs⟩ : ∃ g, g = v6.heap.size := ⟨_, rfl⟩
        rw [← hgs] at S7 ⊢
        have Hgs := Lib.hid hgs
        clear hgs
        have R7 := Lib.hid (blkD D7.out R6.out)
        have P7 := Lib.hid (blkD D7.out P6.out)
        refine hK.out _ _ Z7 (fun hHeld => ?_)
        clear hK K'
        simp only [Act.put, List.getElem_toArray, List.getElem_cons_succ, List.getElem_cons_zero, List.size_toArray, List.length_cons, List.length_nil, Nat.reduceAdd, Array.replicate, List.replicate, List.setIfInBounds_toArray, List.set_cons_zero, List.set_cons_succ]
        refine RD1 (i := 8) rfl (fun K' hK => ?_)
        go_simp
        have HOF := tof_any G ad ⟨#[116]⟩ a 4 catC 1 3 ⟨#[100]⟩ 0 (some ⟨gs, 0, none⟩) 1 [⟨some ⟨gr, 0, none⟩, 4, rowV 1 ⟨0, 0, ⟨#[]⟩⟩⟩] _ (HE.out.keep ((H5.out).trans Z7.out)) ((HC.out.keep ((GC5.out).trans Z7.out) (by simp)).mono ((GC5.out).trans Z7.out).size) catC_sz (by decide) (by decide) (rws_c R7.out S7.out) (by simp) (by simp) rwc_ok.1 rwc_ok.2 (by decide)
        rw [rwc_vs, aw17_c.1, aw17_c.2] at HOF
        go_at_call 10
        refine HOF.mono ?_
        rintro e v8 ⟨rfl, hg⟩
        have D8 := Lib.hid hg
        have Z8 : Hid (w5.grownBy v8 none) := Lib.hid (Z7.out.trans hg)
        clear HOF hg
        have R8 := Lib.hid (blkD D8.out R7.out)
        have S8 := Lib.hid (blkD D8.out S7.out)
        have P8 := Lib.hid (blkD D8.out P7.out)
        refine hK.out _ _ Z8 (fun hHeld => ?_)
        clear hK K'
        simp only [Act.put, List.getElem_toArray, List.getElem_cons_succ, List.getElem_cons_zero, List.size_toArray, List.length_cons, List.length_nil, Nat.reduceAdd, Array.replicate, List.replicate, List.setIfInBounds_toArray, List.set_cons_zero, List.set_cons_succ]
        refine TKB (i := 9) (v := ?v9z16k3) rfl ?y9z16k3 ?r9z16k3
        case y9z16k3 => (intro w hSw; (try dsimp only at hSw); go_simp; try with_reducible rfl)
        simp only [Act.put, List.getElem_toArray, List.getElem_cons_succ, List.getElem_cons_zero, List.size_toArray, List.length_cons, List.length_nil, Nat.reduceAdd, Array.replicate, List.replicate, List.setIfInBounds_toArray, List.set_cons_zero, List.set_cons_succ]
        refine TKB (i := 10) (v := ?v10z17k3) rfl ?y10z17k3 ?r10z17k3
        case y10z17k3 => (intro w hSw; (try dsimp only at hSw); go_simp; try with_reducible rfl)
        simp only [Act.put, List.getElem_toArray, List.getElem_cons_succ, List.getElem_cons_zero, List.size_toArray, List.length_cons, List.length_nil, Nat.reduceAdd, Array.replicate, List.replicate, List.setIfInBounds_toArray, List.set_cons_zero, List.set_cons_succ]
        refine TKB (i := 11) (v := ?v11z18k3) rfl ?y11z18k3 ?r11z18k3
        case y11z18k3 => (intro w hSw; (try dsimp only at hSw); go_simp; try with_reducible rfl)
        simp only [Act.put, List.getElem_toArray, List.getElem_cons_succ, List.getElem_cons_zero, List.size_toArray, List.length_cons, List.length_nil, Nat.reduceAdd, Array.replicate, List.replicate, List.setIfInBounds_toArray, List.set_cons_zero, List.set_cons_succ]
        refine RD1 (i := 13) rfl (fun K' hK => ?_)
        obtain ⟨⟨p0, p1, p2⟩, p3, p4, p5⟩ := three_of P8.out
        go_simp
        clear p0 p1 p2 p3 p4 p5
        have P13 := Lib.hid (set3 (u0 := .int .i64 0) (u1 := .int .i64 0) (u2 := .string ⟨#[]⟩) P8.out)
        have Z13 := Lib.hid (grown_set3 Z8.out (b := gp) (PLE.out) (.int .i64 0) (.int .i64 0) (.string ⟨#[]⟩))
        refine hK.out _ _ Z13 (fun hHeld => ?_)
        clear hK K'
        simp only [Act.put, List.getElem_toArray, List.getElem_cons_succ, List.getElem_cons_zero, List.size_toArray, List.length_cons, List.length_nil, Nat.reduceAdd, Array.replicate, List.replicate, List.setIfInBounds_toArray, List.set_cons_zero, List.set_cons_succ]
        refine TKB (i := 14) (v := ?v14z19k3) rfl ?y14z19k3 ?r14z19k3
        case y14z19k3 => (intro w hSw; (try dsimp only at hSw); go_simp; try with_reducible rfl)
        simp only [Act.put, List.getElem_toArray, List.getElem_cons_succ, List.getElem_cons_zero, List.size_toArray, List.length_cons, List.length_nil, Nat.reduceAdd, Array.replicate, List.replicate, List.setIfInBounds_toArray, List.set_cons_zero, List.set_cons_succ]
        refine wpAnyH_done (by kernel_rfl) ?_ _
        clear hHeld
        go_wp2_with fail
        go_meet
        case rel => exact ⟨gp, rfl, rfl, P13, Z13⟩
    · go_simp
      obtain ⟨v12, hv12⟩ : ∃ v, v = (w5.alloc (.cells #[.int .i64 0, .int .i64 0, .string ⟨#[]⟩] 37)).drew := ⟨_, rfl⟩
      have D12 : Hid (w5.grownBy v12 none) := Lib.hid (by rw [hv12]; exact grown_drewT (World.grownBy_alloc w5 (.cells #[.int .i64 0, .int .i64 0, .string ⟨#[]⟩] 37) none))
      have Z12 : Hid (w5.grownBy v12 none) := Lib.hid (((grown_reflX w5 none)).trans D12.out)
      have P12 : Hid (v12.heap[w5.heap.size]? = some (.cells #[.int .i64 0, .int .i64 0, .string ⟨#[]⟩] 37 (0, 0))) := Lib.hid (by rw [hv12]; exact heap_alloc_new w5 (.cells #[.int .i64 0, .int .i64 0, .string ⟨#[]⟩] 37))
      rw [← hv12]
      clear hv12
      obtain ⟨gp, hgp⟩ : ∃ g, g = w5.heap.size := ⟨_, rfl⟩
      rw [← hgp] at P12 ⊢
      have Hgp := Lib.hid hgp
      clear hgp
      have PLE : Hid (w5.heap.size ≤ gp) := Lib.hid (by rw [Hgp.out]; exact ((grown_reflX w5 none)).size)
      refine hK.out _ _ Z12 (fun hHeld => ?_)
      clear hK K'
      simp only [Act.put, List.getElem_toArray, List.getElem_cons_succ, List.getElem_cons_zero, List.size_toArray, List.length_cons, List.length_nil, Nat.reduceAdd, Array.replicate, List.replicate, List.setIfInBounds_toArray, List.set_cons_zero, List.set_cons_succ]
      refine RD1 (i := 2) rfl (fun K' hK => ?_)
      go_simp
      go_at_call 19
      refine (refInt_any 1 _).mono ?_
      rintro e v2 ⟨rfl, hv2⟩
      have D2 : Hid (v12.grownBy v2 none) := Lib.hid (by rw [← hv2]; exact World.grownBy_alloc _ _ none)
      have Z2 : Hid (w5.grownBy v2 none) := Lib.hid ((Z12.out).trans D2.out)
      clear hv2
      unfold vi
      have P2 := Lib.hid (blkD D2.out P12.out)
      refine hK.out _ _ Z2 (fun hHeld => ?_)
      clear hK K'
      simp only [Act.put, List.getElem_toArray, List.getElem_cons_succ, List.getElem_cons_zero, List.size_toArray, List.length_cons, List.length_nil, Nat.reduceAdd, Array.replicate, List.replicate, List.setIfInBounds_toArray, List.set_cons_zero, List.set_cons_succ]
      refine RD1 (i := 6) rfl (fun K' hK => ?_)
      go_simp
      obtain ⟨v6, hv6⟩ : ∃ v, v = (v2.alloc (.cells #[.int .i64 2, .int .i64 1, .string ⟨#[]⟩, .int .i64 3, .int .i64 0, .string ⟨#[]⟩, .int .i64 0, .int .i64 0, .string ⟨#[]⟩, .int .i64 0, .int .i64 0, .string ⟨#[]⟩] 37)) := ⟨_, rfl⟩
      have D6 : Hid (v2.grownBy v6 none) := Lib.hid (by rw [hv6]; exact World.grownBy_alloc v2 (.cells #[.int .i64 2, .int .i64 1, .string ⟨#[]⟩, .int .i64 3, .int .i64 0, .string ⟨#[]⟩, .int .i64 0, .int .i64 0, .string ⟨#[]⟩, .int .i64 0, .int .i64 0, .string ⟨#[]⟩] 37) none)
      have Z6 : Hid (w5.grownBy v6 none) := Lib.hid ((Z2.out).trans D6.out)
      have R6 : Hid (v6.heap[v2.heap.size]? = some (.cells #[.int .i64 2, .int .i64 1, .string ⟨#[]⟩, .int .i64 3, .int .i64 0, .string ⟨#[]⟩, .int .i64 0, .int .i64 0, .string ⟨#[]⟩, .int .i64 0, .int .i64 0, .string ⟨#[]⟩] 37 (0, 0))) := Lib.hid (by rw [hv6]; exact heap_alloc_new v2 (.cells #[.int .i64 2, .int .i64 1, .string ⟨#[]⟩, .int .i64 3, .int .i64 0, .string ⟨#[]⟩, .int .i64 0, .int .i64 0, .string ⟨#[]⟩, .int .i64 0, .int .i64 0, .string ⟨#[]⟩] 37))
      rw [← hv6]
      clear hv6
      obtain ⟨gr, hgr⟩ : ∃ g, g = v2.heap.size := ⟨_, rfl⟩
      rw [← hgr] at R6 ⊢
      have Hgr := Lib.hid hgr
      clear hgr
      have P6 := Lib.hid (blkD D6.out P2.out)
      refine hK.out _ _ Z6 (fun hHeld => ?_)
      clear hK K'
      simp only [Act.put, List.getElem_toArray, List.getElem_cons_succ, List.getElem_cons_zero, List.size_toArray, List.length_cons, List.length_nil, Nat.reduceAdd, Array.replicate, List.replicate, List.setIfInBounds_toArray, List.set_cons_zero, List.set_cons_succ]
      refine RD1 (i := 7) rfl (fun K' hK => ?_)
      go_simp
      obtain ⟨v7, hv7⟩ : ∃ v, v = (v6.alloc (.cells #[.slice (some ⟨gr, 0, none⟩) 4 4] 54)) := ⟨_, rfl⟩
      have D7 : Hid (v6.grownBy v7 none) := Lib.hid (by rw [hv7]; exact World.grownBy_alloc v6 (.cells #[.slice (some ⟨gr, 0, none⟩) 4 4] 54) none)
      have Z7 : Hid (w5.grownBy v7 none) := Lib.hid ((Z6.out).trans D7.out)
      have S7 : Hid (v7.heap[v6.heap.size]? = some (.cells #[.slice (some ⟨gr, 0, none⟩) 4 4] 54 (0, 0))) := Lib.hid (by rw [hv7]; exact heap_alloc_new v6 (.cells #[.slice (some ⟨gr, 0, none⟩) 4 4] 54))
      rw [← hv7]
      clear hv7
      obtain ⟨gs, hgs⟩ : ∃ g, g = v6.heap.size := ⟨_, rfl⟩
      rw [← hgs] at S7 ⊢
      have Hgs := Lib.hid hgs
      clear hgs
      have R7 := Lib.hid (blkD D7.out R6.out)
      have P7 := Lib.hid (blkD D7.out P6.out)
      refine hK.out _ _ Z7 (fun hHeld => ?_)
      clear hK K'
      simp only [Act.put, List.getElem_toArray, List.getElem_cons_succ, List.getElem_cons_zero, List.size_toArray, List.length_cons, List.length_nil, Nat.reduceAdd, Array.replicate, List.replicate, List.setIfInBounds_toArray, List.set_cons_zero, List.set_cons_succ]
      refine RD1 (i := 8) rfl (fun K' hK => ?_)
      go_simp
      have HOF := tof_any G ad ⟨#[116]⟩ a 4 catC 1 3 ⟨#[100]⟩ 0 (some ⟨gs, 0, none⟩) 1 [⟨some ⟨gr, 0, none⟩, 4, rowV 1 ⟨0, 0, ⟨#[]⟩⟩⟩] _ (HE.out.keep ((H5.out).trans Z7.out)) ((HC.out.keep ((GC5.out).trans Z7.out) (by simp)).mono ((GC5.out).trans Z7.out).size) catC_sz (by decide) (by decide) (rws_c R7.out S7.out) (by simp) (by simp) rwc_ok.1 rwc_ok.2 (by decide)
      rw [rwc_vs, aw17_c.1, aw17_c.2] at HOF
      go_at_call 10
      refine HOF.mono ?_
      rintro e v8 ⟨rfl, hg⟩
      have D8 := Lib.hid hg
      have Z8 : Hid (w5.grownBy v8 none) := Lib.hid (Z7.out.trans hg)
      clear HOF hg
      have R8 := Lib.hid (blkD D8.out R7.out)
      have S8 := Lib.hid (blkD D8.out S7.out)
      have P8 := Lib.hid (blkD D8.out P7.out)
      refine hK.out _ _ Z8 (fun hHeld => ?_)
      clear hK K'
      simp only [Act.put, List.getElem_toArray, List.getElem_cons_succ, List.getElem_cons_zero, List.size_toArray, List.length_cons, List.length_nil, Nat.reduceAdd, Array.replicate, List.replicate, List.setIfInBounds_toArray, List.set_cons_zero, List.set_cons_succ]
      refine TKB (i := 9) (v := ?v9z20k3) rfl ?y9z20k3 ?r9z20k3
      case y9z20k3 => (intro w hSw; (try dsimp only at hSw); go_simp; try with_reducible rfl)
      simp only [Act.put, List.getElem_toArray, List.getElem_cons_succ, List.getElem_cons_zero, List.size_toArray, List.length_cons, List.length_nil, Nat.reduceAdd, Array.replicate, List.replicate, List.setIfInBounds_toArray, List.set_cons_zero, List.set_cons_succ]
      refine TKB (i := 10) (v := ?v10z21k3) rfl ?y10z21k3 ?r10z21k3
      case y10z21k3 => (intro w hSw; (try dsimp only at hSw); go_simp; try with_reducible rfl)
      simp only [Act.put, List.getElem_toArray, List.getElem_cons_succ, List.getElem_cons_zero, List.size_toArray, List.length_cons, List.length_nil, Nat.reduceAdd, Array.replicate, List.replicate, List.setIfInBounds_toArray, List.set_cons_zero, List.set_cons_succ]
      refine TKB (i := 11) (v := ?v11z22k3) rfl ?y11z22k3 ?r11z22k3
      case y11z22k3 => (intro w hSw; (try dsimp only at hSw); go_simp; try with_reducible rfl)
      simp only [Act.put, List.getElem_toArray, List.getElem_cons_succ, List.getElem_cons_zero, List.size_toArray, List.length_cons, List.length_nil, Nat.reduceAdd, Array.replicate, List.replicate, List.setIfInBounds_toArray, List.set_cons_zero, List.set_cons_succ]
      refine RD1 (i := 13) rfl (fun K' hK => ?_)
      obtain ⟨⟨p0, p1, p2⟩, p3, p4, p5⟩ := three_of P8.out
      go_simp
      clear p0 p1 p2 p3 p4 p5
      have P13 := Lib.hid (set3 (u0 := .int .i64 0) (u1 := .int .i64 0) (u2 := .string ⟨#[]⟩) P8.out)
      have Z13 := Lib.hid (grown_set3 Z8.out (b := gp) (PLE.out) (.int .i64 0) (.int .i64 0) (.string ⟨#[]⟩))
      refine hK.out _ _ Z13 (fun hHeld => ?_)
      clear hK K'
      simp only [Act.put, List.getElem_toArray, List.getElem_cons_succ, List.getElem_cons_zero, List.size_toArray, List.length_cons, List.length_nil, Nat.reduceAdd, Array.replicate, List.replicate, List.setIfInBounds_toArray, List.set_cons_zero, List.set_cons_succ]
      refine TKB (i := 14) (v := ?v14z23k3) rfl ?y14z23k3 ?r14z23k3
      case y14z23k3 => (intro w hSw; (try dsimp only at hSw); go_simp; try with_reducible rfl)
      simp only [Act.put, List.getElem_toArray, List.getElem_cons_succ, List.getElem_cons_zero, List.size_toArray, List.length_cons, List.length_nil, Nat.reduceAdd, Array.replicate, List.replicate, List.setIfInBounds_toArray, List.set_cons_zero, List.set_cons_succ]
      refine wpAnyH_done (by kernel_rfl) ?_ _
      clear hHeld
      go_wp2_with fail
      go_meet
      case rel => exact ⟨gp, rfl, rfl, P13, Z13⟩
  case rest =>
  obtain ⟨gp7, rfl, rfl, PC, GC6⟩ := hcut
  rename World => w6
  have H6 := Lib.hid (H5.out.trans GC6.out)
  have PA6 := Lib.hid (blkD GC6.out PA5.out)
  clear T5 X5 H5 GC5 PA5 GC6 HC
  go_upto_region 6 with fail
  refine wp_region_held_drew (S := (fun W => Hid (w6.grownBy W none))) (by kernel_rfl) (Lib.hid (grown_drewT (grown_reflX w6 none))) (fun hHeld => ?_)
  refine TKB (i := 0) (v := ?v0z1k4) rfl ?y0z1k4 ?r0z1k4
  case y0z1k4 => (intro w hSw; (try dsimp only at hSw); go_simp; try with_reducible rfl)
  simp only [Act.put, List.getElem_toArray, List.getElem_cons_succ, List.getElem_cons_zero, List.size_toArray, List.length_cons, List.length_nil, Nat.reduceAdd, Array.replicate, List.replicate, List.setIfInBounds_toArray, List.set_cons_zero, List.set_cons_succ]
  refine TKB (i := 1) (v := ?v1z2k4) rfl ?y1z2k4 ?r1z2k4
  case y1z2k4 => (intro w hSw; (try dsimp only at hSw); go_simp; try with_reducible rfl)
  simp only [Act.put, List.getElem_toArray, List.getElem_cons_succ, List.getElem_cons_zero, List.size_toArray, List.length_cons, List.length_nil, Nat.reduceAdd, Array.replicate, List.replicate, List.setIfInBounds_toArray, List.set_cons_zero, List.set_cons_succ]
  refine TKB (i := 2) (v := ?v2z3k4) rfl ?y2z3k4 ?r2z3k4
  case y2z3k4 => (intro w hSw; (try dsimp only at hSw); go_simp; try with_reducible rfl)
  simp only [Act.put, List.getElem_toArray, List.getElem_cons_succ, List.getElem_cons_zero, List.size_toArray, List.length_cons, List.length_nil, Nat.reduceAdd, Array.replicate, List.replicate, List.setIfInBounds_toArray, List.set_cons_zero, List.set_cons_succ]
  refine TKA (i := 3) (v := .agg #[.int .i64 2, .int .i64 9223372036854775807, .string ⟨#[]⟩]) rfl (yieldsIf_load_mid (by rfl) _ _ rfl gp3 0 rfl _ _ (fun W hS => range_rowD (blkD hS.out PA6.out)) Tryz.underlying37 rfl vl_sizeT) ?_
  simp only [Act.put, List.getElem_toArray, List.getElem_cons_succ, List.getElem_cons_zero, List.size_toArray, List.length_cons, List.length_nil, Nat.reduceAdd, Array.replicate, List.replicate, List.setIfInBounds_toArray, List.set_cons_zero, List.set_cons_succ]
  refine RD1 (i := 4) rfl (fun K' hK => ?_)
  go_simp
  go_at_call 19
  refine (refInt_any 9223372036854775807 _).mono ?_
  rintro e v4 ⟨rfl, hv4⟩
  have Z4 : Hid (w6.grownBy v4 none) := Lib.hid (by rw [← hv4]; exact (grown_drewT (grown_reflX w6 none)).trans (World.grownBy_alloc _ _ none))
  clear hv4
  unfold vi
  refine hK.out _ _ Z4 (fun hHeld => ?_)
  clear hK K'
  simp only [Act.put, List.getElem_toArray, List.getElem_cons_succ, List.getElem_cons_zero, List.size_toArray, List.length_cons, List.length_nil, Nat.reduceAdd, Array.replicate, List.replicate, List.setIfInBounds_toArray, List.set_cons_zero, List.set_cons_succ]
  refine TKB (i := 5) (v := ?v5z4k4) rfl ?y5z4k4 ?r5z4k4
  case y5z4k4 => (intro w hSw; (try dsimp only at hSw); go_simp; try with_reducible rfl)
  simp only [Act.put, List.getElem_toArray, List.getElem_cons_succ, List.getElem_cons_zero, List.size_toArray, List.length_cons, List.length_nil, Nat.reduceAdd, Array.replicate, List.replicate, List.setIfInBounds_toArray, List.set_cons_zero, List.set_cons_succ]
  refine TKB (i := 6) (v := ?v6z5k4) rfl ?y6z5k4 ?r6z5k4
  case y6z5k4 => (intro w hSw; (try dsimp only at hSw); go_simp; try with_reducible rfl)
  simp only [Act.put, List.getElem_toArray, List.getElem_cons_succ, List.getElem_cons_zero, List.size_toArray, List.length_cons, List.length_nil, Nat.reduceAdd, Array.replicate, List.replicate, List.setIfInBounds_toArray, List.set_cons_zero, List.set_cons_succ]
  refine TKB (i := 7) (v := ?v7z6k4) rfl ?y7z6k4 ?r7z6k4
  case y7z6k4 => (intro w hSw; (try dsimp only at hSw); go_simp; try with_reducible rfl)
  simp only [Act.put, List.getElem_toArray, List.getElem_cons_succ, List.getElem_cons_zero, List.size_toArray, List.length_cons, List.length_nil, Nat.reduceAdd, Array.replicate, List.replicate, List.setIfInBounds_toArray, List.set_cons_zero, List.set_cons_succ]
  refine TKB (i := 8) (v := ?v8z7k4) rfl ?y8z7k4 ?r8z7k4
  case y8z7k4 => (intro w hSw; (try dsimp only at hSw); go_simp; try with_reducible rfl)
  simp only [Act.put, List.getElem_toArray, List.getElem_cons_succ, List.getElem_cons_zero, List.size_toArray, List.length_cons, List.length_nil, Nat.reduceAdd, Array.replicate, List.replicate, List.setIfInBounds_toArray, List.set_cons_zero, List.set_cons_succ]
  refine TKB (i := 9) (v := ?v9z8k4) rfl ?y9z8k4 ?r9z8k4
  case y9z8k4 => (intro w hSw; (try dsimp only at hSw); go_simp; try with_reducible rfl)
  simp only [Act.put, List.getElem_toArray, List.getElem_cons_succ, List.getElem_cons_zero, List.size_toArray, List.length_cons, List.length_nil, Nat.reduceAdd, Array.replicate, List.replicate, List.setIfInBounds_toArray, List.set_cons_zero, List.set_cons_succ]
  refine TKB (i := 10) (v := ?v10z9k4) rfl ?y10z9k4 ?r10z9k4
  case y10z9k4 => (intro w hSw; (try dsimp only at hSw); go_simp; try with_reducible rfl)
  simp only [Act.put, List.getElem_toArray, List.getElem_cons_succ, List.getElem_cons_zero, List.size_toArray, List.length_cons, List.length_nil, Nat.reduceAdd, Array.replicate, List.replicate, List.setIfInBounds_toArray, List.set_cons_zero, List.set_cons_succ]
  refine TKB (i := 11) (v := ?v11z10k4) rfl ?y11z10k4 ?r11z10k4
  case y11z10k4 => (intro w hSw; (try dsimp only at hSw); go_simp; try with_reducible rfl)
  simp only [Act.put, List.getElem_toArray, List.getElem_cons_succ, List.getElem_cons_zero, List.size_toArray, List.length_cons, List.length_nil, Nat.reduceAdd, Array.replicate, List.replicate, List.setIfInBounds_toArray, List.set_cons_zero, List.set_cons_succ]
  refine TKB (i := 12) (v := ?v12z11k4) rfl ?y12z11k4 ?r12z11k4
  case y12z11k4 => (intro w hSw; (try dsimp only at hSw); go_simp; try with_reducible rfl)
  simp only [Act.put, List.getElem_toArray, List.getElem_cons_succ, List.getElem_cons_zero, List.size_toArray, List.length_cons, List.length_nil, Nat.reduceAdd, Array.replicate, List.replicate, List.setIfInBounds_toArray, List.set_cons_zero, List.set_cons_succ]
  refine TKB (i := 13) (v := ?v13z12k4) rfl ?y13z12k4 ?r13z12k4
  case y13z12k4 => (intro w hSw; (try dsimp only at hSw); go_simp; try with_reducible rfl)
  simp only [Act.put, List.getElem_toArray, List.getElem_cons_succ, List.getElem_cons_zero, List.size_toArray, List.length_cons, List.length_nil, Nat.reduceAdd, Array.replicate, List.replicate, List.setIfInBounds_toArray, List.set_cons_zero, List.set_cons_succ]
  refine TKB (i := 14) (v := ?v14z13k4) rfl ?y14z13k4 ?r14z13k4
  case y14z13k4 => (intro w hSw; (try dsimp only at hSw); go_simp; try with_reducible rfl)
  simp only [Act.put, List.getElem_toArray, List.getElem_cons_succ, List.getElem_cons_zero, List.size_toArray, List.length_cons, List.length_nil, Nat.reduceAdd, Array.replicate, List.replicate, List.setIfInBounds_toArray, List.set_cons_zero, List.set_cons_succ]
  refine TKB (i := 15) (v := ?v15z14k4) rfl ?y15z14k4 ?r15z14k4
  case y15z14k4 => (intro w hSw; (try dsimp only at hSw); go_simp; try with_reducible rfl)
  simp only [Act.put, List.getElem_toArray, List.getElem_cons_succ, List.getElem_cons_zero, List.size_toArray, List.length_cons, List.length_nil, Nat.reduceAdd, Array.replicate, List.replicate, List.setIfInBounds_toArray, List.set_cons_zero, List.set_cons_succ]
  refine TKA (i := 16) (v := .agg #[.int .i64 0, .int .i64 0, .string ⟨#[]⟩]) rfl (yieldsIf_load_mid (by rfl) _ _ rfl gp7 0 rfl _ _ (fun W hS => range_rowD (blkD hS.out PC.out)) Tryz.underlying37 rfl vl_sizeT) ?_
  simp only [Act.put, List.getElem_toArray, List.getElem_cons_succ, List.getElem_cons_zero, List.size_toArray, List.length_cons, List.length_nil, Nat.reduceAdd, Array.replicate, List.replicate, List.setIfInBounds_toArray, List.set_cons_zero, List.set_cons_succ]
  refine TKB (i := 17) (v := ?v17z15k4) rfl ?y17z15k4 ?r17z15k4
  case y17z15k4 => (intro w hSw; (try dsimp only at hSw); go_simp; try with_reducible rfl)
  simp only [Act.put, List.getElem_toArray, List.getElem_cons_succ, List.getElem_cons_zero, List.size_toArray, List.length_cons, List.length_nil, Nat.reduceAdd, Array.replicate, List.replicate, List.setIfInBounds_toArray, List.set_cons_zero, List.set_cons_succ]
  refine TKB (i := 18) (v := ?v18z16k4) rfl ?y18z16k4 ?r18z16k4
  case y18z16k4 => (intro w hSw; (try dsimp only at hSw); go_simp; try with_reducible rfl)
  simp only [Act.put, List.getElem_toArray, List.getElem_cons_succ, List.getElem_cons_zero, List.size_toArray, List.length_cons, List.length_nil, Nat.reduceAdd, Array.replicate, List.replicate, List.setIfInBounds_toArray, List.set_cons_zero, List.set_cons_succ]
  refine TKB (i := 19) (v := ?v19z17k4) rfl ?y19z17k4 ?r19z17k4
  case y19z17k4 => (intro w hSw; (try dsimp only at hSw); go_simp; try with_reducible rfl)
  simp only [Act.put, List.getElem_toArray, List.getElem_cons_succ, List.getElem_cons_zero, List.size_toArray, List.length_cons, List.length_nil, Nat.reduceAdd, Array.replicate, List.replicate, List.setIfInBounds_toArray, List.set_cons_zero, List.set_cons_succ]
  refine TKB (i := 20) (v := ?v20z18k4) rfl ?y20z18k4 ?r20z18k4
  case y20z18k4 => (intro w hSw; (try dsimp only at hSw); go_simp; try with_reducible rfl)
  simp only [Act.put, List.getElem_toArray, List.getElem_cons_succ, List.getElem_cons_zero, List.size_toArray, List.length_cons, List.length_nil, Nat.reduceAdd, Array.replicate, List.replicate, List.setIfInBounds_toArray, List.set_cons_zero, List.set_cons_succ]
  refine wpAnyH_done (by kernel_rfl) ?_ _
  clear hHeld
  go_wp2_with fail
  go_ret
  exact ⟨rfl, H6.out.trans Z4.out⟩
end Go.Proofs.YtpklajadfbigcaaGreatDoor
namespace Go.Proofs.YtpklajadfbigcaaGreatDoor
open Go.RowKit
set_option linter.unusedVariables false
set_option linter.unusedSimpArgs false
def betV (o : Vl → Vl → Int) (out v : Vl) : Vl := if o v out < 0 then v else out
theorem nn_fold (o : Vl → Vl → Int) : ∀ (vs : List Vl) (out : Vl), vs.foldl (stepV o) out = (nnL vs).foldl (stepV o) out
  | [], _ => rfl
  | v :: vs, out => by
    unfold nnL
    rw [List.foldl_cons, List.filter_cons]
    by_cases h : v.k = 0
    · rw [if_neg (by simp [h]), show stepV o out v = out by unfold stepV; rw [if_pos h]]
      exact nn_fold o vs out
    · rw [if_pos (by simp [h]), List.foldl_cons]
      exact nn_fold o vs _
theorem nn_mem {vs : List Vl} {v : Vl} (h : v ∈ nnL vs) : v ∈ vs ∧ v.k ≠ 0 := by
  unfold nnL at h
  rw [List.mem_filter] at h
  exact ⟨h.1, by simpa using h.2⟩
theorem step_bet (o : Vl → Vl → Int) : ∀ (l : List Vl) (out : Vl), out.k ≠ 0 → (∀ v ∈ l, v.k ≠ 0) → l.foldl (stepV o) out = l.foldl (betV o) out
  | [], _, _, _ => rfl
  | v :: l, out, h, hl => by
    have hv := hl v (List.mem_cons_self ..)
    rw [List.foldl_cons, List.foldl_cons, show stepV o out v = betV o out v by unfold stepV betV; rw [if_neg hv, if_neg h]]
    refine step_bet o l _ ?_ (fun u hu => hl u (List.mem_cons_of_mem _ hu))
    unfold betV; split
    · exact hv
    · exact h
theorem ext_fold (o : Vl → Vl → Int) (vs : List Vl) (h : 0 < (nnL vs).length) (hself : ∀ v ∈ nnL vs, ¬ o v v < 0) : vs.foldl (stepV o) vlZ = (nnL vs).foldl (betV o) ((nnL vs).getD 0 default) := by
  rw [nn_fold]
  have hm : ∀ v ∈ nnL vs, v.k ≠ 0 := fun v hv => (nn_mem hv).2
  generalize nnL vs = l at *
  cases l with
  | nil => simp at h
  | cons v0 l =>
    have h0 := hm v0 (List.mem_cons_self ..)
    rw [List.foldl_cons, List.foldl_cons]
    rw [show stepV o vlZ v0 = v0 by unfold stepV; rw [if_neg h0]; exact if_pos rfl]
    show _ = l.foldl (betV o) (betV o v0 v0)
    rw [show betV o v0 v0 = v0 by unfold betV; rw [if_neg (hself v0 (List.mem_cons_self ..))]]
    exact step_bet o l v0 h0 (fun u hu => hm u (List.mem_cons_of_mem _ hu))
theorem ofV_ext4 (vs : List Vl) (h : 0 < (nnL vs).length) (hs : True) : ofV 4 vs = (nnL vs).foldl (betV Vl.ord) ((nnL vs).getD 0 default) := by
  show vs.foldl (stepV Vl.ord) vlZ = _
  exact ext_fold _ vs h (fun v _ => by rw [Vl.ord_zero.2 rfl]; decide)
theorem ofV_ext5 (vs : List Vl) (h : 0 < (nnL vs).length) (hs : True) : ofV 5 vs = (nnL vs).foldl (betV fun x y => y.ord x) ((nnL vs).getD 0 default) := by
  show vs.foldl (stepV fun x y => y.ord x) vlZ = _
  exact ext_fold _ vs h (fun v _ => by rw [Vl.ord_zero.2 rfl]; decide)
theorem betV_good (o : Vl → Vl → Int) (l : List Vl) (hg : ∀ v ∈ l, v.good = true ∧ v.s.size ≤ maxLen) (h : 0 < l.length) (k : Nat) : ((l.take k).foldl (betV o) (l.getD 0 default)).good = true ∧ ((l.take k).foldl (betV o) (l.getD 0 default)).s.size ≤ maxLen := by
  have h0 := hg (l.getD 0 default) (by rw [List.getD_eq_getElem?_getD, List.getElem?_eq_getElem h]; exact List.getElem_mem _)
  have : ∀ (m : List Vl) (out : Vl), (∀ v ∈ m, v.good = true ∧ v.s.size ≤ maxLen) → (out.good = true ∧ out.s.size ≤ maxLen) → (m.foldl (betV o) out).good = true ∧ (m.foldl (betV o) out).s.size ≤ maxLen := by
    intro m
    induction m with
    | nil => exact fun out _ h => h
    | cons v m ih =>
      intro out hm ho
      rw [List.foldl_cons]
      refine ih _ (fun u hu => hm u (List.mem_cons_of_mem _ hu)) ?_
      unfold betV; split
      · exact hm v (List.mem_cons_self ..)
      · exact ho
  exact this _ _ (fun v hv => hg v (List.mem_of_mem_take hv)) h0
theorem someN_nn : ∀ vs : List Vl, someN vs = (nnL vs).length := by
  have : ∀ (l : List Vl) (s : Int), l.foldl (fun s v => cntS v s) s = s + (nnL l).length := by
    intro l
    induction l with
    | nil => intro s; simp [nnL]
    | cons v l ih =>
      intro s
      rw [List.foldl_cons, ih]
      unfold nnL cntS
      rw [List.filter_cons]
      by_cases h : v.k = 0 <;> simp [h] <;> omega
  intro vs
  have := this vs 0
  unfold someN
  omega
theorem sumX_nn : ∀ vs : List Vl, sumX vs = sumX (nnL vs) := by
  have : ∀ (l : List Vl) (x : BitVec 128), l.foldl (fun x v => cntX v x) x = (nnL l).foldl (fun x v => cntX v x) x := by
    intro l
    induction l with
    | nil => intro x; rfl
    | cons v l ih =>
      intro x
      unfold nnL
      rw [List.foldl_cons, List.filter_cons]
      by_cases h : v.k = 0
      · rw [if_neg (by simp [h]), show cntX v x = x by unfold cntX; rw [if_neg (by omega)]]
        exact ih x
      · rw [if_pos (by simp [h]), List.foldl_cons]
        exact ih _
  exact fun vs => this vs 0#128
set_option maxRecDepth 100000 in
set_option maxHeartbeats 12800000 in
theorem rof_any (TN : ByteArray) (ta : Option Addr) (tcap : Nat) (cs : List Cl) (TK : Int) (g : Int) (M : ByteArray) (P : Int) (la : Option Addr) (lcap : Nat) (ls : List Rwm) (w : World) (hC : ColsAt w.heap.size w ta cs) (hc : g = 1 ∨ colN M cs < cs.length)
    (hR : RwsAt w.heap.size w la ls) (hlc : ls.length ≤ lcap) (hn : ls.length ≤ 1000) (hf : ∀ x ∈ ls, x.l.length = cs.length) (hb : ∀ v ∈ nnL (ls.map (rowC M cs)), v.good = true ∧ v.s.size ≤ maxLen ∧ In64 v ∧ (g = 3 → v.k = 2)) (hg : 1 ≤ g ∧ g ≤ 5) :
    Calls Tryz.prog 11 #[.agg #[.string TN, .slice ta cs.length tcap, .int .i64 TK], .agg #[.int .i64 g, .string M, .int .i64 P], .slice la ls.length lcap] w fun e w' => e = .returned (.tuple #[.agg #[.int .i64 (ofV g (ls.map (rowC M cs))).k, .int .i64 (ofV g (ls.map (rowC M cs))).n, .string (ofV g (ls.map (rowC M cs))).s], .int .i64 (ofC g (ls.map (rowC M cs)))]) ∧ w.grownBy w' none := by
  have HV := Lib.hid (fun (h : colN M cs < cs.length) W (hW : w.grownBy W none) => values17_any TN ta tcap cs TK M la lcap ls W ((hC.keep hW (by simp)).mono hW.size) h (by have := hR.keep hW; exact ⟨this.1, fun x hx => ⟨(this.2.1 x hx).1.mono1 hW.size, (this.2.1 x hx).2⟩, this.2.2.imp id fun ⟨b, off, e, hlt, hc⟩ => ⟨b, off, e, Nat.lt_of_lt_of_le hlt hW.size, hc⟩⟩) hlc hn hf)
  have hvl : (ls.map (rowC M cs)).length = ls.length := List.length_map _
  have hnl := nnL_le (ls.map (rowC M cs))
  generalize ls.map (rowC M cs) = vs at *
  obtain ⟨⟨rk, rm, rs⟩, hrv⟩ : ∃ r, r = ofV g vs := ⟨_, rfl⟩
  obtain ⟨rc, hrc⟩ : ∃ r, r = ofC g vs := ⟨_, rfl⟩
  rw [← hrv, ← hrc]
  have HRV := Lib.hid hrv
  have HRC := Lib.hid hrc
  clear hrv hrc
  dsimp only
  have HN := Lib.hid (fun n W => refInt_any n W)
  obtain ⟨n, hnn⟩ : ∃ n, n = ls.length := ⟨_, rfl⟩
  rw [← hnn] at HV hvl hlc hn ⊢
  clear hnn hC hR hf
  rw [hvl] at hnl
  obtain ⟨cn, hcn⟩ : ∃ cn, cn = cs.length := ⟨_, rfl⟩
  rw [← hcn] at HV hc ⊢
  clear hcn
  generalize colN M cs = N at *
  have S1 := World.size_alloc w (.cells #[.string TN, .slice ta cn tcap, .int .i64 TK] 24)
  have T1 := heap_alloc_new w (.cells #[.string TN, .slice ta cn tcap, .int .i64 TK] 24)
  have G1 := World.grownBy_alloc w (.cells #[.string TN, .slice ta cn tcap, .int .i64 TK] 24) none
  generalize hw1 : w.alloc (.cells #[.string TN, .slice ta cn tcap, .int .i64 TK] 24) = w1 at *
  have S2 := World.size_alloc w1 (.cells #[.int .i64 g, .string M, .int .i64 P] 27)
  have X2 := heap_alloc_new w1 (.cells #[.int .i64 g, .string M, .int .i64 P] 27)
  have G2 := World.grownBy_alloc w1 (.cells #[.int .i64 g, .string M, .int .i64 P] 27) none
  generalize hw2 : w1.alloc (.cells #[.int .i64 g, .string M, .int .i64 P] 27) = w2 at *
  have R3 := heap_alloc_new w2 (.cells #[.int .i64 0, .int .i64 0, .string ⟨#[]⟩] 37)
  have G3 := World.grownBy_alloc w2 (.cells #[.int .i64 0, .int .i64 0, .string ⟨#[]⟩] 37) none
  generalize hw3 : w2.alloc (.cells #[.int .i64 0, .int .i64 0, .string ⟨#[]⟩] 37) = w3 at *
  have T3 := Lib.hid (blkD (G2.trans G3) T1)
  have X3 := Lib.hid (blkD G3 X2)
  have R3 := Lib.hid R3
  have GG3 := Lib.hid (G1.trans (G2.trans G3))
  rw [S1] at X3
  rw [S2, S1] at R3
  clear T1 X2 G1 G2 G3
  obtain ⟨gt, hgt⟩ : ∃ gt, gt = w.heap.size := ⟨_, rfl⟩
  have HG := Lib.hid hgt
  go_enter Tryz.func11, Tryz.ntmps11
  go_upto_region 1 with fail
  try rw [hw1, hw2, hw3]
  rw [← hgt] at T3 X3 R3 ⊢
  clear hgt hw1 hw2 hw3 S1 S2
  obtain ⟨⟨t0, t1, t2⟩, t3, t4, t5⟩ := three_of T3.out
  obtain ⟨⟨x0, x1, x2⟩, x3, x4, x5⟩ := three_of X3.out
  obtain ⟨⟨r0, r1, r2⟩, r3, r4, r5⟩ := three_of R3.out
  by_cases h1 : g = 1
  · subst h1
    have e1 : (⟨rk, rm, rs⟩ : Vl) = ⟨2, (n : Nat), ⟨#[]⟩⟩ := by rw [HRV.out]; unfold ofV; rw [if_neg (by decide), if_neg (by decide), hvl]; rfl
    obtain ⟨rfl, rfl, rfl⟩ : rk = 2 ∧ rm = (n : Nat) ∧ rs = ⟨#[]⟩ := by injection e1 with q1 q2 q3; exact ⟨q1, q2, q3⟩
    have hc0 : rc = 0 := HRC.out
    subst hc0
    clear HRV HRC HV hb e1 hc
    go_wp2_with fail
    refine (HN.out n _).mono ?_
    rintro e w4 ⟨rfl, rfl⟩
    have R4 := Lib.hid (blkD (World.grownBy_alloc w3 (.cells #[.int .i64 2, .int .i64 n, .string ⟨#[]⟩] 37) none) R3.out)
    have G4 := Lib.hid (GG3.out.trans (World.grownBy_alloc w3 (.cells #[.int .i64 2, .int .i64 n, .string ⟨#[]⟩] 37) none))
    clear t0 t1 t2 t3 t4 t5 x0 x1 x2 x3 x4 x5 r0 r1 r2 r3 r4 r5
    generalize w3.alloc (.cells #[.int .i64 2, .int .i64 n, .string ⟨#[]⟩] 37) = w4 at *
    obtain ⟨⟨r0, r1, r2⟩, r3, r4, r5⟩ := three_of R4.out
    unfold vi
    go_wp2_with fail
    exact bodyPost_ret (results_vl2 rfl _ _ (gt + 1 + 1) #[.int .i64 2, .int .i64 n, .string ⟨#[]⟩] rfl rfl (set3 R4.out)) rfl ⟨rfl, grown_set3 G4.out (by rw [← HG.out]; omega) _ _ _⟩
  have hcol : N < cn := hc.resolve_left h1
  have g1 : (g == 1) = false := beq_eq_false_iff_ne.2 h1
  go_wp2_with fail
  refine (HV.out hcol _ GG3.out).mono ?_
  rintro e w5 ⟨⟨a5, c5, rfl, hW, hB⟩, hg5⟩
  have X5 := Lib.hid (blkD hg5 X3.out)
  have R5 := Lib.hid (blkD hg5 R3.out)
  have G5 := Lib.hid (GG3.out.trans hg5)
  have W5 := Lib.hid hW
  obtain ⟨nn, hnneq⟩ : ∃ nn, nn = nnL vs := ⟨_, rfl⟩
  have hsn : someN vs = nn.length := by rw [hnneq]; exact someN_nn vs
  have hsx : sumX vs = sumX nn := by rw [hnneq]; exact sumX_nn vs
  rw [← hnneq] at W5 hb hnl ⊢
  have hle := W5.out.le
  have HAt : Hid (∀ W, w5.grownBy W none → ∀ k, k < nn.length → ∃ b off, a5 = some ⟨b, off, none⟩ ∧ W.rangeAt b (off + k * 3) [.int .i64 (nn.getD k default).k, .int .i64 (nn.getD k default).n, .string (nn.getD k default).s]) := Lib.hid (fun W hWg k hk => by
    obtain ⟨b, off, e, _, _, hc⟩ := (win_cells (S := fun _ => True) (W5.out.keepG hWg) (fun _ _ => trivial)).elem (c := Vl.cc) (n := 3) (fun _ => rfl) (by decide) hk
    exact ⟨b, off, e, fun j u hj => hc j u hj⟩)
  clear hW hB hg5 t0 t1 t2 t3 t4 t5 x0 x1 x2 x3 x4 x5 r0 r1 r2 r3 r4 r5 X3 R3 GG3 HV T3
  have hgood : ∀ v ∈ nn, v.good = true ∧ v.s.size ≤ maxLen := fun v hv => ⟨(hb v hv).1, (hb v hv).2.1⟩
  have hE4 : 0 < nn.length → ofV 4 vs = nn.foldl (betV Vl.ord) (nn.getD 0 default) := by rw [hnneq]; exact fun h => ofV_ext4 vs h trivial
  have hE5 : 0 < nn.length → ofV 5 vs = nn.foldl (betV fun x y => y.ord x) (nn.getD 0 default) := by rw [hnneq]; exact fun h => ofV_ext5 vs h trivial
  have hE0 : nn.length = 0 → ∀ o, vs.foldl (stepV o) vlZ = vlZ := by
    rw [hnneq]; intro h o; rw [nn_fold, List.eq_nil_of_length_eq_zero h]; rfl
  by_cases h2 : g = 2
  · subst h2
    have e1 : (⟨rk, rm, rs⟩ : Vl) = ⟨2, (nn.length : Nat), ⟨#[]⟩⟩ := by rw [HRV.out]; unfold ofV; rw [if_neg (by decide), if_neg (by decide), hsn]; rfl
    obtain ⟨rfl, rfl, rfl⟩ : rk = 2 ∧ rm = (nn.length : Nat) ∧ rs = ⟨#[]⟩ := by injection e1 with q1 q2 q3; exact ⟨q1, q2, q3⟩
    have hc0 : rc = 0 := HRC.out
    subst hc0
    clear HRV HRC hb e1 hc hsn hsx HAt W5 hgood hE4 hE5 hE0 hnneq g1 h1
    obtain ⟨⟨x0, x1, x2⟩, x3, x4, x5⟩ := three_of X5.out
    go_wp2_with fail
    refine (HN.out nn.length _).mono ?_
    rintro e w6 ⟨rfl, rfl⟩
    have R6 := Lib.hid (blkD (World.grownBy_alloc w5 (.cells #[.int .i64 2, .int .i64 (nn.length : Nat), .string ⟨#[]⟩] 37) none) R5.out)
    have G6 := Lib.hid (G5.out.trans (World.grownBy_alloc w5 (.cells #[.int .i64 2, .int .i64 (nn.length : Nat), .string ⟨#[]⟩] 37) none))
    clear x0 x1 x2 x3 x4 x5
    generalize w5.alloc (.cells #[.int .i64 2, .int .i64 (nn.length : Nat), .string ⟨#[]⟩] 37) = w6 at *
    obtain ⟨⟨r0, r1, r2⟩, r3, r4, r5⟩ := three_of R6.out
    unfold vi
    go_wp2_with fail
    exact bodyPost_ret (results_vl2 rfl _ _ (gt + 1 + 1) #[.int .i64 2, .int .i64 (nn.length : Nat), .string ⟨#[]⟩] rfl rfl (set3 R6.out)) rfl ⟨rfl, grown_set3 G6.out (by rw [← HG.out]; omega) _ _ _⟩
  have g2 : (g == 2) = false := beq_eq_false_iff_ne.2 h2
  by_cases hz : nn.length = 0
  · have e1 : (⟨rk, rm, rs⟩ : Vl) = ⟨0, 0, ⟨#[]⟩⟩ ∧ rc = 0 := by
      have hx0 : sumX nn = 0#128 := by rw [List.eq_nil_of_length_eq_zero hz]; rfl
      have hf0 : Wd.fitB (0#128) = true := by decide +kernel
      refine ⟨?_, ?_⟩
      · rw [HRV.out]; unfold ofV
        rw [hE0 hz, hE0 hz, hsn, hsx, hx0, hz]
        split
        · rfl
        split
        · rfl
        unfold toldV
        rw [if_neg h1, if_neg h2]
        unfold sumV
        rw [if_pos hf0]; rfl
      · rw [HRC.out]; unfold ofC tellC
        rw [hsx, hx0, if_pos hf0]
        split <;> rfl
    obtain ⟨e1, rfl⟩ := e1
    obtain ⟨rfl, rfl, rfl⟩ : rk = 0 ∧ rm = 0 ∧ rs = ⟨#[]⟩ := by injection e1 with q1 q2 q3; exact ⟨q1, q2, q3⟩
    clear HRV HRC hb e1 hc hsn hsx HAt W5 hgood hE4 hE5 hE0 hnneq h1 h2
    obtain ⟨⟨x0, x1, x2⟩, x3, x4, x5⟩ := three_of X5.out
    obtain ⟨⟨r0, r1, r2⟩, r3, r4, r5⟩ := three_of R5.out
    rw [hz]
    go_wp2_with fail
    exact bodyPost_ret (results_vl2 rfl _ _ (gt + 1 + 1) #[.int .i64 0, .int .i64 0, .string ⟨#[]⟩] rfl rfl (set3 R5.out)) rfl ⟨rfl, grown_set3 G5.out (by rw [← HG.out]; omega) _ _ _⟩
  have hpos : 0 < nn.length := by omega
  have z1 : ((nn.length : Nat) == (0 : Int)) = false := by rw [beq_eq_false_iff_ne]; omega
  by_cases h3 : g = 3
  · subst h3
    have HS := Lib.hid (fun W (hW : w5.grownBy W none) => sum17_any a5 c5 nn W (win_cells (W5.out.keepG hW) (fun _ _ => trivial)) hle (by omega) (fun v hv => ⟨(hb v hv).2.2.2 rfl, (hb v hv).2.2.1⟩))
    have HV3 : (⟨rk, rm, rs⟩ : Vl) = if Wd.fitB (sumX nn) then ⟨2, (sumX nn).toInt, ⟨#[]⟩⟩ else ⟨0, 0, ⟨#[]⟩⟩ := by
      rw [HRV.out]; unfold ofV
      rw [if_neg (by decide), if_neg (by decide), hsn, hsx]
      unfold toldV
      rw [if_neg (by decide), if_neg (by decide)]
      unfold sumV
      rw [if_neg (show ¬ ((nn.length : Nat) : Int) = 0 by omega)]
      rfl
    have HC3 : rc = if Wd.fitB (sumX nn) then 0 else 24 := by
      rw [HRC.out]; unfold ofC tellC; rw [if_pos rfl, hsx]
    clear HRV HRC hb hc hsn hsx HAt hgood hE4 hE5 hE0 hnneq h1 h2 W5
    unfold Wd.intV at HS
    generalize (sumX nn).toInt = sn at *
    generalize nn.length = m at *
    obtain ⟨⟨x0, x1, x2⟩, x3, x4, x5⟩ := three_of X5.out
    cases hfb : Wd.fitB (sumX nn) with
    | true =>
      rw [hfb] at HV3 HC3 HS
      rw [if_pos rfl] at HV3 HC3 HS
      obtain ⟨rfl, rfl, rfl⟩ : rk = 2 ∧ rm = sn ∧ rs = ⟨#[]⟩ := by injection HV3 with q1 q2 q3; exact ⟨q1, q2, q3⟩
      subst HC3
      clear HV3 hfb
      go_wp2_with fail
      refine (HS.out _ (grown_reflT _ _)).mono ?_
      rintro e w6 ⟨rfl, hg6⟩
      have R6 := Lib.hid (blkD hg6 R5.out)
      have G6 := Lib.hid (G5.out.trans hg6)
      clear hg6 x0 x1 x2 x3 x4 x5 HS R5 G5
      go_wp2_with fail
      refine (HN.out rm _).mono ?_
      rintro e w7 ⟨rfl, rfl⟩
      have R7 := Lib.hid (blkD (World.grownBy_alloc w6 (.cells #[.int .i64 2, .int .i64 rm, .string ⟨#[]⟩] 37) none) R6.out)
      have G7 := Lib.hid (G6.out.trans (World.grownBy_alloc w6 (.cells #[.int .i64 2, .int .i64 rm, .string ⟨#[]⟩] 37) none))
      generalize w6.alloc (.cells #[.int .i64 2, .int .i64 rm, .string ⟨#[]⟩] 37) = w7 at *
      obtain ⟨⟨r0, r1, r2⟩, r3, r4, r5⟩ := three_of R7.out
      unfold vi
      go_wp2_with fail
      exact bodyPost_ret (results_vl2 rfl _ _ (gt + 1 + 1) #[.int .i64 2, .int .i64 rm, .string ⟨#[]⟩] rfl rfl (set3 R7.out)) rfl ⟨rfl, grown_set3 G7.out (by rw [← HG.out]; omega) _ _ _⟩
    | false =>
      rw [hfb] at HV3 HC3 HS
      rw [if_neg (by decide)] at HV3 HC3 HS
      obtain ⟨rfl, rfl, rfl⟩ : rk = 0 ∧ rm = 0 ∧ rs = ⟨#[]⟩ := by injection HV3 with q1 q2 q3; exact ⟨q1, q2, q3⟩
      subst HC3
      clear HV3 hfb
      go_wp2_with fail
      refine (HS.out _ (grown_reflT _ _)).mono ?_
      rintro e w6 ⟨rfl, hg6⟩
      have R6 := Lib.hid (blkD hg6 R5.out)
      have G6 := Lib.hid (G5.out.trans hg6)
      clear hg6 x0 x1 x2 x3 x4 x5 HS R5 G5
      obtain ⟨⟨r0, r1, r2⟩, r3, r4, r5⟩ := three_of R6.out
      go_wp2_with fail
      exact bodyPost_ret (results_vl2 rfl _ _ (gt + 1 + 1) #[.int .i64 0, .int .i64 0, .string ⟨#[]⟩] rfl rfl (set3 R6.out)) rfl ⟨rfl, grown_set3 G6.out (by rw [← HG.out]; omega) _ _ _⟩
  have hg4 : g = 4 ∨ g = 5 := by omega
  clear hb hsn hsx hE0 hz W5 h1 h2 g1 g2 hc
  clear h3
  rcases hg4 with rfl | rfl
  · skip
    have hm : 0 < nn.length := hpos
    obtain ⟨v0, hv0⟩ : ∃ v0, v0 = nn.getD 0 default := ⟨_, rfl⟩
    obtain ⟨fl, hfl⟩ : ∃ fl : Nat → Vl, fl = fun k => (nn.take k).foldl (betV Vl.ord) v0 := ⟨_, rfl⟩
    have F0 : Hid (fl 0 = v0) := Lib.hid (by rw [hfl]; rfl)
    have F1 : Hid (∀ k, k < nn.length → fl (k + 1) = betV Vl.ord (fl k) (nn.getD k default)) := Lib.hid (fun k hk => by rw [hfl]; exact take_foldl _ _ nn k hk)
    have FG : Hid (∀ k, k ≤ nn.length → (fl k).good = true ∧ (fl k).s.size ≤ maxLen) := Lib.hid (fun k hk => by
      rw [hfl, hv0]; exact betV_good _ nn hgood hm k)
    have FN : fl nn.length = ⟨rk, rm, rs⟩ := by
      rw [hfl]; show (nn.take nn.length).foldl _ _ = _
      rw [List.take_length, hv0]
      exact (HRV.out.trans (hE4 hm)).symm
    have hc0 : rc = 0 := HRC.out
    subst hc0
    have A0 := HAt.out w5 (grown_reflT _ _) 0 hm
    rw [← hv0] at A0
    obtain ⟨b, off, rfl, hx⟩ := A0
    have HGd : Hid (∀ k, k < nn.length → (nn.getD k default).good = true ∧ (nn.getD k default).s.size ≤ maxLen) := Lib.hid (fun k hk => hgood _ (by rw [List.getD_eq_getElem?_getD, List.getElem?_eq_getElem hk]; exact List.getElem_mem _))
    obtain ⟨vk, vn, vv⟩ := v0
    dsimp only at hx
    clear hv0 hfl hgood hE4 hE5 HRV HRC hpos
    generalize nn.length = m at *
    have c0 := hx 0 _ rfl
    have c1 := hx 1 _ rfl
    have c2 := hx 2 _ rfl
    simp only [Nat.zero_mul, Nat.add_zero] at c0 c1 c2
    have i1 : (0 : Int) < m := by omega
    have i2 : (0 : Int) < c5 := by omega
    clear hx
    have O6 := Lib.hid (heap_alloc_new w5 (.cells #[.int .i64 vk, .int .i64 vn, .string vv] 37))
    have G56 := Lib.hid (World.grownBy_alloc w5 (.cells #[.int .i64 vk, .int .i64 vn, .string vv] 37) none)
    obtain ⟨⟨x0, x1, x2⟩, x3, x4, x5⟩ := three_of X5.out
    go_upto_region 14 with fail
    generalize w5.alloc (.cells #[.int .i64 vk, .int .i64 vn, .string vv] 37) = w6 at *
    obtain ⟨go, hgo⟩ : ∃ go, go = w5.heap.size := ⟨_, rfl⟩
    have HGO := Lib.hid hgo
    rw [← hgo] at O6 ⊢
    clear hgo c0 c1 c2 x0 x1 x2 x3 x4 x5
    go_wp2_with fail
    go_loopw [53] (fun s53 wr => ∃ k : Nat, s53 = .int .i64 k ∧ k ≤ m ∧ Hid (wr.heap[go]? = some (.cells #[.int .i64 (fl k).k, .int .i64 (fl k).n, .string (fl k).s] 37 (0, 0))) ∧ Hid (w5.grownBy wr none)) (fun s53 _ => m - (intOf s53).toNat)
    case atStart => exact ⟨0, rfl, Nat.zero_le _, Lib.hid (by rw [F0.out]; exact O6.out), G56⟩
    case round =>
      obtain ⟨k, rfl, hk, KO, KG⟩ := hrel
      clear O6 G56
      by_cases hlt : k < m
      · obtain ⟨b', off', e', hx⟩ := HAt.out wr KG.out k hlt
        obtain ⟨rfl, rfl⟩ : b = b' ∧ off = off' := by cases e'; exact ⟨rfl, rfl⟩
        have XR := Lib.hid hx
        have HFk := Lib.hid (F1.out k hlt)
        have hgx := HGd.out k hlt
        have hgy := FG.out k hk
        have HCm : Hid (∀ W, Calls Tryz.prog 32 #[.agg #[.int .i64 (nn.getD k default).k, .int .i64 (nn.getD k default).n, .string (nn.getD k default).s], .agg #[.int .i64 (fl k).k, .int .i64 (fl k).n, .string (fl k).s]] W fun e w' => e = .returned (.int .i64 ((nn.getD k default).ord (fl k))) ∧ W.grownBy w' none) := Lib.hid (fun W => (refCmpV_any _ _ W hgx.1 hgy.1 hgx.2).mono fun e w' ⟨h1, h2⟩ => ⟨h1, grown_belowX h2 none⟩)
        have HB : Hid (betV Vl.ord (fl k) (nn.getD k default) = if (nn.getD k default).ord (fl k) < 0 then nn.getD k default else fl k) := Lib.hid (by unfold betV; rfl)
        rw [HB.out] at HFk
        clear hx hgx hgy e' HB
        generalize nn.getD k default = x at *
        obtain ⟨y, hy⟩ : ∃ y, y = fl k := ⟨_, rfl⟩
        rw [← hy] at HFk KO HCm
        obtain ⟨z, hz⟩ : ∃ z, z = fl (k + 1) := ⟨_, rfl⟩
        have HZ := Lib.hid hz
        rw [← hz] at HFk
        clear hy hz
        obtain ⟨xk, xn, xs⟩ := x
        obtain ⟨yk, yn, ys⟩ := y
        dsimp only at *
        generalize Vl.ord ⟨xk, xn, xs⟩ ⟨yk, yn, ys⟩ = r at *
        have i0 : (0 : Int) ≤ k := by omega
        have i1 : (k : Int) < m := by omega
        have i2 : (k : Int) < c5 := by omega
        go_upto_region 17 with fail
        refine wp_region_held_drew (S := (fun W => Hid (wr.grownBy W none))) (by kernel_rfl) (Lib.hid (grown_drewT (grown_reflX wr none))) (fun hHeld => ?_)
        refine TKA (i := 4) (v := .agg #[.int .i64 yk, .int .i64 yn, .string ys]) rfl (yieldsIf_load_mid (by rfl) _ _ rfl go 0 rfl _ _ (fun W hS => range_rowD (blkD hS.out KO.out)) Tryz.underlying37 rfl vl_szU) ?_
        simp only [Act.put, List.getElem_toArray, List.getElem_cons_succ, List.getElem_cons_zero, List.size_toArray, List.length_cons, List.length_nil, Nat.reduceAdd, Array.replicate, List.replicate, List.setIfInBounds_toArray, List.set_cons_zero, List.set_cons_succ]
        refine TKB (i := 0) (v := ?v0z1r1) rfl ?y0z1r1 ?r0z1r1
        case y0z1r1 => (intro w hSw; (try dsimp only at hSw); go_simp; try with_reducible rfl)
        simp only [Act.put, List.getElem_toArray, List.getElem_cons_succ, List.getElem_cons_zero, List.size_toArray, List.length_cons, List.length_nil, Nat.reduceAdd, Array.replicate, List.replicate, List.setIfInBounds_toArray, List.set_cons_zero, List.set_cons_succ]
        refine TKB (i := 1) (v := ?v1z2r1) rfl ?y1z2r1 ?r1z2r1
        case y1z2r1 => (intro w hSw; (try dsimp only at hSw); go_simp; try with_reducible rfl)
        simp only [Act.put, List.getElem_toArray, List.getElem_cons_succ, List.getElem_cons_zero, List.size_toArray, List.length_cons, List.length_nil, Nat.reduceAdd, Array.replicate, List.replicate, List.setIfInBounds_toArray, List.set_cons_zero, List.set_cons_succ]
        refine TKB (i := 2) (v := ?v2z3r1) rfl ?y2z3r1 ?r2z3r1
        case y2z3r1 => (intro w hSw; (try dsimp only at hSw); go_simp; try with_reducible rfl)
        simp only [Act.put, List.getElem_toArray, List.getElem_cons_succ, List.getElem_cons_zero, List.size_toArray, List.length_cons, List.length_nil, Nat.reduceAdd, Array.replicate, List.replicate, List.setIfInBounds_toArray, List.set_cons_zero, List.set_cons_succ]
        refine TKA (i := 3) (v := .agg #[.int .i64 xk, .int .i64 xn, .string xs]) rfl (yieldsIf_load_mid (by rfl) _ _ rfl b (off + k * 3) (by first | rfl | (simp [Addr.add]; done)) _ _ (fun W hS j u hj => hS.out.cell (XR.out j u hj) (by simp)) Tryz.underlying37 rfl vl_szU) ?_
        simp only [Act.put, List.getElem_toArray, List.getElem_cons_succ, List.getElem_cons_zero, List.size_toArray, List.length_cons, List.length_nil, Nat.reduceAdd, Array.replicate, List.replicate, List.setIfInBounds_toArray, List.set_cons_zero, List.set_cons_succ]
        refine RD1 (i := 5) rfl (fun K' hK => ?_)
        go_simp
        go_at_call 32
        refine (HCm.out _).mono ?_
        rintro e w6 ⟨rfl, hg⟩
        have Z6 : Hid (wr.grownBy w6 none) := Lib.hid ((grown_drewT (grown_reflX wr none)).trans hg)
        clear hg
        refine hK.out _ _ Z6 (fun hHeld => ?_)
        clear hK K'
        simp only [Act.put, List.getElem_toArray, List.getElem_cons_succ, List.getElem_cons_zero, List.size_toArray, List.length_cons, List.length_nil, Nat.reduceAdd, Array.replicate, List.replicate, List.setIfInBounds_toArray, List.set_cons_zero, List.set_cons_succ]
        refine TKB (i := 6) (v := ?v6z4r1) rfl ?y6z4r1 ?r6z4r1
        case y6z4r1 => (intro w hSw; (try dsimp only at hSw); go_simp; try with_reducible rfl)
        simp only [Act.put, List.getElem_toArray, List.getElem_cons_succ, List.getElem_cons_zero, List.size_toArray, List.length_cons, List.length_nil, Nat.reduceAdd, Array.replicate, List.replicate, List.setIfInBounds_toArray, List.set_cons_zero, List.set_cons_succ]
        refine wpAnyH_done (by kernel_rfl) ?_ _
        clear hHeld
        have X6 := Lib.hid (blkD (KG.out.trans Z6.out) X5.out)
        have O7 := Lib.hid (blkD Z6.out KO.out)
        have G7 := Lib.hid (KG.out.trans Z6.out)
        obtain ⟨⟨x0, x1, x2⟩, x3, x4, x5⟩ := three_of X6.out
        obtain ⟨⟨q0, q1, q2⟩, q3, q4, q5⟩ := three_of O7.out
        have c0 := Z6.out.cell (XR.out 0 _ rfl) (by simp)
        have c1 := Z6.out.cell (XR.out 1 _ rfl) (by simp)
        have c2 := Z6.out.cell (XR.out 2 _ rfl) (by simp)
        simp only [Nat.add_zero] at c0
        by_cases hr : r < 0
        · have e1 : z = ⟨xk, xn, xs⟩ := by rw [HFk.out, if_pos hr]
          subst e1
          clear HFk HCm XR KO KG X6
          go_wp2_with fail
          go_roundw
          case rel => exact ⟨k + 1, by go_num, by omega, Lib.hid (by rw [← HZ.out]; exact set3 O7.out), Lib.hid (grown_set3 G7.out (by rw [HGO.out]; exact Nat.le_refl _) _ _ _)⟩
          case measure => simp [intOf]; omega
        · have e1 : z = ⟨yk, yn, ys⟩ := by rw [HFk.out, if_neg hr]
          subst e1
          clear HFk HCm XR KO KG X6
          go_wp2_with fail
          go_roundw
          case rel => exact ⟨k + 1, by go_num, by omega, Lib.hid (by rw [← HZ.out]; exact O7.out), G7⟩
          case measure => simp [intOf]; omega
      · obtain rfl : k = m := by omega
        rw [FN] at KO
        have R6 := Lib.hid (blkD KG.out R5.out)
        have G6 := Lib.hid (G5.out.trans KG.out)
        clear HAt HGd F0 F1 FG KG
        obtain ⟨⟨q0, q1, q2⟩, q3, q4, q5⟩ := three_of KO.out
        obtain ⟨⟨r0, r1, r2⟩, r3, r4, r5⟩ := three_of R6.out
        go_wp2_with fail
        exact bodyPost_ret (results_vl2 rfl _ _ (gt + 1 + 1) #[.int .i64 rk, .int .i64 rm, .string rs] rfl rfl (set3 R6.out)) rfl ⟨rfl, grown_set3 G6.out (by rw [← HG.out]; omega) _ _ _⟩
  · skip
    have hm : 0 < nn.length := hpos
    obtain ⟨v0, hv0⟩ : ∃ v0, v0 = nn.getD 0 default := ⟨_, rfl⟩
    obtain ⟨fl, hfl⟩ : ∃ fl : Nat → Vl, fl = fun k => (nn.take k).foldl (betV (fun x y : Vl => y.ord x)) v0 := ⟨_, rfl⟩
    have F0 : Hid (fl 0 = v0) := Lib.hid (by rw [hfl]; rfl)
    have F1 : Hid (∀ k, k < nn.length → fl (k + 1) = betV (fun x y : Vl => y.ord x) (fl k) (nn.getD k default)) := Lib.hid (fun k hk => by rw [hfl]; exact take_foldl _ _ nn k hk)
    have FG : Hid (∀ k, k ≤ nn.length → (fl k).good = true ∧ (fl k).s.size ≤ maxLen) := Lib.hid (fun k hk => by
      rw [hfl, hv0]; exact betV_good _ nn hgood hm k)
    have FN : fl nn.length = ⟨rk, rm, rs⟩ := by
      rw [hfl]; show (nn.take nn.length).foldl _ _ = _
      rw [List.take_length, hv0]
      exact (HRV.out.trans (hE5 hm)).symm
    have hc0 : rc = 0 := HRC.out
    subst hc0
    have A0 := HAt.out w5 (grown_reflT _ _) 0 hm
    rw [← hv0] at A0
    obtain ⟨b, off, rfl, hx⟩ := A0
    have HGd : Hid (∀ k, k < nn.length → (nn.getD k default).good = true ∧ (nn.getD k default).s.size ≤ maxLen) := Lib.hid (fun k hk => hgood _ (by rw [List.getD_eq_getElem?_getD, List.getElem?_eq_getElem hk]; exact List.getElem_mem _))
    obtain ⟨vk, vn, vv⟩ := v0
    dsimp only at hx
    clear hv0 hfl hgood hE4 hE5 HRV HRC hpos
    generalize nn.length = m at *
    have c0 := hx 0 _ rfl
    have c1 := hx 1 _ rfl
    have c2 := hx 2 _ rfl
    simp only [Nat.zero_mul, Nat.add_zero] at c0 c1 c2
    have i1 : (0 : Int) < m := by omega
    have i2 : (0 : Int) < c5 := by omega
    clear hx
    have O6 := Lib.hid (heap_alloc_new w5 (.cells #[.int .i64 vk, .int .i64 vn, .string vv] 37))
    have G56 := Lib.hid (World.grownBy_alloc w5 (.cells #[.int .i64 vk, .int .i64 vn, .string vv] 37) none)
    obtain ⟨⟨x0, x1, x2⟩, x3, x4, x5⟩ := three_of X5.out
    go_upto_region 14 with fail
    generalize w5.alloc (.cells #[.int .i64 vk, .int .i64 vn, .string vv] 37) = w6 at *
    obtain ⟨go, hgo⟩ : ∃ go, go = w5.heap.size := ⟨_, rfl⟩
    have HGO := Lib.hid hgo
    rw [← hgo] at O6 ⊢
    clear hgo c0 c1 c2 x0 x1 x2 x3 x4 x5
    go_wp2_with fail
    go_loopw [53] (fun s53 wr => ∃ k : Nat, s53 = .int .i64 k ∧ k ≤ m ∧ Hid (wr.heap[go]? = some (.cells #[.int .i64 (fl k).k, .int .i64 (fl k).n, .string (fl k).s] 37 (0, 0))) ∧ Hid (w5.grownBy wr none)) (fun s53 _ => m - (intOf s53).toNat)
    case atStart => exact ⟨0, rfl, Nat.zero_le _, Lib.hid (by rw [F0.out]; exact O6.out), G56⟩
    case round =>
      obtain ⟨k, rfl, hk, KO, KG⟩ := hrel
      clear O6 G56
      by_cases hlt : k < m
      · obtain ⟨b', off', e', hx⟩ := HAt.out wr KG.out k hlt
        obtain ⟨rfl, rfl⟩ : b = b' ∧ off = off' := by cases e'; exact ⟨rfl, rfl⟩
        have XR := Lib.hid hx
        have HFk := Lib.hid (F1.out k hlt)
        have hgx := HGd.out k hlt
        have hgy := FG.out k hk
        have HCm : Hid (∀ W, Calls Tryz.prog 32 #[.agg #[.int .i64 (nn.getD k default).k, .int .i64 (nn.getD k default).n, .string (nn.getD k default).s], .agg #[.int .i64 (fl k).k, .int .i64 (fl k).n, .string (fl k).s]] W fun e w' => e = .returned (.int .i64 ((nn.getD k default).ord (fl k))) ∧ W.grownBy w' none) := Lib.hid (fun W => (refCmpV_any _ _ W hgx.1 hgy.1 hgx.2).mono fun e w' ⟨h1, h2⟩ => ⟨h1, grown_belowX h2 none⟩)
        have HB : Hid (betV (fun x y : Vl => y.ord x) (fl k) (nn.getD k default) = if (nn.getD k default).ord (fl k) > 0 then nn.getD k default else fl k) := Lib.hid (by unfold betV; show (if (fl k).ord (nn.getD k default) < 0 then nn.getD k default else fl k) = _; rw [show (nn.getD k default).ord (fl k) = - ((fl k).ord (nn.getD k default)) from ordC_turn _ _ _ _ _ _]; congr 1; exact propext (by omega))
        rw [HB.out] at HFk
        clear hx hgx hgy e' HB
        generalize nn.getD k default = x at *
        obtain ⟨y, hy⟩ : ∃ y, y = fl k := ⟨_, rfl⟩
        rw [← hy] at HFk KO HCm
        obtain ⟨z, hz⟩ : ∃ z, z = fl (k + 1) := ⟨_, rfl⟩
        have HZ := Lib.hid hz
        rw [← hz] at HFk
        clear hy hz
        obtain ⟨xk, xn, xs⟩ := x
        obtain ⟨yk, yn, ys⟩ := y
        dsimp only at *
        generalize Vl.ord ⟨xk, xn, xs⟩ ⟨yk, yn, ys⟩ = r at *
        have i0 : (0 : Int) ≤ k := by omega
        have i1 : (k : Int) < m := by omega
        have i2 : (k : Int) < c5 := by omega
        go_upto_region 17 with fail
        refine wp_region_held_drew (S := (fun W => Hid (wr.grownBy W none))) (by kernel_rfl) (Lib.hid (grown_drewT (grown_reflX wr none))) (fun hHeld => ?_)
        refine TKA (i := 4) (v := .agg #[.int .i64 yk, .int .i64 yn, .string ys]) rfl (yieldsIf_load_mid (by rfl) _ _ rfl go 0 rfl _ _ (fun W hS => range_rowD (blkD hS.out KO.out)) Tryz.underlying37 rfl vl_szU) ?_
        simp only [Act.put, List.getElem_toArray, List.getElem_cons_succ, List.getElem_cons_zero, List.size_toArray, List.length_cons, List.length_nil, Nat.reduceAdd, Array.replicate, List.replicate, List.setIfInBounds_toArray, List.set_cons_zero, List.set_cons_succ]
        refine TKB (i := 0) (v := ?v0z1r2) rfl ?y0z1r2 ?r0z1r2
        case y0z1r2 => (intro w hSw; (try dsimp only at hSw); go_simp; try with_reducible rfl)
        simp only [Act.put, List.getElem_toArray, List.getElem_cons_succ, List.getElem_cons_zero, List.size_toArray, List.length_cons, List.length_nil, Nat.reduceAdd, Array.replicate, List.replicate, List.setIfInBounds_toArray, List.set_cons_zero, List.set_cons_succ]
        refine TKB (i := 1) (v := ?v1z2r2) rfl ?y1z2r2 ?r1z2r2
        case y1z2r2 => (intro w hSw; (try dsimp only at hSw); go_simp; try with_reducible rfl)
        simp only [Act.put, List.getElem_toArray, List.getElem_cons_succ, List.getElem_cons_zero, List.size_toArray, List.length_cons, List.length_nil, Nat.reduceAdd, Array.replicate, List.replicate, List.setIfInBounds_toArray, List.set_cons_zero, List.set_cons_succ]
        refine TKB (i := 2) (v := ?v2z3r2) rfl ?y2z3r2 ?r2z3r2
        case y2z3r2 => (intro w hSw; (try dsimp only at hSw); go_simp; try with_reducible rfl)
        simp only [Act.put, List.getElem_toArray, List.getElem_cons_succ, List.getElem_cons_zero, List.size_toArray, List.length_cons, List.length_nil, Nat.reduceAdd, Array.replicate, List.replicate, List.setIfInBounds_toArray, List.set_cons_zero, List.set_cons_succ]
        refine TKA (i := 3) (v := .agg #[.int .i64 xk, .int .i64 xn, .string xs]) rfl (yieldsIf_load_mid (by rfl) _ _ rfl b (off + k * 3) (by first | rfl | (simp [Addr.add]; done)) _ _ (fun W hS j u hj => hS.out.cell (XR.out j u hj) (by simp)) Tryz.underlying37 rfl vl_szU) ?_
        simp only [Act.put, List.getElem_toArray, List.getElem_cons_succ, List.getElem_cons_zero, List.size_toArray, List.length_cons, List.length_nil, Nat.reduceAdd, Array.replicate, List.replicate, List.setIfInBounds_toArray, List.set_cons_zero, List.set_cons_succ]
        refine RD1 (i := 5) rfl (fun K' hK => ?_)
        go_simp
        go_at_call 32
        refine (HCm.out _).mono ?_
        rintro e w6 ⟨rfl, hg⟩
        have Z6 : Hid (wr.grownBy w6 none) := Lib.hid ((grown_drewT (grown_reflX wr none)).trans hg)
        clear hg
        refine hK.out _ _ Z6 (fun hHeld => ?_)
        clear hK K'
        simp only [Act.put, List.getElem_toArray, List.getElem_cons_succ, List.getElem_cons_zero, List.size_toArray, List.length_cons, List.length_nil, Nat.reduceAdd, Array.replicate, List.replicate, List.setIfInBounds_toArray, List.set_cons_zero, List.set_cons_succ]
        refine TKB (i := 6) (v := ?v6z4r2) rfl ?y6z4r2 ?r6z4r2
        case y6z4r2 => (intro w hSw; (try dsimp only at hSw); go_simp; try with_reducible rfl)
        simp only [Act.put, List.getElem_toArray, List.getElem_cons_succ, List.getElem_cons_zero, List.size_toArray, List.length_cons, List.length_nil, Nat.reduceAdd, Array.replicate, List.replicate, List.setIfInBounds_toArray, List.set_cons_zero, List.set_cons_succ]
        refine wpAnyH_done (by kernel_rfl) ?_ _
        clear hHeld
        have X6 := Lib.hid (blkD (KG.out.trans Z6.out) X5.out)
        have O7 := Lib.hid (blkD Z6.out KO.out)
        have G7 := Lib.hid (KG.out.trans Z6.out)
        obtain ⟨⟨x0, x1, x2⟩, x3, x4, x5⟩ := three_of X6.out
        obtain ⟨⟨q0, q1, q2⟩, q3, q4, q5⟩ := three_of O7.out
        have c0 := Z6.out.cell (XR.out 0 _ rfl) (by simp)
        have c1 := Z6.out.cell (XR.out 1 _ rfl) (by simp)
        have c2 := Z6.out.cell (XR.out 2 _ rfl) (by simp)
        simp only [Nat.add_zero] at c0
        by_cases hr : r > 0
        · have e1 : z = ⟨xk, xn, xs⟩ := by rw [HFk.out, if_pos hr]
          subst e1
          clear HFk HCm XR KO KG X6
          go_wp2_with fail
          go_roundw
          case rel => exact ⟨k + 1, by go_num, by omega, Lib.hid (by rw [← HZ.out]; exact set3 O7.out), Lib.hid (grown_set3 G7.out (by rw [HGO.out]; exact Nat.le_refl _) _ _ _)⟩
          case measure => simp [intOf]; omega
        · have e1 : z = ⟨yk, yn, ys⟩ := by rw [HFk.out, if_neg hr]
          subst e1
          clear HFk HCm XR KO KG X6
          go_wp2_with fail
          go_roundw
          case rel => exact ⟨k + 1, by go_num, by omega, Lib.hid (by rw [← HZ.out]; exact O7.out), G7⟩
          case measure => simp [intOf]; omega
      · obtain rfl : k = m := by omega
        rw [FN] at KO
        have R6 := Lib.hid (blkD KG.out R5.out)
        have G6 := Lib.hid (G5.out.trans KG.out)
        clear HAt HGd F0 F1 FG KG
        obtain ⟨⟨q0, q1, q2⟩, q3, q4, q5⟩ := three_of KO.out
        obtain ⟨⟨r0, r1, r2⟩, r3, r4, r5⟩ := three_of R6.out
        go_wp2_with fail
        exact bodyPost_ret (results_vl2 rfl _ _ (gt + 1 + 1) #[.int .i64 rk, .int .i64 rm, .string rs] rfl rfl (set3 R6.out)) rfl ⟨rfl, grown_set3 G6.out (by rw [← HG.out]; omega) _ _ _⟩
end Go.Proofs.YtpklajadfbigcaaGreatDoor
namespace Go.Proofs.YtpklajadfbigcaaGreatDoor
open Go.RowKit
set_option linter.unusedVariables false
set_option linter.unusedSimpArgs false
set_option maxRecDepth 100000 in
theorem refItemI_any (N : ByteArray) (a : Option Addr) (cap : Nat) (l : List Cl) (K : Int) (g : Nat) (c : ByteArray) (p : Int) (w : World) (h : ColsAt w.heap.size w a l) :
    Calls Tryz.prog 9 #[.agg #[.string N, .slice a l.length cap, .int .i64 K], .agg #[.int .i64 (g : Nat), .string c, .int .i64 p]] w fun e w' => (∃ k : Int, e = .returned (.tuple #[.int .i64 k, .int .i64 (itemC l g c)])) ∧ w.grownBy w' none := by
  have g1 := gq_al (gq_al (grown_reflT w none) (.cells #[.string N, .slice a l.length cap, .int .i64 K] 24)) (.cells #[.int .i64 (g : Nat), .string c, .int .i64 p] 27)
  have HC := Lib.hid (refKind_any N a cap l K c _ ((h.keep g1 (by simp)).mono g1.size))
  have A1 := Lib.hid (alc2a w (.cells #[.string N, .slice a l.length cap, .int .i64 K] 24) (.cells #[.int .i64 (g : Nat), .string c, .int .i64 p] 27))
  have B1 := Lib.hid (alc2b w (.cells #[.string N, .slice a l.length cap, .int .i64 K] 24) (.cells #[.int .i64 (g : Nat), .string c, .int .i64 p] 27))
  have G1 := Lib.hid g1
  obtain ⟨r, hr⟩ : ∃ r, r = itemC l g c := ⟨_, rfl⟩
  rw [← hr]
  have HR := Lib.hid hr
  unfold itemC at HR
  generalize kdS c l = ok at *
  generalize hn : l.length = n at *
  clear g1 h hr hn
  by_cases h1 : g = 1
  · have k1 : ((g : Int) == 1) = true := by rw [h1]; rfl
    have h0 : r = 0 := by rw [HR.out, if_pos h1]
    clear h1 HR
    subst h0
    go_enter Tryz.func9, Tryz.ntmps9
    obtain ⟨⟨v0, v1, v2⟩, e0, e1, e2⟩ := boxD3 B1.out
    go_wp2_with fail
    go_ret2
    exact ⟨⟨_, rfl⟩, G1.out⟩
  · have k1 : ((g : Int) == 1) = false := by rw [beq_eq_false_iff_ne]; omega
    have h01 : r = okS g ok := by rw [HR.out, if_neg h1]
    clear HR
    cases ok with
    | none =>
      obtain rfl : r = 15 := h01
      clear h1
      go_enter Tryz.func9, Tryz.ntmps9
      obtain ⟨⟨v0, v1, v2⟩, e0, e1, e2⟩ := boxD3 B1.out
      obtain ⟨⟨p0, p1, p2⟩, q0, q1, q2⟩ := boxD3 A1.out
      go_wp2_with fail
      refine (HC.out).mono ?_
      rintro e w2 ⟨rfl, hg⟩
      have G2 := Lib.hid (G1.out.trans hg)
      clear hg v0 v1 v2 e0 e1 e2 p0 p1 p2 q0 q1 q2
      go_wp2_with fail
      go_ret2
      exact ⟨⟨_, rfl⟩, G2.out⟩
    | some k =>
      replace h01 : r = if g = 3 ∧ k ≠ 2 then 16 else 0 := h01
      have H01 := Lib.hid h01
      clear h01 h1
      simp only [kdV, Option.getD_some, Option.isSome_some] at HC
      by_cases h3 : g = 3
      · have k3 : ((g : Int) == 3) = true := by rw [h3]; rfl
        have k32 : ((g : Int) == 2) = false := by rw [h3]; rfl
        have H3 := Lib.hid h3
        clear h3
        by_cases h2 : k = 2
        · have k2 : (k != 2) = false := by rw [h2]; rfl
          have h0 : r = 0 := by rw [H01.out, if_neg (by simp [h2])]
          clear h2 H01
          subst h0
          go_enter Tryz.func9, Tryz.ntmps9
          obtain ⟨⟨v0, v1, v2⟩, e0, e1, e2⟩ := boxD3 B1.out
          obtain ⟨⟨p0, p1, p2⟩, q0, q1, q2⟩ := boxD3 A1.out
          go_wp2_with fail
          refine (HC.out).mono ?_
          rintro e w2 ⟨rfl, hg⟩
          have B2 := Lib.hid (blkD hg B1.out)
          have G2 := Lib.hid (G1.out.trans hg)
          clear hg v0 v1 v2 e0 e1 e2 p0 p1 p2 q0 q1 q2
          obtain ⟨⟨v0, v1, v2⟩, e0, e1, e2⟩ := boxD3 B2.out
          go_wp2_with fail
          go_ret2
          exact ⟨⟨_, rfl⟩, G2.out⟩
        · have k2 : (k != 2) = true := by rw [bne_iff_ne]; exact h2
          have h0 : r = 16 := by rw [H01.out, if_pos ⟨H3.out, h2⟩]
          clear h2 H01
          subst h0
          go_enter Tryz.func9, Tryz.ntmps9
          obtain ⟨⟨v0, v1, v2⟩, e0, e1, e2⟩ := boxD3 B1.out
          obtain ⟨⟨p0, p1, p2⟩, q0, q1, q2⟩ := boxD3 A1.out
          go_wp2_with fail
          refine (HC.out).mono ?_
          rintro e w2 ⟨rfl, hg⟩
          have B2 := Lib.hid (blkD hg B1.out)
          have G2 := Lib.hid (G1.out.trans hg)
          clear hg v0 v1 v2 e0 e1 e2 p0 p1 p2 q0 q1 q2
          obtain ⟨⟨v0, v1, v2⟩, e0, e1, e2⟩ := boxD3 B2.out
          go_wp2_with fail
          go_ret2
          exact ⟨⟨_, rfl⟩, G2.out⟩
      · have k3 : ((g : Int) == 3) = false := by rw [beq_eq_false_iff_ne]; omega
        have h0 : r = 0 := by rw [H01.out, if_neg (by simp [h3])]
        clear h3 H01
        subst h0
        by_cases h2 : g = 2
        · have k2 : ((g : Int) == 2) = true := by rw [h2]; rfl
          clear h2
          go_enter Tryz.func9, Tryz.ntmps9
          obtain ⟨⟨v0, v1, v2⟩, e0, e1, e2⟩ := boxD3 B1.out
          obtain ⟨⟨p0, p1, p2⟩, q0, q1, q2⟩ := boxD3 A1.out
          go_wp2_with fail
          refine (HC.out).mono ?_
          rintro e w2 ⟨rfl, hg⟩
          have B2 := Lib.hid (blkD hg B1.out)
          have G2 := Lib.hid (G1.out.trans hg)
          clear hg v0 v1 v2 e0 e1 e2 p0 p1 p2 q0 q1 q2
          obtain ⟨⟨v0, v1, v2⟩, e0, e1, e2⟩ := boxD3 B2.out
          go_wp2_with fail
          go_ret2
          exact ⟨⟨_, rfl⟩, G2.out⟩
        · have k2 : ((g : Int) == 2) = false := by rw [beq_eq_false_iff_ne]; omega
          clear h2
          go_enter Tryz.func9, Tryz.ntmps9
          obtain ⟨⟨v0, v1, v2⟩, e0, e1, e2⟩ := boxD3 B1.out
          obtain ⟨⟨p0, p1, p2⟩, q0, q1, q2⟩ := boxD3 A1.out
          go_wp2_with fail
          refine (HC.out).mono ?_
          rintro e w2 ⟨rfl, hg⟩
          have B2 := Lib.hid (blkD hg B1.out)
          have G2 := Lib.hid (G1.out.trans hg)
          clear hg v0 v1 v2 e0 e1 e2 p0 p1 p2 q0 q1 q2
          obtain ⟨⟨v0, v1, v2⟩, e0, e1, e2⟩ := boxD3 B2.out
          go_wp2_with fail
          go_ret2
          exact ⟨⟨_, rfl⟩, G2.out⟩
theorem tnames_of {t : Tb} (h : RightG [t]) : (∀ c ∈ t.l, c.n.size ≤ maxLen) ∧ t.l.length ≤ 8 ∧ 1 ≤ t.l.length := by
  obtain ⟨⟨_, h1, h8⟩, ⟨_, _, _, hj⟩, _⟩ := h 0 (by simp)
  refine ⟨fun c hc => ?_, h8, h1⟩
  obtain ⟨j, hjl, rfl⟩ := List.getElem_of_mem hc
  have := (hj j hjl).1
  rw [show ([t].getD 0 default).l.getD j default = t.l[j] by show t.l.getD j default = _; rw [List.getD, List.getElem?_eq_getElem hjl]; rfl] at this
  unfold nameB at this
  simp only [Bool.and_eq_true, decide_eq_true_eq] at this
  unfold maxLen; omega
theorem tfine_of {v : Vv} (h : v.good = true) : (vlV v).fine := by
  refine ⟨h, ?_⟩
  have hg : goodB v.k v.n v.s = true := h
  unfold goodB at hg
  show v.s.size ≤ 60
  have he : v.s.toList.isEmpty = true → v.s.size ≤ 60 := fun e => by
    have h2 := toList_nil e
    have h3 : v.s.size = v.s.data.toList.length := (Array.length_toList (xs := v.s.data)).symm
    rw [h3, h2]; exact Nat.zero_le _
  split at hg
  · exact he (Bool.and_eq_true _ _ ▸ hg).2
  split at hg
  · exact he (Bool.and_eq_true _ _ ▸ hg).2
  split at hg
  · exact he hg
  split at hg
  · simp only [Bool.and_eq_true, decide_eq_true_eq] at hg
    exact hg.2
  · cases hg
theorem fits_fineR {cs : List Cl} {x : Rwm} (h : Fits cs x.l) : FineR cs x := by
  refine ⟨fun v hv => ?_, h.1⟩
  obtain ⟨i, hi, rfl⟩ := List.getElem_of_mem hv
  have := h.2 i (by rw [← h.1]; exact hi)
  rw [List.getD_eq_getElem?_getD (l := x.l), List.getElem?_eq_getElem hi] at this
  unfold holdsB at this
  rw [Bool.and_eq_true] at this
  exact tfine_of this.1
theorem rgtR_mem {l : List Cl} {ls : List Rwm} (h : RgtR l ls) {x : Rwm} (hx : x ∈ ls) : Fits l x.l := by
  obtain ⟨i, hi, rfl⟩ := List.getElem_of_mem hx
  have := h.2 i hi
  rwa [List.getD_eq_getElem?_getD, List.getElem?_eq_getElem hi] at this
theorem nn_ok {cs : List Cl} {ls : List Rwm} {M : ByteArray} {g : Nat} (h : RgtR cs ls) (hb : ∀ x ∈ ls, ∀ v ∈ x.l, In64 (vlV v)) (hc : itemC cs g M = 0) : ∀ v ∈ nnL (ls.map (rowC M cs)), v.good = true ∧ v.s.size ≤ maxLen ∧ In64 v ∧ ((g : Int) = 3 → v.k = 2) := by
  intro v hv
  obtain ⟨hm, hk⟩ := nn_mem hv
  obtain ⟨x, hx, rfl⟩ := List.mem_map.1 hm
  have hf := rgtR_mem h hx
  have hin := rowC_in (M := M) (cs := cs) (hb x hx)
  have hfn := fits_fineR hf
  unfold rowC colV at hk hin ⊢
  by_cases hcol : colN M cs < cs.length
  · rw [if_pos hcol] at hk hin ⊢
    have hlt : colN M cs < x.l.length := by rw [hf.1]; exact hcol
    have hmem : x.l.getD (colN M cs) default ∈ x.l := by rw [List.getD_eq_getElem?_getD, List.getElem?_eq_getElem hlt]; exact List.getElem_mem _
    have hfine := hfn.1 _ hmem
    refine ⟨hfine.1, by have := hfine.2; unfold maxLen; omega, hin, fun h3 => ?_⟩
    have hh := hf.2 _ hcol
    have hg3 : g = 3 := by omega
    subst hg3
    unfold itemC at hc
    rw [if_neg (by decide)] at hc
    unfold kdS at hc
    rw [if_pos hcol] at hc
    unfold okS at hc
    unfold holdsB at hh
    simp only [Bool.and_eq_true, Bool.or_eq_true, decide_eq_true_eq] at hh
    have hk' : (x.l.getD (colN M cs) default).k ≠ 0 := hk
    show (x.l.getD (colN M cs) default).k = 2
    rcases hh.2 with h1 | h1
    · rw [h1]
      by_cases h2 : (cs.getD (colN M cs) default).k = 2
      · exact h2
      · exact absurd ((if_pos (⟨rfl, h2⟩ : 3 = 3 ∧ (cs.getD (colN M cs) default).k ≠ 2)).symm.trans hc) (by decide)
    · exact absurd h1.1 hk'
  · rw [if_neg hcol] at hk; exact absurd rfl hk
theorem item_col {cs : List Cl} {M : ByteArray} {g : Nat} (hc : itemC cs g M = 0) : (g : Int) = 1 ∨ colN M cs < cs.length := by
  unfold itemC at hc
  by_cases h1 : g = 1
  · left; omega
  · rw [if_neg h1] at hc
    right
    unfold kdS at hc
    by_cases hcol : colN M cs < cs.length
    · exact hcol
    · rw [if_neg hcol] at hc; exact absurd (show (15 : Int) = 0 from hc) (by decide)
set_option maxRecDepth 100000 in
set_option maxHeartbeats 12800000 in
theorem TallyOf_any (G : Nat) (ad : Addr) (t : Tb) (gi : Int) (M : ByteArray) (P : Int) (la : Option Addr) (lcap : Nat) (ls : List Rwm) (w : World) (hE : TaEnv G ad w) (hC : ColsAt w.heap.size w t.a t.l) (hcap : t.l.length ≤ t.cap) (hN : t.n.size ≤ 9223372036854775807 ∧ ∀ i, i < t.l.length → (t.l.getD i default).n.size ≤ 9223372036854775807) (hM : M.size ≤ maxLen)
    (hR : RwsAt w.heap.size w la ls) (hlc : ls.length ≤ lcap) (hb : ∀ x ∈ ls, ∀ v ∈ x.l, In64 (vlV v)) :
    Calls Tryz.prog 3 #[.agg #[.string t.n, .slice t.a t.l.length t.cap, .int .i64 t.k], .agg #[.int .i64 gi, .string M, .int .i64 P], .slice la ls.length lcap] w fun e w' => e = .returned (.bool true) ∧ w.grownBy w' none := by
  have HA := Lib.hid (fun W (hW : w.grownBy W none) => awake17_any G ad W (hE.keep hW))
  have HGd := Lib.hid (fun W (hW : w.grownBy W none) => (goodS_any (some ⟨W.heap.size, 0, none⟩) 1 [t] (W.alloc (.cells #[.string t.n, .slice t.a t.l.length t.cap, .int .i64 t.k] 24)) (TabsAt.one (heap_alloc_new W _) (by simp) ((hC.keep (hW.trans (World.grownBy_alloc W (.cells #[.string t.n, .slice t.a t.l.length t.cap, .int .i64 t.k] 24) none)) (by simp)).mono (by have := hW.size; simp; omega))) (Nat.le_refl _) (by simpa using hcap) (by simpa using hN)))
  have HRt := Lib.hid (fun W (hW : w.grownBy W none) => lawRight_any t la lcap ls W ((hC.keep hW (by simp)).mono hW.size) hcap (hR.up hW) hlc)
  have HI := Lib.hid (fun (g : Nat) W (hW : w.grownBy W none) => refItemI_any t.n t.a t.cap t.l t.k g M P W ((hC.keep hW (by simp)).mono hW.size))
  have HO := Lib.hid (fun (g : Nat) (hg : 1 ≤ (g : Int) ∧ (g : Int) ≤ 5) (hr : RightG [t]) (hrt : RgtR t.l ls) W (hW : w.grownBy W none) => tof_any G ad t.n t.a t.cap t.l t.k g M P la lcap ls W (hE.keep hW) ((hC.keep hW (by simp)).mono hW.size) (tnames_of hr).1 (by have := (tnames_of hr).2.1; omega) hM (hR.up hW) hlc (by have := hrt.1; omega) (fun x hx => fits_fineR (rgtR_mem hrt hx)) hb hg)
  have HD := Lib.hid (fun (g : Nat) (hg : 1 ≤ (g : Int) ∧ (g : Int) ≤ 5) (hi : itemC t.l g M = 0) (hrt : RgtR t.l ls) W (hW : w.grownBy W none) => rof_any t.n t.a t.cap t.l t.k g M P la lcap ls W ((hC.keep hW (by simp)).mono hW.size) (item_col hi) (hR.up hW) hlc (by have := hrt.1; omega) (fun x hx => (rgtR_mem hrt hx).1) (nn_ok hrt hb hi) hg)
  clear hE hC hcap hN hM hR hb
  obtain ⟨tn, ta, tcap, tl, tk⟩ := t
  dsimp only at *
  obtain ⟨ln, hln⟩ : ∃ ln, ln = tl.length := ⟨_, rfl⟩
  obtain ⟨rn, hrn⟩ : ∃ rn, rn = ls.length := ⟨_, rfl⟩
  rw [← hln] at HGd HRt HI HO HD ⊢
  rw [← hrn] at HRt HO HD hlc ⊢
  clear hln hrn
  have hT1 := heap_alloc_new w (.cells #[.string tn, .slice ta ln tcap, .int .i64 tk] 24)
  have hG1 := World.grownBy_alloc w (.cells #[.string tn, .slice ta ln tcap, .int .i64 tk] 24) none
  have hs1 := World.size_alloc w (.cells #[.string tn, .slice ta ln tcap, .int .i64 tk] 24)
  have hX2 := heap_alloc_new (w.alloc (.cells #[.string tn, .slice ta ln tcap, .int .i64 tk] 24)) (.cells #[.int .i64 gi, .string M, .int .i64 P] 27)
  have hG2 := World.grownBy_alloc (w.alloc (.cells #[.string tn, .slice ta ln tcap, .int .i64 tk] 24)) (.cells #[.int .i64 gi, .string M, .int .i64 P] 27) none
  rw [hs1] at hX2
  have T2 := Lib.hid (blkD hG2 hT1)
  have X2 := Lib.hid hX2
  have G2 := Lib.hid (hG1.trans hG2)
  clear hT1 hG1 hs1 hX2 hG2
  go_enter Tryz.func3, Tryz.ntmps3
  go_upto_region 1 with fail
  generalize (w.alloc (.cells #[.string tn, .slice ta ln tcap, .int .i64 tk] 24)).alloc (.cells #[.int .i64 gi, .string M, .int .i64 P] 27) = w2 at *
  obtain ⟨gt, hgt⟩ : ∃ gt, gt = w.heap.size := ⟨_, rfl⟩
  rw [← hgt] at T2 X2 ⊢
  clear hgt
  go_wp2_with fail
  refine (HA.out w2 G2.out).mono ?_
  rintro e w3 ⟨rfl, hg⟩
  have T3 := Lib.hid (blkD hg T2.out)
  have X3 := Lib.hid (blkD hg X2.out)
  have G3 := Lib.hid (G2.out.trans hg)
  have g34 := World.grownBy_alloc w3 (.cells #[.string tn, .slice ta ln tcap, .int .i64 tk] 24) none
  have HG3 := Lib.hid (HGd.out w3 G3.out)
  have GB := Lib.hid g34
  clear hg g34 T2 X2 G2 HGd
  obtain ⟨⟨t0, t1, t2⟩, t3, t4, t5⟩ := three_of T3.out
  go_wp2_with fail
  refine HG3.out.mono ?_
  rintro e w4 ⟨⟨bg, rfl, hbg⟩, hg⟩
  have hg4 := GB.out.trans hg
  have T4 := Lib.hid (blkD hg4 T3.out)
  have X4 := Lib.hid (blkD hg4 X3.out)
  have G4 := Lib.hid (G3.out.trans hg4)
  have HBG := Lib.hid hbg
  clear hg hg4 hbg t0 t1 t2 t3 t4 t5 T3 X3 HG3 GB
  cases bg with
  | false =>
    go_wp2_with fail
    refine (HA.out w4 G4.out).mono ?_
    rintro e w5 ⟨rfl, hg⟩
    have G5 := Lib.hid (G4.out.trans hg)
    clear hg
    go_wp2_with fail
    go_ret
    exact ⟨rfl, G5.out⟩
  | true =>
  obtain ⟨⟨t0, t1, t2⟩, t3, t4, t5⟩ := three_of T4.out
  go_wp2_with fail
  refine (HRt.out w4 G4.out).mono ?_
  rintro e w5 ⟨⟨br, rfl, hbr⟩, hg⟩
  have T5 := Lib.hid (blkD hg T4.out)
  have X5 := Lib.hid (blkD hg X4.out)
  have G5 := Lib.hid (G4.out.trans hg)
  have HBR := Lib.hid hbr
  clear hg hbr t0 t1 t2 t3 t4 t5 T4 X4 HRt
  cases br with
  | false =>
    go_wp2_with fail
    refine (HA.out w5 G5.out).mono ?_
    rintro e w6 ⟨rfl, hg⟩
    have G6 := Lib.hid (G5.out.trans hg)
    clear hg
    go_wp2_with fail
    go_ret
    exact ⟨rfl, G6.out⟩
  | true =>
  have hR := (HBG.out.1 (by first | trivial | rfl)).1
  have hF := HBR.out.1 (by first | trivial | rfl)
  obtain ⟨⟨x0, x1, x2⟩, x3, x4, x5⟩ := three_of X5.out
  by_cases hlo : gi < 1
  · clear HI HO HD hR hF HBG HBR
    go_wp2_with fail
    refine (HA.out w5 G5.out).mono ?_
    rintro e w6 ⟨rfl, hg⟩
    have G6 := Lib.hid (G5.out.trans hg)
    clear hg
    go_wp2_with fail
    go_ret
    exact ⟨rfl, G6.out⟩
  by_cases hhi : 5 < gi
  · clear HI HO HD hR hF HBG HBR
    go_wp2_with fail
    refine (HA.out w5 G5.out).mono ?_
    rintro e w6 ⟨rfl, hg⟩
    have G6 := Lib.hid (G5.out.trans hg)
    clear hg
    go_wp2_with fail
    go_ret
    exact ⟨rfl, G6.out⟩
  obtain ⟨g, rfl⟩ := Int.eq_ofNat_of_zero_le (show 0 ≤ gi by omega)
  have hgg : 1 ≤ (g : Int) ∧ (g : Int) ≤ 5 := ⟨by omega, by omega⟩
  have HI5 := Lib.hid (fun W hW => HI.out g W hW)
  have HO5 := Lib.hid (fun W hW => HO.out g hgg hR hF W hW)
  have HD5 := Lib.hid (fun (hi : itemC tl g M = 0) W hW => HD.out g hgg hi hF W hW)
  clear HI HO HD hR hF HBG HBR hgg
  generalize hvs : ls.map (rowC M tl) = vs at *
  clear hvs
  obtain ⟨ic, hic⟩ : ∃ ic, ic = itemC tl g M := ⟨_, rfl⟩
  rw [← hic] at HI5 HD5
  clear hic
  obtain ⟨⟨vk, vn, vv⟩, hvv⟩ : ∃ v, v = ofV g vs := ⟨_, rfl⟩
  obtain ⟨vc, hvc⟩ : ∃ v, v = ofC g vs := ⟨_, rfl⟩
  rw [← hvv, ← hvc] at HO5 HD5
  clear hvv hvc
  dsimp only at HO5 HD5
  obtain ⟨⟨t0, t1, t2⟩, t3, t4, t5⟩ := three_of T5.out
  go_wp2_with fail
  refine (HI5.out w5 G5.out).mono ?_
  rintro e w6 ⟨⟨kk, rfl⟩, hg⟩
  have T6 := Lib.hid (blkD hg T5.out)
  have X6 := Lib.hid (blkD hg X5.out)
  have G6 := Lib.hid (G5.out.trans hg)
  clear hg t0 t1 t2 t3 t4 t5 x0 x1 x2 x3 x4 x5 T5 X5 HI5
  by_cases hi : ic = 0
  · replace HD5 := Lib.hid (HD5.out hi)
    subst hi
    obtain ⟨⟨t0, t1, t2⟩, t3, t4, t5⟩ := three_of T6.out
    obtain ⟨⟨x0, x1, x2⟩, x3, x4, x5⟩ := three_of X6.out
    go_wp2_with fail
    refine (HO5.out w6 G6.out).mono ?_
    rintro e w7 ⟨rfl, hg⟩
    have T7 := Lib.hid (blkD hg T6.out)
    have X7 := Lib.hid (blkD hg X6.out)
    have G7 := Lib.hid (G6.out.trans hg)
    have V8 := Lib.hid (heap_alloc_new w7 (.cells #[.int .i64 vk, .int .i64 vn, .string vv] 37))
    have g78 := World.grownBy_alloc w7 (.cells #[.int .i64 vk, .int .i64 vn, .string vv] 37) none
    have T8 := Lib.hid (blkD g78 T7.out)
    have X8 := Lib.hid (blkD g78 X7.out)
    have G8 := Lib.hid (G7.out.trans g78)
    clear hg g78 t0 t1 t2 t3 t4 t5 x0 x1 x2 x3 x4 x5 T6 X6 HO5
    go_upto_region 7 with fail
    generalize w7.alloc (.cells #[.int .i64 vk, .int .i64 vn, .string vv] 37) = w8 at *
    obtain ⟨⟨t0, t1, t2⟩, t3, t4, t5⟩ := three_of T8.out
    obtain ⟨⟨x0, x1, x2⟩, x3, x4, x5⟩ := three_of X8.out
    go_wp2_with fail
    refine (HD5.out w8 G8.out).mono ?_
    rintro e w9 ⟨rfl, hg⟩
    have V9 := Lib.hid (blkD hg V8.out)
    have G9 := Lib.hid (G8.out.trans hg)
    have U10 := Lib.hid (heap_alloc_new w9 (.cells #[.int .i64 vk, .int .i64 vn, .string vv] 37))
    have g910 := World.grownBy_alloc w9 (.cells #[.int .i64 vk, .int .i64 vn, .string vv] 37) none
    have V10 := Lib.hid (blkD g910 V9.out)
    have G10 := Lib.hid (G9.out.trans g910)
    clear hg g910 t0 t1 t2 t3 t4 t5 x0 x1 x2 x3 x4 x5
    go_upto_region 8 with fail
    generalize w9.alloc (.cells #[.int .i64 vk, .int .i64 vn, .string vv] 37) = w10 at *
    obtain ⟨⟨v0, v1, v2⟩, v3, v4, v5⟩ := three_of V10.out
    obtain ⟨⟨u0, u1, u2⟩, u3, u4, u5⟩ := three_of U10.out
    go_wp2_with fail
    go_ret
    exact ⟨by simp, G10.out⟩
  · have e1 : (ic == 0) = false := beq_eq_false_iff_ne.2 hi
    clear HO5 HD5
    go_wp2_with fail
    go_ret
    exact ⟨rfl, G6.out⟩
end Go.Proofs.YtpklajadfbigcaaGreatDoor
namespace Go.Proofs.YtpklajadfbigcaaGreatDoor
open Go.RowKit
theorem TallyOfL_any (t : Tb) (g : Int) (M : ByteArray) (P : Int) (la : Option Addr) (lcap : Nat) (ls : List Rwm) (w : World) (hC : ColsAt w.heap.size w t.a t.l) (hcap : t.l.length ≤ t.cap) (hN : t.n.size ≤ 9223372036854775807 ∧ ∀ i, i < t.l.length → (t.l.getD i default).n.size ≤ 9223372036854775807) (hM : M.size ≤ maxLen)
    (hR : RwsAt w.heap.size w la ls) (hlc : ls.length ≤ lcap) (hb : ∀ x ∈ ls, ∀ v ∈ x.l, In64 (vlV v)) (hL : laidMetH Tryz.prog laid17x w) :
    Calls Tryz.prog 3 #[.agg #[.string t.n, .slice t.a t.l.length t.cap, .int .i64 t.k], .agg #[.int .i64 g, .string M, .int .i64 P], .slice la ls.length lcap] w fun e w' => e = .returned (.bool true) ∧ Below w.heap.size w w' := by
  obtain ⟨ad, hE⟩ := taEnv_of hL
  exact (TallyOf_any w.heap.size ad t g M P la lcap ls w hE hC hcap hN hM hR hlc hb).mono fun e w' ⟨h1, h2⟩ => ⟨h1, below_grownL h2⟩
end Go.Proofs.YtpklajadfbigcaaGreatDoor
