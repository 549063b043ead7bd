/- The draft's claim, walked. -/
import Derived.Test.YtnfpomjcofhppaaGreatDoorZb28
namespace Go.Proofs.YtnfpomjcofhppaaGreatDoor
open Go.RowKit

theorem froz_of {w : World} {b : Nat} {cs : Array Value} {T : TypeId} (h : w.heap[b]? = some (.cells cs T (0, 0))) (o : Nat) : w.frozen? ⟨b, o, none⟩ = false := by simp [World.frozen?, h]
set_option maxRecDepth 100000 in
set_option maxHeartbeats 12800000 in
theorem claim_any (R : Nat → Prop) (D : Nat) (d : Dm) (o : Om) (w : World) (h : DAt R w D d) (hc : CatOk d.ts) (hcc : d.ts.length ≤ d.cc) (hl : d.sp.length ≤ 1000) (hr : RwS (fun b => ¬ d.M R D b) w o.r.a o.r.l) (hrc : o.r.l.length ≤ o.r.cap) :
    Calls Tryz.prog 62 #[.pointer (some ⟨D, 0, none⟩), o.v] w (Claimed R D d (claimM d.ts (d.sp.map Spt.p) o) w) := by
  have HN := Lib.hid (fun W (hW : w.grownBy W none) => number_any _ D d.ca d.cc d.ts o.n W (h.keepG hW).cat (cell_of_row _ _ 0 _ _ _ (h.keepG hW).blk))
  have HK := Lib.hid (fun (i : Nat) (hi : i < d.ts.length) W (hW : w.grownBy W none) => keyOf_any _ (fun b => ¬ d.M R D b ∧ b < w.heap.size) (d.ts.getD i default) o (d.ts.getD i default).k.toNat W ((h.keepG hW).cat.2.1 _ (tb_mem hi)) (by have := (hc.tab i hi).1; omega) (by have := (hc.tab i hi).1; omega) (by have := (hc.tab i hi).2.1; omega) (hc.tab i hi).2.2.2 ((hr.mono (fun b hb h => ⟨h, hb⟩)).keep (.of hW)) hrc)
  have HT := Lib.hid (fun (i : Nat) (hi : i < d.ts.length) => h.cat.at hi)
  have HS := Lib.hid (fun W (hW : w.grownBy W none) => SpA.of (h.keepG hW) (by omega))
  have HD := Lib.hid h
  have hblk := h.blk
  unfold dC at hblk
  obtain ⟨nt, hnt⟩ : ∃ n, n = d.ts.length := ⟨_, rfl⟩
  obtain ⟨ns, hns⟩ : ∃ n, n = d.sp.length := ⟨_, rfl⟩
  obtain ⟨nc, hnc⟩ : ∃ n, n = d.ch.length := ⟨_, rfl⟩
  rw [← hnt, ← hns, ← hnc] at hblk
  have hlt := h.lt
  have c0 := cell_of_row _ _ 0 _ _ _ hblk
  have c9 := cell_of_row _ _ 9 _ _ _ hblk
  have f9 := froz_of hblk 9
  simp at c0 c9
  obtain ⟨cm, hcm⟩ : ∃ cm, cm = claimM d.ts (d.sp.map Spt.p) o := ⟨_, rfl⟩
  rw [← hcm]
  have HCM := Lib.hid hcm
  clear hcm
  obtain ⟨km, hkm⟩ : ∃ km : Nat → Option (List Vl), km = fun i => keyM (d.ts.getD i default) o := ⟨_, rfl⟩
  have HKM := Lib.hid (fun i => show keyM (d.ts.getD i default) o = km i by rw [hkm])
  have hkm' : ∀ i, keyM (d.ts.getD i default) o = km i := fun i => HKM.out i
  simp only [hkm'] at HK
  clear hkm hkm'
  obtain ⟨ok, on, ⟨ra, rc, rl⟩⟩ := o
  simp only [Om.v] at HK HN ⊢
  simp only at hr hrc
  obtain ⟨q, hq⟩ : ∃ q, q = rl.length := ⟨_, rfl⟩
  rw [← hq] at HK ⊢
  have Hq := Lib.hid hq
  clear hq
  have A1 := heap_alloc_new w (cOp ok on ra q rc)
  have A2 := heap_alloc_new (w.alloc (cOp ok on ra q rc)) (cSp 0 none 0 0)
  have hs1 : (w.alloc (cOp ok on ra q rc)).heap.size = w.heap.size + 1 := by simp
  rw [hs1] at A2
  have g1 := World.grownBy_alloc (w.alloc (cOp ok on ra q rc)) (cSp 0 none 0 0) none
  have A1' := (g1.block w.heap.size (by rw [hs1]; omega) (by simp)).trans A1
  have hs2 : ((w.alloc (cOp ok on ra q rc)).alloc (cSp 0 none 0 0)).heap.size = w.heap.size + 1 + 1 := by simp
  have F := Lib.hid (fun W (hW : ((w.alloc (cOp ok on ra q rc)).alloc (cSp 0 none 0 0)).grownBy W none) => show W.heap[w.heap.size]? = some (cOp ok on ra q rc) ∧ W.heap[w.heap.size + 1]? = some (cSp 0 none 0 0) from ⟨(hW.block _ (by rw [hs2]; omega) (by simp)).trans A1', (hW.block _ (by rw [hs2]; omega) (by simp)).trans A2⟩)
  have K0 := Lib.hid ((World.grownBy_alloc w (cOp ok on ra q rc) none).trans g1)
  have FD := Lib.hid (fun W (hW : w.grownBy W none) => show W.cell? ⟨D, 0, none⟩ = some (.slice d.ca nt d.cc) ∧ W.cell? ⟨D, 9, none⟩ = some (.slice d.spa ns d.spc) ∧ W.frozen? ⟨D, 9, none⟩ = false from ⟨hW.cell c0 (by simp), hW.cell c9 (by simp), (World.frozen?_of_block (a := ⟨D, 9, none⟩) (hW.block D hlt (by simp))).trans f9⟩)
  have Hnt := Lib.hid (And.intro hnt (And.intro hns (And.intro hnc hl)))
  clear h hblk c0 c9 f9 hnt hns hnc A1 A1' A2 g1 hs1 hs2 hr hrc hl
  generalize hW0 : ((w.alloc (cOp ok on ra q rc)).alloc (cSp 0 none 0 0)) = W0 at F K0
  obtain ⟨b3, b4⟩ := F.out W0 (grown_reflT _ _)
  have x0 := cell_of_row _ _ 0 _ _ _ b3
  have x1 := cell_of_row _ _ 1 _ _ _ b3
  have x2 := cell_of_row _ _ 2 _ _ _ b3
  have y0 := cell_of_row _ _ 0 _ _ _ b4
  have y1 := cell_of_row _ _ 1 _ _ _ b4
  have z0 := froz_of b4 0
  have z1 := froz_of b4 1
  simp at x0 x1 x2 y0 y1
  have hBel : ∀ W, W0.grownBy W none → ∀ u v, w.grownBy ((W.setCell ⟨w.heap.size + 1, 0, none⟩ u).setCell ⟨w.heap.size + 1, 1, none⟩ v) none := fun W hW u v => grown_belowT (((below_grownT (K0.out.trans hW)).setCell (p := ⟨w.heap.size + 1, 0, none⟩) (by show w.heap.size ≤ w.heap.size + 1; omega) _).setCell (p := ⟨w.heap.size + 1, 1, none⟩) (by show w.heap.size ≤ w.heap.size + 1; omega) _) none
  have HBel := Lib.hid hBel
  clear hBel
  by_cases hk : ok ≠ 1 ∧ ok ≠ 2
  · have k1 : (ok != 1) = true := by simpa using hk.1
    have k2 : (ok != 2) = true := by simpa using hk.2
    have HC1 := Lib.hid (show cm = .error 1 from HCM.out.trans (by unfold claimM; rw [if_pos hk]))
    clear hk HN HK HT HS HD FD Hnt
    go_enter Tryz.func62, Tryz.ntmps62
    go_wp2_with fail
    refine bodyPost_ret (v := .tuple #[.agg #[.int .i64 0, .slice none 0 0], .iface 87 (.int .i64 1)]) (by simp [results, Tryz.results62, go_sem, y0, y1]) rfl ?_
    exact .inl ⟨1, HC1.out, rfl, HBel.out _ (grown_reflT _ _) _ _⟩
  · have k12 : (ok = 1 ∨ ok = 2) := by omega
    have Hk := Lib.hid hk
    clear hk
    go_enter Tryz.func62, Tryz.ntmps62
    go_upto_region 1 with fail
    go_cut [17] (fun s17 wx => s17 = .bool false ∧ W0 = wx)
    case first =>
      rcases k12 with rfl | rfl
      · go_wp2_with fail
        go_meet
        exact ⟨rfl, rfl⟩
      · go_wp2_with fail
        go_meet
        exact ⟨rfl, rfl⟩
    case rest =>
    obtain ⟨rfl, rfl⟩ := hcut
    clear hW0
    obtain ⟨d0, d9, e9⟩ := FD.out _ K0.out
    go_upto_region 3 with fail
    have C0 := Lib.hid (grown_drewT K0.out)
    go_cut [6] (fun s6 wx => ∃ r, s6 = .int .i64 r ∧ Hid (TxIs on d.ts r ∧ W0.grownBy wx none))
    case first =>
      go_region_with (go_at_call 30; (with_reducible refine (HN.out _ (by first | exact C0.out | exact K0.out)).mono ?_); rintro e w2 ⟨⟨r, rfl, hr⟩, hg2⟩; have E2 := Lib.hid (And.intro hr ((grown_drewT (grown_reflT W0 none)).trans hg2)); clear hr hg2)
      all_goals
        go_wp2_with fail
        go_meet
        exact ⟨r, rfl, E2⟩
    case rest =>
    obtain ⟨r, rfl, E⟩ := hcut
    obtain ⟨hr, hgc⟩ := E.out
    clear x0 x1 x2 y0 y1 z0 z1 d0 d9 e9 b3 b4 C0 HN
    obtain ⟨b3, b4⟩ := F.out wc hgc
    have x0 := cell_of_row _ _ 0 _ _ _ b3
    have x1 := cell_of_row _ _ 1 _ _ _ b3
    have x2 := cell_of_row _ _ 2 _ _ _ b3
    have y0 := cell_of_row _ _ 0 _ _ _ b4
    have y1 := cell_of_row _ _ 1 _ _ _ b4
    have z0 := froz_of b4 0
    have z1 := froz_of b4 1
    simp at x0 x1 x2 y0 y1
    have Kc := Lib.hid (K0.out.trans hgc)
    have Gc := Lib.hid hgc
    rcases hr.tabI with ⟨rfl, ht⟩ | ⟨i, rfl, hi, ht⟩
    · have HC1 := Lib.hid (show cm = .error 14 from HCM.out.trans (by unfold claimM; rw [if_neg Hk.out, ht]))
      clear hr hgc ht
      go_wp2_with fail
      refine bodyPost_ret (v := .tuple #[.agg #[.int .i64 0, .slice none 0 0], .iface 87 (.int .i64 14)]) (by simp [results, Tryz.results62, go_sem, y0, y1]) rfl ?_
      exact .inl ⟨14, HC1.out, rfl, HBel.out _ Gc.out _ _⟩
    · obtain ⟨d0, d9, e9⟩ := FD.out _ Kc.out
      obtain ⟨tb, toff, hta, htl, t0, t1, t2⟩ := HT.out i hi
      have t0 := Kc.out.cell t0 (by simp)
      have t1 := Kc.out.cell t1 (by simp)
      have t2 := Kc.out.cell t2 (by simp)
      have HK1 := Lib.hid (HK.out i hi)
      rw [hta] at d0
      have Ht := Lib.hid (And.intro ht hta)
      generalize (d.ts.getD i default) = tt at t0 t1 t2 HK1
      obtain ⟨tn, ta, tc, tl, tk⟩ := tt
      simp only at t0 t1 t2 HK1
      generalize tl.length = tm at *
      have i1 : (i : Int) < nt := by have := Hnt.out.1; omega
      have i2 : (i : Int) ≤ d.cc := by omega
      have i3 : ¬ (i : Int) < 0 := by omega
      clear hr hgc ht hta htl
      have C0 := Lib.hid (grown_drewT Kc.out)
      cases hkm : km i with
      | none =>
        have HC1 := Lib.hid (show cm = .error 20 from HCM.out.trans (by unfold claimM; rw [if_neg Hk.out, Ht.out.1]; simp only; rw [HKM.out i, hkm]))
        have HK2 := Lib.hid (fun W (hW : w.grownBy W none) => (HK1.out W hW).mono fun e w' h => show (∃ a n c, e = .returned (.tuple #[.slice a n c, .int .i64 20])) ∧ W.grownBy w' none from ⟨(by
          rcases h.1 with ⟨_, _, _, hk, _⟩ | ⟨_, hk⟩
          · rw [hkm] at hk; cases hk
          · exact hk), h.2⟩)
        clear HK1 hkm
        go_upto_region 6 with fail
        go_cut [8] (fun s8 wx => s8 = .int .i64 20 ∧ Hid (wc.grownBy wx none))
        case first =>
          go_region_with (go_at_call 76; (with_reducible refine (HK2.out _ (by first | exact C0.out | exact Kc.out)).mono ?_); rintro e w2 ⟨⟨va, vn, vc, rfl⟩, hg2⟩; have G2 := Lib.hid ((grown_drewT (grown_reflT wc none)).trans hg2); clear hg2)
          all_goals
            go_wp2_with fail
            go_meet
            exact ⟨rfl, G2⟩
        case rest =>
        obtain ⟨rfl, E2⟩ := hcut
        rename World => wd
        have hgd := Gc.out.trans E2.out
        obtain ⟨b3', b4'⟩ := F.out _ hgd
        have y0 := cell_of_row _ _ 0 _ _ _ b4'
        have y1 := cell_of_row _ _ 1 _ _ _ b4'
        have z0 := froz_of b4' 0
        have z1 := froz_of b4' 1
        simp at y0 y1
        have Gd := Lib.hid hgd
        clear b3' b4' hgd
        go_wp2_with fail
        refine bodyPost_ret (v := .tuple #[.agg #[.int .i64 0, .slice none 0 0], .iface 87 (.int .i64 20)]) (by simp [results, Tryz.results62, go_sem, y0, y1]) rfl ?_
        exact .inl ⟨20, HC1.out, rfl, HBel.out _ Gd.out _ _⟩
      | some key =>
        have HKM2 := Lib.hid (show keyM (d.ts.getD i default) ⟨ok, on, ⟨ra, rc, rl⟩⟩ = some key from (HKM.out i).trans hkm)
        have HK2 := Lib.hid (fun W (hW : w.grownBy W none) (hsz : w.heap.size + 1 + 1 ≤ W.heap.size) => (HK1.out W hW).mono fun e w' h => show (∃ ka kc, e = .returned (.tuple #[.slice ka (List.length key) kc, .int .i64 0]) ∧ RwS (fun b => (¬ d.M R D b ∧ b < w.heap.size) ∨ w.heap.size + 1 + 1 ≤ b) w' ka key) ∧ W.grownBy w' none from ⟨(by
          rcases h.1 with ⟨key', ka, kc, hk, he, hrw⟩ | ⟨hk, _⟩
          · rw [hkm] at hk; cases hk
            exact ⟨ka, kc, he, hrw.mono (fun b _ h => h.imp id (fun h => Nat.le_trans hsz h))⟩
          · rw [hkm] at hk; cases hk), h.2⟩)
        obtain ⟨kn, hkn⟩ : ∃ kn, kn = List.length key := ⟨_, rfl⟩
        rw [← hkn] at HK2
        have Hkn := Lib.hid hkn
        clear HK1 hkm hkn
        have Hsz := Lib.hid (show w.heap.size + 1 + 1 ≤ wc.heap.size ∧ w.heap.size + 1 + 1 ≤ wc.drew.heap.size from ⟨(Array.getElem?_eq_some_iff.1 b4).1, (Array.getElem?_eq_some_iff.1 b4).1⟩)
        go_upto_region 6 with fail
        go_cut [7, 8] (fun s7 s8 wx => ∃ ka kc, s7 = .slice ka kn kc ∧ s8 = .int .i64 0 ∧ Hid (wc.grownBy wx none ∧ RwS (fun b => (¬ d.M R D b ∧ b < w.heap.size) ∨ w.heap.size + 1 + 1 ≤ b) wx ka key))
        case first =>
          go_region_with (go_at_call 76; (with_reducible refine (HK2.out _ (by first | exact C0.out | exact Kc.out) (by first | exact Hsz.out.2 | exact Hsz.out.1)).mono ?_); rintro e w2 ⟨⟨ka, kc, rfl, hrw⟩, hg2⟩; have G2 := Lib.hid (And.intro ((grown_drewT (grown_reflT wc none)).trans hg2) hrw); clear hg2 hrw)
          all_goals
            go_wp2_with fail
            go_meet
            exact ⟨ka, kc, rfl, rfl, G2⟩
        case rest =>
        obtain ⟨ka, kc, rfl, rfl, E2⟩ := hcut
        rename World => wd
        have hgd := K0.out.trans (Gc.out.trans E2.out.1)
        obtain ⟨b3', b4'⟩ := F.out _ (Gc.out.trans E2.out.1)
        have y0 := cell_of_row _ _ 0 _ _ _ b4'
        have y1 := cell_of_row _ _ 1 _ _ _ b4'
        have z0 := froz_of b4' 0
        have z1 := froz_of b4' 1
        obtain ⟨d0', d9, e9⟩ := FD.out _ hgd
        simp at y0 y1
        have Gd := Lib.hid hgd
        have hsp := HS.out _ hgd
        have hRow : RowAt wd ka key := E2.out.2.row
        have hxx : ∀ W, wd.grownBy W none → Calls Tryz.prog 77 #[.slice d.spa ns d.spc, .func (.func 78) #[.agg #[.int .i64 i, .slice ka kn kc]] #[]] W fun e w' => e = .returned (.bool (d.sp.any (spHit i key))) ∧ W.grownBy w' none := fun W hW => by
          rw [Hkn.out, Hnt.out.2.1]
          exact contSp_any d.spa ka d.spc kc d.sp i key W (hsp.1.keep hW) (hRow.keep (below_grownT hW)) hsp.2
        have HX := Lib.hid hxx
        obtain ⟨hit, hhit⟩ : ∃ b, b = d.sp.any (spHit i key) := ⟨_, rfl⟩
        rw [← hhit] at HX
        have HCM2 := Lib.hid (show cm = if hit = true then .error 21 else .ok (i, key) from HCM.out.trans (by
          unfold claimM
          rw [if_neg Hk.out, Ht.out.1]
          simp only
          rw [HKM2.out]
          simp only
          rw [any_hit, hhit]))
        have A9 := heap_alloc_new wd (cSp i ka kn kc)
        have g9 := World.grownBy_alloc wd (cSp i ka kn kc) none
        have q0 : (wd.alloc (cSp i ka kn kc)).cell? ⟨wd.heap.size, 0, none⟩ = some (.int .i64 i) := cell_of_row _ _ 0 _ _ _ A9
        have q1 : (wd.alloc (cSp i ka kn kc)).cell? ⟨wd.heap.size, 1, none⟩ = some (.slice ka kn kc) := cell_of_row _ _ 1 _ _ _ A9
        have hwd : w.heap.size + 1 < wd.heap.size := by
          have := (Array.getElem?_eq_some_iff.1 b4').1; omega
        have hDw : D < wd.heap.size := Nat.lt_of_lt_of_le hlt hgd.size
        have y0' := g9.cell y0 (by simp)
        have y1' := g9.cell y1 (by simp)
        have d9' := g9.cell d9 (by simp)
        have z0' := (World.frozen?_of_block (a := ⟨w.heap.size + 1, 0, none⟩) (g9.block (w.heap.size + 1) hwd (by simp))).trans z0
        have z1' := (World.frozen?_of_block (a := ⟨w.heap.size + 1, 1, none⟩) (g9.block (w.heap.size + 1) hwd (by simp))).trans z1
        have e9' := (World.frozen?_of_block (a := ⟨D, 9, none⟩) (g9.block D hDw (by simp))).trans e9
        have G9 := Lib.hid g9
        have C9 := Lib.hid (grown_drewT g9)
        clear x0 x1 x2 t0 t1 t2 d0 d0' hsp hRow hxx hhit HK HK2 HT HS hgd A9 b3 b4 b3' b4'
        go_upto_region 10 with fail
        clear y0 y1 z0 z1 d9 e9 g9
        generalize hw9 : wd.alloc (.cells #[.int .i64 i, .slice ka kn kc] 165) = w9 at *
        have C9' := C9
        have FW := Lib.hid (fun W (hW : w9.grownBy W none) => show (W.cell? ⟨wd.heap.size, 0, none⟩ = some (.int .i64 i) ∧ W.cell? ⟨wd.heap.size, 1, none⟩ = some (.slice ka kn kc)) ∧ (W.cell? ⟨w.heap.size + 1, 0, none⟩ = some (.int .i64 0) ∧ W.cell? ⟨w.heap.size + 1, 1, none⟩ = some (.slice none 0 0) ∧ W.frozen? ⟨w.heap.size + 1, 0, none⟩ = false ∧ W.frozen? ⟨w.heap.size + 1, 1, none⟩ = false) ∧ W.cell? ⟨D, 9, none⟩ = some (.slice d.spa ns d.spc) ∧ W.frozen? ⟨D, 9, none⟩ = false from by
          have hs : wd.heap.size ≤ w9.heap.size := G9.out.size
          exact ⟨⟨hW.cell q0 (by simp), hW.cell q1 (by simp)⟩, ⟨hW.cell y0' (by simp), hW.cell y1' (by simp), (World.frozen?_of_block (a := ⟨w.heap.size + 1, 0, none⟩) (hW.block (w.heap.size + 1) (by omega) (by simp))).trans z0', (World.frozen?_of_block (a := ⟨w.heap.size + 1, 1, none⟩) (hW.block (w.heap.size + 1) (by omega) (by simp))).trans z1'⟩, hW.cell d9' (by simp), (World.frozen?_of_block (a := ⟨D, 9, none⟩) (hW.block D (by omega) (by simp))).trans e9'⟩)
        have hgg := Lib.hid (grown_drewT (grown_reflT w9 none))
        go_cut [57] (fun s57 wx => s57 = .bool hit ∧ Hid (w9.grownBy wx none))
        case first =>
          go_region_with (go_at_call 77; (with_reducible refine (HX.out _ (by first | exact C9.out | exact G9.out)).mono ?_); rintro e w2 ⟨rfl, hg2⟩; have G2 := Lib.hid (hgg.out.trans hg2); clear hg2)
          all_goals
            go_wp2_with fail
            go_meet
            exact ⟨rfl, G2⟩
        case rest =>
        obtain ⟨rfl, E10⟩ := hcut
        rename World => w10
        clear q0 q1 y0' y1' z0' z1' d9' e9' C9 C9'
        obtain ⟨⟨q0, q1⟩, ⟨y0, y1, z0, z1⟩, d9, e9⟩ := FW.out _ E10.out
        have G10 := Lib.hid (Gd.out.trans (G9.out.trans E10.out))
        cases hit with
        | true =>
          have HC1 := Lib.hid (show cm = .error 21 from HCM2.out.trans (if_pos rfl))
          clear FW HX q0 q1 d9 e9
          go_wp2_with fail
          refine bodyPost_ret (v := .tuple #[.agg #[.int .i64 0, .slice none 0 0], .iface 87 (.int .i64 21)]) (by simp [results, Tryz.results62, go_sem, y0, y1]) rfl ?_
          exact .inl ⟨21, HC1.out, rfl, HBel.out _ (Gc.out.trans (E2.out.1.trans (G9.out.trans E10.out))) _ _⟩
        | false =>
          have HC1 := Lib.hid (show cm = .ok (i, key) from HCM2.out.trans (if_neg (by simp)))
          go_upto_region 12 with fail
          have HO : Hid (∀ W, w10.grownBy W none → W.ownsRow (D + 1) 165 2 (.slice d.spa ns d.spc) ns (d.sp.flatMap Spt.c)) := Lib.hid fun W hW => by
            have := (HD.out.keepG (G10.out.trans hW)).osp
            rw [← Hnt.out.2.1] at this
            exact this
          have hns : ns ≤ 1000 := by have := Hnt.out.2.1; have := Hnt.out.2.2.2; omega
          obtain ⟨i0, hi0, hz0, hz1, hz2⟩ := info_partsT sp_info
          have hD10 : D + 1 ≤ w10.heap.size := Nat.lt_of_lt_of_le hlt G10.out.size
          have hb8 : wd.heap.size < w10.heap.size := by
            have h9 : (wd.alloc (cSp i ka kn kc)).heap.size ≤ w10.heap.size := by rw [hw9]; exact E10.out.size
            simp at h9
            omega
          have hnb : ∀ k, (Value.slice d.spa ns d.spc).ownBlock = some k → k < w.heap.size ∧ D < k := fun k hk => ⟨(World.ownsRow.lt HD.out.osp k ((bk_own _ _ _ _).2 ((bk_own _ _ _ _).1 hk))).2, HD.out.own.2 k ((bk_own _ _ _ _).1 hk)⟩
          have Hnb := Lib.hid hnb
          clear HX HBel HCM HCM2 FD F FW
          have d9a := fun o => (World.grownBy_alloc w10 o none).cell d9 (by simp)
          go_cut [67] (fun s67 wx => ∃ spa spc, s67 = .slice spa (ns + 1) spc ∧ Hid (∃ w2 w4, w10.grownBy w2 none ∧ w4.ownsRow (D + 1) 165 2 (.slice spa (ns + 1) spc) (ns + 1) (d.sp.flatMap Spt.c ++ [.int .i64 i, .slice ka kn kc]) ∧ w2.grownBy w4 (Value.slice d.spa ns d.spc).ownBlock ∧ (∀ k, bk spa k → bk d.spa k ∨ w2.heap.size ≤ k) ∧ wx = w4.setCell ⟨D, 9, none⟩ (.slice spa (ns + 1) spc)))
          case first =>
            go_region_law (first
              | (refine step_append_lies _ (by rfl) (.tmp 64) (.tmp 66) 84 (by rfl) (D + 1) 165 i0 (.agg #[.int .i64 0, .slice none 0 0]) 2 32 Tryz.underlying84 hi0 hz0 hz1 hz2 rfl (by decide) (.slice d.spa ns d.spc) ns (d.sp.flatMap Spt.c) (by rfl) (HO.out _ (grown_drewT (World.grownBy_alloc w10 (cSp i ka kn kc) none))) ⟨w10.heap.size, 0, none⟩ 1 1 [.int .i64 i, .slice ka kn kc] (by rfl) rfl (World.news_of_block (heap_alloc_new w10 (cSp i ka kn kc))) (by intro u hu; simp only [List.mem_cons, List.not_mem_nil, or_false] at hu; rcases hu with rfl | rfl <;> rfl) (by decide) (by unfold maxLen; omega) (by omega) (Nat.le_trans hD10 (grown_drewT (World.grownBy_alloc w10 (cSp i ka kn kc) none)).size) _ rfl ?_
                 intro g4 cp4 w4 hown4 hgrow4 hat4 hlt4
                 have HG := Lib.hid (grown_drewT (World.grownBy_alloc w10 (cSp i ka kn kc) none))
                 have hDn : (Value.slice d.spa ns d.spc).ownBlock ≠ some D := fun e => by have := (Hnb.out D e).2; omega
                 have d9' := (World.cell?_of_block (a := ⟨D, 9, none⟩) (hgrow4.block D (Nat.lt_of_lt_of_le hD10 HG.out.size) (fun e => hDn e.symm))).trans (HG.out.cell d9 (by simp))
                 have e9' := (World.frozen?_of_block (a := ⟨D, 9, none⟩) (hgrow4.block D (Nat.lt_of_lt_of_le hD10 HG.out.size) (fun e => hDn e.symm))).trans ((World.frozen?_of_block (a := ⟨D, 9, none⟩) (HG.out.block D hD10 (by simp))).trans e9)
                 have E4 := Lib.hid (And.intro hown4 (And.intro hgrow4 (And.intro hat4 hlt4)))
                 clear hown4 hgrow4 hat4 hlt4 hDn)
              | fail)
            all_goals
              go_wp2_with fail
              go_meet
              obtain ⟨hown4, hgrow4, hat4, hlt4⟩ := E4.out
              refine ⟨some ⟨g4, 0, none⟩, cp4, rfl, Lib.hid ⟨_, w4, HG.out, hown4, hgrow4, fun k hk => ?_, rfl⟩⟩
              rw [bk_some] at hk
              subst hk
              exact hat4.imp (fun e => (bk_own _ _ _ _).1 e) (fun e => Nat.le_of_eq e.symm)
          case rest =>
          obtain ⟨spa, spc, rfl, E12⟩ := hcut
          obtain ⟨w2, w4, hg2, hown, h24, hb4, hwc⟩ := E12.out
          have hown0 : ∀ b, b ≠ D → w.heap.size ≤ b → b < w10.heap.size → wc.heap[b]? = w10.heap[b]? := fun b hbD hb hb10 => by
            rw [hwc, Below.heap_setCell _ _ _ _ hbD]
            refine (h24.block b (Nat.lt_of_lt_of_le hb10 hg2.size) (fun e => ?_)).trans (hg2.block b hb10 (by simp))
            have := (Hnb.out b e.symm).1
            omega
          have hDw : w.heap.size ≤ wd.heap.size := by omega
          have hx := hown0 wd.heap.size (by omega) hDw hb8
          have hy := hown0 (w.heap.size + 1) (by omega) (by omega) (by omega)
          have q0' := (World.cell?_of_block (a := ⟨wd.heap.size, 0, none⟩) hx).trans q0
          have q1' := (World.cell?_of_block (a := ⟨wd.heap.size, 1, none⟩) hx).trans q1
          have y0' := (World.cell?_of_block (a := ⟨w.heap.size + 1, 0, none⟩) hy).trans y0
          have y1' := (World.cell?_of_block (a := ⟨w.heap.size + 1, 1, none⟩) hy).trans y1
          have z0' := (World.frozen?_of_block (a := ⟨w.heap.size + 1, 0, none⟩) hy).trans z0
          have z1' := (World.frozen?_of_block (a := ⟨w.heap.size + 1, 1, none⟩) hy).trans z1
          have Z := Lib.hid (And.intro hg2 (And.intro hown (And.intro h24 (And.intro hb4 hwc))))
          clear hown0 hx hy q0 q1 y0 y1 z0 z1 d9 e9 hg2 hown h24 hb4 hwc d9a E12
          go_wp2_with fail
          refine bodyPost_ret (v := .tuple #[.agg #[.int .i64 i, .slice ka kn kc], .nilIface]) (by simp [results, Tryz.results62, go_sem, y0', y1']) rfl ?_
          obtain ⟨hg2, hown, h24, hb4, hwc⟩ := Z.out
          have hgw2 := G10.out.trans hg2
          have hnsl := Hnt.out.2.1
          rw [hnsl] at hown h24
          rw [Hkn.out] at hown ⊢
          have hDl : D < w2.heap.size := Nat.lt_of_lt_of_le hlt hgw2.size
          have hD4 : w4.heap[D]? = w.heap[D]? := (h24.block D hDl (fun e => by
            rw [← hnsl] at e
            have := (Hnb.out D e.symm).2; omega)).trans (hgw2.block D hlt (by simp))
          have hblk := HD.out.blk
          have hDc : wc.heap[D]? = some (.cells (dC d.ca d.ts.length d.cc d.ver d.ps d.cha d.ch.length d.chc spa (d.sp.length + 1) spc) 86 (0, 0)) := by
            rw [hwc, hnsl]
            simp [World.setCell, Array.getElem?_modify, hD4, hblk, dC]
          have hne : D ≠ w.heap.size + 1 := by omega
          obtain ⟨wf, hwf⟩ : ∃ wf, wf = (wc.setCell ⟨w.heap.size + 1, 0, none⟩ (.int .i64 i)).setCell ⟨w.heap.size + 1, 1, none⟩ (.slice ka kn kc) := ⟨_, rfl⟩
          have hf : Only (fun k => k = D ∨ k = w.heap.size + 1) w4 wf := by
            rw [hwf, hwc]
            exact (((Only.refl (fun k => k = D ∨ k = w.heap.size + 1) w4).set (.inl (.inl rfl)) _ _).set (.inl (.inr rfl)) _ _).set (.inl (.inr rfl)) _ _
          rw [Hkn.out] at hwf
          rw [← hwf]
          obtain ⟨r1, r2, r3⟩ := HD.out.claimed hgw2 (E2.out.2.keep (.of (G9.out.trans (E10.out.trans hg2)))) hown h24 hb4 (wf := wf) (by rw [hwf, Below.heap_setCell _ _ _ _ hne, Below.heap_setCell _ _ _ _ hne]; exact hDc) hf (own_only hown hf (fun g hg e => by
            have h1 := (World.ownsRow.lt hown g hg).1
            rcases e with e | e
            · omega
            · rcases hb4 g ((bk_own _ _ _ _).1 hg) with h2 | h2
              · have := (Hnb.out g ((bk_own _ _ _ _).2 h2)).1; omega
              · have := hg2.size; omega))
          exact .inr ⟨i, key, ka, kc, spa, spc, HC1.out, hi, rfl, r1, r2, r3⟩
end Go.Proofs.YtnfpomjcofhppaaGreatDoor
