/- The law StoreRefuses walked. PROVED: the card of StoreRefuses: at every input, in whatever memory that meets the row's listed variables (which the card ties to the program's text), the call returns true and its arguments read as they did. No condition of our own. -/
import Derived.Test.YtaggacffjbjchaaGreatDoorStBbZ
import Derived.Test.YtaggacffjbjchaaGreatDoorZa10
import Derived.Deep.RegionHeld
import Derived.Test.YtaggacffjbjchaaGreatDoorZa01
import Derived.Test.YtaggacffjbjchaaGreatDoorCards
import Derived.Test.YtaggacffjbjchaaGreatDoorTie
import Derived.SevenTiedAt
namespace Go.Proofs.YtaggacffjbjchaaGreatDoor
open Go.RowKit

set_option maxRecDepth 100000 in
set_option maxHeartbeats 12800000 in
theorem StoreRefuses_any (G : Nat) (a a1 a2 : Ptr) (cap cap1 cap2 : Nat) (l : List Tb) (cs : List Cw) (ol : List Om) (w : World) (h : TabsAt w.heap.size w a l) (hcap : l.length ≤ cap) (hcs : ∀ t ∈ l, t.l.length ≤ t.cap) (hN : ∀ t ∈ l, t.n.size ≤ 9223372036854775807 ∧ ∀ i, i < t.l.length → (t.l.getD i default).n.size ≤ 9223372036854775807) (h1 : CmG (fun j => j < w.heap.size) w a1 cs) (hc1 : cs.length ≤ cap1) (h2 : OpR (fun j => j < w.heap.size) w a2 ol) (hc2 : ol.length ≤ cap2) (hw : WhyG w) (hE : ErrT G w) (hG : G ≤ w.heap.size) :
    Calls Tryz.prog 4 #[.slice a l.length cap, .slice a1 cs.length cap1, .slice a2 ol.length cap2] w fun e w' => e = .returned (.bool true) ∧ Below w.heap.size w w' := by
  have HA := Lib.hid (fun W (hW : w.grownBy W none) => awake9_any G W (hw.grown hW) (hE.grown hW) (Nat.le_trans hG hW.size))
  have HM := Lib.hid (fun W (hW : w.grownBy W none) => make_any G a cap l W ((h.keep hW (by simp)).mono hW.size) hcap hcs hN (hw.grown hW) (hE.grown hW))
  have HT := Lib.hid (fun W (hW : w.grownBy W none) => show TbsS (fun j => j < w.heap.size) W a l from ((TbsS.of h).mono (fun b hb _ => hb)).keep (.of hW))
  have H1 := Lib.hid (fun W (hW : w.grownBy W none) => h1.keep (.of hW))
  have H2 := Lib.hid (fun W (hW : w.grownBy W none) => h2.keep (.of hW))
  have HE := Lib.hid (And.intro hE hG)
  have hl0 := h.1
  obtain ⟨n, hn⟩ : ∃ n, n = l.length := ⟨_, rfl⟩
  obtain ⟨c, hc⟩ : ∃ c, c = cs.length := ⟨_, rfl⟩
  have HFb := Lib.hid (fun W (hW : w.grownBy W none) => fits_anyR _ a2 cap2 ol W (h2.keep (.of hW)) hc2)
  obtain ⟨d, hd⟩ : ∃ d, d = ol.length := ⟨_, rfl⟩
  have Hn := Lib.hid (And.intro hn (And.intro hc hd))
  have hc0 := h1.1
  have hd0 := h2.1
  rw [← hn] at HM hcap hl0 ⊢
  rw [← hc] at hc1 hc0 ⊢
  rw [← hd] at hc2 hd0 HFb ⊢
  clear h hcs hN h1 h2 hw hE hG hn hc hd
  go_enter Tryz.func4, Tryz.ntmps4
  go_wp2_with fail
  refine (HA.out _ (grown_reflT _ none)).mono ?_
  rintro e w1 ⟨rfl, hg1⟩
  have G1 := Lib.hid hg1
  clear hg1
  by_cases hb1 : (40 : Int) < c
  · go_wp2_with fail
    refine (HA.out _ G1.out).mono ?_
    rintro e w2 ⟨rfl, hg2⟩
    have G2 := Lib.hid (G1.out.trans hg2)
    clear hg2
    go_wp2_with fail
    go_ret
    exact ⟨rfl, below_grownT G2.out⟩
  go_wp2_with fail
  refine (HFb.out _ G1.out).mono ?_
  rintro e w1b ⟨⟨fz, rfl, hfz⟩, hg1b⟩
  have G1b := Lib.hid (G1.out.trans hg1b)
  have HFz := Lib.hid hfz
  clear hfz hg1b HFb
  cases fz
  · go_wp2_with fail
    refine (HA.out _ G1b.out).mono ?_
    rintro e w2 ⟨rfl, hg2⟩
    have G2 := Lib.hid (G1b.out.trans hg2)
    clear hg2
    go_wp2_with fail
    go_ret
    exact ⟨rfl, below_grownT G2.out⟩
  have HFz := Lib.hid (HFz.out (by simp))
  clear G1
  have G1 := G1b
  clear G1b
  generalize w1b = w1 at *
  go_wp2_with fail
  refine (HM.out _ G1.out).mono ?_
  rintro e w2 ⟨hmk, hg2⟩
  have G2 := Lib.hid (G1.out.trans hg2)
  rcases hmk with rfl | ⟨hr, s, q, rfl, hs⟩
  · clear hg2
    go_wp2_with fail
    go_ret
    exact ⟨rfl, below_grownT (G2.out.trans (World.grownBy_alloc _ _ none))⟩
  have XF := Lib.hid (hs.xg (HE.out.1.grown G1.out) (Nat.le_trans HE.out.2 G1.out.size) hg2)
  have VF := Lib.hid hs.2.1
  have HR := Lib.hid hr
  clear hs hg2 hr
  generalize s.b = b at *
  go_wp2_with fail
  go_loopw [51] (fun s51 wr => ∃ j : Nat, s51 = .int .i64 j ∧ j ≤ c ∧ Hid (∃ s, XG w1 G b l wr s ∧ s.v ≤ j)) (fun s51 _ => c - (intOf s51).toNat)
  case atStart => exact ⟨0, rfl, by omega, Lib.hid ⟨s, XF.out.keepG (World.grownBy_alloc _ _ none), by rw [VF.out]; exact Int.le_refl 0⟩⟩
  case round =>
    obtain ⟨j, rfl, hj, K⟩ := hrel
    by_cases hlt : j < c
    · obtain ⟨sj, hx, hv⟩ := K.out
      have gW : w.grownBy wr none := G1.out.trans hx.gr
      obtain ⟨⟨ob, oo, rfl, c0⟩, ho, hoc⟩ := (H1.out wr gW).at (i := j) (by rw [← Hn.out.2.1]; exact hlt)
      generalize cs.getD j default = x at *
      obtain ⟨xa, xc, xl⟩ := x
      simp only [Cw.v] at c0 ho hoc
      have HFi := Lib.hid (fits_anyR _ xa xc xl wr ho hoc)
      have HCo := Lib.hid (fun (hf : ∀ o ∈ xl, o.r.l.length ≤ 20) W (hW : wr.grownBy W none) => ((hx.keepG hW).commit xa xc xl ((hx.keepG hW).ops (S := fun j => j < w.heap.size) (fun k hk => Nat.lt_of_lt_of_le hk G1.out.size) ((ho.keep (.of hW)).ops hf)) hoc (by omega)))
      have X := Lib.hid hx
      have V := Lib.hid hv
      generalize xl.length = xm at *
      have j0 : (j : Int) ≤ cap1 := by omega
      clear hx hv gW ho hoc K
      go_wp2_with fail
      refine HFi.out.mono ?_
      rintro e w3 ⟨⟨fb, rfl, hfb⟩, hg3⟩
      have HFb := Lib.hid hfb
      clear hfb
      have G3 := Lib.hid hg3
      clear hg3 HFi
      cases fb
      · go_wp2_with fail
        go_roundw
        case rel => exact ⟨j + 1, by go_num, by omega, Lib.hid ⟨sj, X.out.keepG G3.out, by have := V.out; push_cast; omega⟩⟩
        case measure => simp [intOf]; omega
      · go_wp2_with fail
        refine (HCo.out (HFb.out (by simp)) _ G3.out).mono ?_
        rintro e w4 ⟨⟨v4, rfl⟩, s4, hx4, _, hv4, _⟩
        have X4 := Lib.hid (And.intro hx4 hv4)
        clear hx4 hv4
        go_wp2_with fail
        go_roundw
        case rel => exact ⟨j + 1, by go_num, by omega, Lib.hid ⟨s4, X4.out.1, by have := V.out; have := X4.out.2; push_cast; omega⟩⟩
        case measure => simp [intOf]; omega
    · obtain rfl : c = j := by omega
      obtain ⟨s3, hx3, hv3⟩ := K.out
      have HVe := Lib.hid (versionS_any w1.heap.size s3 wr hx3.at_)
      rw [hx3.hb] at HVe
      have X3 := Lib.hid hx3
      have V3 := Lib.hid hv3
      clear hx3 hv3 K
      go_wp2_with fail
      refine HVe.out.mono ?_
      rintro e w3 ⟨rfl, hg3⟩
      have XX := Lib.hid (X3.out.keepG hg3)
      clear hg3 HVe X3
      go_wp2_with fail
      have HTr := Lib.hid (XX.out.at_.trs _ XX.out.at_.topMem)
      have H6 := Lib.hid XX.out.at_.ok.six
      go_loopw [65, 13] (fun s65 s13 wr => ∃ (i wc : Nat) (wa : Ptr), s65 = .int .i64 i ∧ s13 = .slice wa i wc ∧ i ≤ n ∧ Hid (∃ ws : List Rv, ws.length = i ∧ Was w3.heap.size wr wa wc ws ∧ (∀ k, k < i → (ws.getD k default).l.map Rw.l = rowsU s3.top.tr s3.ts (l.getD k default).n) ∧ w3.grownBy wr none)) (fun s65 _ _ => n - (intOf s65).toNat)
      case atStart => exact ⟨0, 0, none, rfl, rfl, by omega, Lib.hid ⟨[], rfl, Was.nil _ _, fun k hk => by omega, grown_reflT _ _⟩⟩
      case round =>
        obtain ⟨i, wc, wa, rfl, rfl, hi, K⟩ := hrel
        by_cases hlt2 : i < n
        · obtain ⟨ws, hwl, hwas, hws, hgr⟩ := K.out
          have gW : w.grownBy wr none := G1.out.trans (XX.out.gr.trans hgr)
          obtain ⟨tb, tof, rfl, _, c0, c1, c2⟩ := (HT.out wr gW).at (i := i) (by rw [← Hn.out.1]; exact hlt2)
          obtain ⟨nm, hnm⟩ : ∃ nm, nm = (l.getD i default).n := ⟨_, rfl⟩
          have Nm := Lib.hid hnm
          rw [← hnm] at c0
          generalize (l.getD i default).a = ta at *
          generalize (l.getD i default).l.length = tl at *
          generalize (l.getD i default).cap = tc at *
          generalize (l.getD i default).k = tk at *
          have i0 : (i : Int) ≤ cap := by omega
          have bx := Lib.hid (box3_new6 wr (.string nm) (.slice ta tl tc) (.int .i64 tk) 38)
          have gA := World.grownBy_alloc wr (.cells #[.string nm, .slice ta tl tc, .int .i64 tk] 38) none
          have HNo := Lib.hid (fun W (hW : (wr.alloc (.cells #[.string nm, .slice ta tl tc, .int .i64 tk] 38)).grownBy W none) => now_any w1.heap.size s3 W (XX.out.keepG ((hgr.trans gA).trans hW)).at_)
          rw [XX.out.hb] at HNo
          have KW := Lib.hid (And.intro hwl (And.intro hwas (And.intro hws (hgr.trans gA))))
          have KA := Lib.hid gA
          have SS := Lib.hid (fun W (hW : (wr.alloc (.cells #[.string nm, .slice ta tl tc, .int .i64 tk] 38)).grownBy W none) => show W.cell? ⟨wr.heap.size, 0, none⟩ = some (.string nm) from hW.cell bx.out.1 (by simp))
          clear hwl hwas hws hgr gW gA hnm K
          have hn6 : n ≤ 6 := by have := HR.out; rw [Hn.out.1]; rcases Nat.lt_or_ge 6 l.length with h | h; (have := (this 6 h).1.1; omega); exact h
          go_wp2_with fail
          refine wp_region_held_drew (S := (fun W => W.cell? ⟨wr.heap.size, 0, none⟩ = some (.string nm))) (by kernel_rfl) (SS.out _ (grown_drewT (grown_reflT _ none))) (fun hHeld => ?_)
          refine wpAnyH_take (i := 0) (v := ?va0) rfl (by kernel_rfl) (by kernel_rfl) (by kernel_rfl) (fun _ _ _ h => h) (Or.inl ⟨by rfl, ?ya0⟩) (by assumption) ?ra0
          case ya0 => (intro w hSw; (try dsimp only at hSw); go_simp; try with_reducible rfl)
          simp only [Act.put, List.getElem_toArray, List.getElem_cons_zero, List.size_toArray, List.length_cons, List.length_nil, Nat.reduceAdd, Array.replicate, List.replicate, List.setIfInBounds_toArray, List.set_cons_zero, List.set_cons_succ]
          refine wpAnyH_take (i := 2) (v := ?va2) rfl (by kernel_rfl) (by kernel_rfl) (by kernel_rfl) (fun _ _ _ h => h) (Or.inl ⟨by rfl, ?ya2⟩) (by assumption) ?ra2
          case ya2 => (intro w hSw; (try dsimp only at hSw); go_simp; try with_reducible rfl)
          simp only [Act.put, List.getElem_toArray, List.getElem_cons_succ, List.getElem_cons_zero, List.setIfInBounds_toArray, List.set_cons_zero, List.set_cons_succ]
          refine wpAnyH_take (i := 3) (v := ?va3) rfl (by kernel_rfl) (by kernel_rfl) (by kernel_rfl) (fun _ _ _ h => h) (Or.inl ⟨by rfl, ?ya3⟩) (by assumption) ?ra3
          case ya3 => (intro w hSw; (try dsimp only at hSw); go_simp; try with_reducible rfl)
          simp only [Act.put, List.getElem_toArray, List.getElem_cons_succ, List.getElem_cons_zero, List.setIfInBounds_toArray, List.set_cons_zero, List.set_cons_succ]
          refine wpAnyH_ready (rs := [1]) (by kernel_rfl) (by simp) ?_
          refine AllReadyH.cons rfl (fun K' hK => ?_) AllReadyH.nil
          go_simp
          go_at_call 15
          refine (HNo.out _ (grown_drewT (grown_reflT _ none))).mono ?_
          rintro e w51 ⟨⟨p, rfl, _, hsn⟩, hg1⟩
          have GN := Lib.hid hg1
          have PN := Lib.hid hsn
          clear hsn hg1
          refine hK.out _ _ (SS.out _ ((grown_drewT (grown_reflT _ none)).trans GN.out)) (fun hHeld => ?_)
          clear hK K'
          simp only [List.setIfInBounds_toArray, List.set_cons_zero, List.set_cons_succ]
          refine wpAnyH_ready (rs := [4]) (by kernel_rfl) (by simp) ?_
          refine AllReadyH.cons rfl (fun K' hK => ?_) AllReadyH.nil
          go_simp
          go_at_call 19
          refine (rowsP2_any _ p s3.ca s3.cc s3.ts s3.top nm _ PN.out H6.out HTr.out).mono ?_
          rintro e w52 ⟨⟨ra, rc, rm, ec, rfl, hrc, hrm, D5⟩, hg2⟩
          have G5 := Lib.hid (((grown_drewT (grown_reflT _ none)).trans GN.out).trans hg2)
          clear hg2
          refine hK.out _ _ (SS.out _ G5.out) (fun hHeld => ?_)
          clear hK K'
          simp only [List.setIfInBounds_toArray, List.set_cons_zero, List.set_cons_succ]
          refine wpAnyH_take (i := 5) (v := ?va5) rfl (by kernel_rfl) (by kernel_rfl) (by kernel_rfl) (fun _ _ _ h => h) (Or.inl ⟨by rfl, ?ya5⟩) (by assumption) ?ra5
          case ya5 => (intro w hSw; (try dsimp only at hSw); go_simp; try with_reducible rfl)
          simp only [Act.put, List.getElem_toArray, List.getElem_cons_succ, List.getElem_cons_zero, List.setIfInBounds_toArray, List.set_cons_zero, List.set_cons_succ]
          refine wpAnyH_take (i := 6) (v := ?va6) rfl (by kernel_rfl) (by kernel_rfl) (by kernel_rfl) (fun _ _ _ h => h) (Or.inl ⟨by rfl, ?ya6⟩) (by assumption) ?ra6
          case ya6 => (intro w hSw; (try dsimp only at hSw); go_simp; try with_reducible rfl)
          simp only [Act.put, List.getElem_toArray, List.getElem_cons_succ, List.getElem_cons_zero, List.setIfInBounds_toArray, List.set_cons_zero, List.set_cons_succ]
          refine wpAnyH_take (i := 7) (v := ?va7) rfl (by kernel_rfl) (by kernel_rfl) (by kernel_rfl) (fun _ _ _ h => h) (Or.inl ⟨by rfl, ?ya7⟩) (by assumption) ?ra7
          case ya7 => (intro w hSw; (try dsimp only at hSw); go_simp; try with_reducible rfl)
          simp only [Act.put, List.getElem_toArray, List.getElem_cons_succ, List.getElem_cons_zero, List.setIfInBounds_toArray, List.set_cons_zero, List.set_cons_succ]
          refine wpAnyH_take (i := 8) (v := ?va8) rfl (by kernel_rfl) (by kernel_rfl) (by kernel_rfl) (fun _ _ _ h => h) (Or.inl ⟨by rfl, ?ya8⟩) (by assumption) ?ra8
          case ya8 => (intro w hSw; (try dsimp only at hSw); go_simp; try with_reducible rfl)
          simp only [Act.put, List.getElem_toArray, List.getElem_cons_succ, List.getElem_cons_zero, List.setIfInBounds_toArray, List.set_cons_zero, List.set_cons_succ]
          refine wpAnyH_take (i := 9) (v := ?va9) rfl (by kernel_rfl) (by kernel_rfl) (by kernel_rfl) (fun _ _ _ h => h) (Or.inl ⟨by rfl, ?ya9⟩) (by assumption) ?ra9
          case ya9 => (intro w hSw; (try dsimp only at hSw); go_simp; try with_reducible rfl)
          simp only [Act.put, List.getElem_toArray, List.getElem_cons_succ, List.getElem_cons_zero, List.setIfInBounds_toArray, List.set_cons_zero, List.set_cons_succ]
          refine wpAnyH_done (by kernel_rfl) ?_ _
          have S5 := Lib.hid (show w3.heap.size ≤ w52.heap.size from (KW.out.2.2.2.trans G5.out).size)
          have O5 := Lib.hid (show w52.ownsRow w3.heap.size 54 1 (.slice wa i wc) i (ws.map Rv.v) by have := (KW.out.2.1.keepG (KA.out.trans G5.out)).1; rw [KW.out.1] at this; exact this)
          obtain ⟨i5, hi5, hz0, hz1, hz2⟩ := info_partsG rows_info
          go_wp2_with (at_builtin; refine wpList_append_lies _ rfl _ _ 53 rfl w3.heap.size 54 i5 (.slice none 0 0) 1 24 Tryz.underlying53 hi5 hz0 hz1 hz2 rfl (by decide) (.slice wa i wc) i (ws.map Rv.v) rfl (World.ownsRow.alloc O5.out _) ⟨w52.heap.size, 0, none⟩ 1 1 [.slice ra rm rc] rfl rfl (World.news_of_block (heap_alloc_new w52 _)) (by intro u hu; simp only [List.mem_cons, List.not_mem_nil, or_false] at hu; rw [hu]; rfl) (by decide) (by unfold maxLen; omega) (by omega) (by simp; have := S5.out; omega) _ rfl ?_)
          intro g cp w6 hown6 hgr6 hat6 hlt6
          obtain ⟨done, hdl, hrs, hdu⟩ := D5.out
          have hw6 := (KW.out.2.1.keepG KA.out).app (x := ⟨ra, rc, done⟩) (o := .cells #[.slice ra rm rc] 54) (KW.out.2.2.2.size) G5.out (hrs.mono (fun b _ hb => Nat.le_trans ((grown_drewT (grown_reflT _ none)).trans GN.out).size hb)) (by simp only; omega) (by rw [KW.out.1]; simp only [Rv.v, hdl]; exact hown6) (by rw [KW.out.1]; exact hgr6) (by rw [KW.out.1]; simpa using hat6)
          have hbk : ∀ j, (Value.slice wa i wc).ownBlock = some j → w3.heap.size ≤ j ∧ j < wr.heap.size := fun j hj => by rw [own_blk] at hj; have := (KW.out.2.1.keepG KA.out).lt hj; exact ⟨this.1, (KW.out.2.1.lt hj).2⟩
          have G36 : w3.grownBy w6 none := grown_thenT ((KW.out.2.2.2.trans G5.out).trans (World.grownBy_alloc w52 _ none)) hgr6 (fun j hj => (hbk j hj).1)
          have K6 := Lib.hid (show ∃ ws : List Rv, ws.length = i + 1 ∧ Was w3.heap.size w6 (some ⟨g, 0, none⟩) cp ws ∧ (∀ k, k < i + 1 → (ws.getD k default).l.map Rw.l = rowsU s3.top.tr s3.ts (l.getD k default).n) ∧ w3.grownBy w6 none from ⟨ws ++ [⟨ra, rc, done⟩], by simp [KW.out.1], hw6, fun k hk => by
            rcases Nat.lt_or_ge k i with h | h
            · have e : (ws ++ [(⟨ra, rc, done⟩ : Rv)]).getD k default = ws.getD k default := by simp [List.getD, List.getElem?_append_left (show k < ws.length by rw [KW.out.1]; exact h)]
              rw [e]; exact KW.out.2.2.1 k h
            · obtain rfl : k = i := by omega
              have e : (ws ++ [(⟨ra, rc, done⟩ : Rv)]).getD k default = ⟨ra, rc, done⟩ := by simp [List.getD, KW.out.1]
              rw [e, ← Nm.out]; exact hdu, G36⟩)
          clear hdl hrs hdu hw6 hown6 hgr6 hat6 hlt6 hbk G36 hi5 hz0 hz1 hz2 D5 O5 KW KA G5 S5 bx SS HNo GN PN
          go_wp2_with fail
          go_roundw
          case rel => exact ⟨i + 1, cp, some ⟨g, 0, none⟩, by go_num, rfl, by omega, K6⟩
          case measure => simp [intOf]; omega
        · obtain rfl : n = i := by omega
          obtain ⟨ws, hwl, hwas, hws, hgr⟩ := K.out
          have XA := Lib.hid (XX.out.keepG hgr)
          have WA := Lib.hid (hwas.wa.1.mono (S' := fun b => ¬ s3.M b) (fun b _ hb e => by have := XX.out.at_.lt b e; omega))
          have WL := Lib.hid hwl
          have WS := Lib.hid hws
          have hwc : n ≤ wc := by rw [← hwl]; exact hwas.wa.2
          have hv0 := XX.out.at_.v0
          have hv1 : s3.v ≤ 40 := by have := V3.out; omega
          obtain ⟨fv, hfv⟩ : ∃ fv : Int, max 0 (s3.v - 5) = fv := ⟨_, rfl⟩
          have hfv1 : fv ≤ s3.v := by omega
          have i1 : IntKind.i64.wrap (s3.v - 5) = s3.v - 5 := by rw [IntKind.wrap_i64]; omega
          have i2 : IntKind.i64.wrap (s3.v + 1) = s3.v + 1 := by rw [IntKind.wrap_i64]; omega
          have HSi := Lib.hid (fun W (hW : wr.grownBy W none) => sinceX_any w1.heap.size s3 W fv (XA.out.keepG hW).at_ hfv1)
          rw [XA.out.hb] at HSi
          clear hwl hwas hws hgr K hfv1
          go_wp2_with fail
          refine (HSi.out _ (grown_reflT _ none)).mono ?_
          rintro e w5 ⟨⟨sa, sm, sc, rfl, D5⟩, hg5⟩
          have G5 := Lib.hid hg5
          clear hg5
          have HCm := Lib.hid (commit_any w1.heap.size G s3 a2 cap2 ol w5 (XA.out.keepG G5.out).at_ (XA.out.keepG G5.out).err ((XA.out.keepG G5.out).ops (S := fun j => j < w.heap.size) (fun k hk => Nat.lt_of_lt_of_le hk G1.out.size) ((H2.out _ (G1.out.trans (XA.out.keepG G5.out).gr)).ops (by first | exact HFz.out | exact HFz.out trivial))) (by rw [← Hn.out.2.2]; exact hc2) (by omega) (XA.out.keepG G5.out).gr.size)
          rw [XA.out.hb, ← Hn.out.2.2] at HCm
          go_wp2_with fail
          refine HCm.out.mono ?_
          rintro e w6 (⟨ce, hce, rfl, hg6⟩ | ⟨ms, s6, ca6, cap6, cl6, _, rfl, _, _, _, hw⟩)
          · have hcz := commitM_no hce
            have G6 := Lib.hid (G5.out.trans hg6)
            clear hce HCm
            go_wp2_with fail
            have G7 := Lib.hid (G6.out.trans (World.grownBy_alloc w6 (.cells #[.int .i64 0, .slice none 0 0] 50) none))
            have B7 := Lib.hid (heap_alloc_new w6 (.cells #[.int .i64 0, .slice none 0 0] 50))
            refine (HSi.out _ G7.out).mono ?_
            rintro e w7 ⟨⟨sa2, sm2, sc2, rfl, D7s⟩, hg7⟩
            have G8 := Lib.hid (G7.out.trans hg7)
            have B8 := Lib.hid (And.intro (hg7.cell (cell_of_row _ _ 0 _ _ _ B7.out) (by simp)) (hg7.cell (cell_of_row _ _ 1 _ _ _ B7.out) (by simp)))
            have D5w := Lib.hid (show ∃ cs5 : List Cm, cs5.length = sm ∧ sm ≤ sc ∧ CmS (fun b => b < w7.heap.size) w7 sa cs5 ∧ cs5.map Cm.p = sinceL s3 fv from by
              obtain ⟨c5, h1, h2, h3, h4⟩ := D5.out
              have hgg := (hg6.trans (World.grownBy_alloc w6 (.cells #[.int .i64 0, .slice none 0 0] 50) none)).trans hg7
              have hsz := hgg.size
              exact ⟨c5, h1, h2, (h3.mono (S' := fun b => b < w5.heap.size) (fun b hb _ => hb)).keep (.of hgg) |>.mono (fun b hb _ => hb), h4⟩)
            have D7w := Lib.hid (show ∃ cs7 : List Cm, cs7.length = sm2 ∧ sm2 ≤ sc2 ∧ CmS (fun b => b < w7.heap.size) w7 sa2 cs7 ∧ cs7.map Cm.p = sinceL s3 fv from by
              obtain ⟨c5, h1, h2, h3, h4⟩ := D7s.out
              exact ⟨c5, h1, h2, h3.mono (fun b hb _ => hb), h4⟩)
            clear hg7 hg6 HSi D5 D7s B7
            go_wp2_with fail
            generalize hwr : wr = w0 at *
            clear hwr
            go_loopw [120] (fun s120 wv => ∃ i : Nat, s120 = .int .i64 i ∧ i ≤ n ∧ Hid (w7.grownBy wv none)) (fun s120 _ => n - (intOf s120).toNat)
            case atStart => exact ⟨0, rfl, by omega, Lib.hid (grown_reflT _ none)⟩
            case round =>
              obtain ⟨i, rfl, hi2, K⟩ := hrel
              by_cases hlt3 : i < n
              · have gW : w.grownBy wr none := G1.out.trans (XA.out.gr.trans (G8.out.trans K.out))
                obtain ⟨tb, tof, rfl, _, c0, c1, c2⟩ := (HT.out wr gW).at (i := i) (by rw [← Hn.out.1]; exact hlt3)
                obtain ⟨nm, hnm⟩ : ∃ nm, nm = (l.getD i default).n := ⟨_, rfl⟩
                have Nm := Lib.hid hnm
                rw [← hnm] at c0
                generalize (l.getD i default).a = ta at *
                generalize (l.getD i default).l.length = tl at *
                generalize (l.getD i default).cap = tc at *
                generalize (l.getD i default).k = tk at *
                have i0 : (i : Int) ≤ cap := by omega
                have bx := Lib.hid (box3_new6 wr (.string nm) (.slice ta tl tc) (.int .i64 tk) 38)
                have gA := World.grownBy_alloc wr (.cells #[.string nm, .slice ta tl tc, .int .i64 tk] 38) none
                have HNo := Lib.hid (fun W (hW : (wr.alloc (.cells #[.string nm, .slice ta tl tc, .int .i64 tk] 38)).grownBy W none) => now_any w1.heap.size s3 W (XA.out.keepG ((G8.out.trans (K.out.trans gA)).trans hW)).at_)
                rw [XA.out.hb] at HNo
                have KA := Lib.hid (K.out.trans gA)
                have SS := Lib.hid (fun W (hW : (wr.alloc (.cells #[.string nm, .slice ta tl tc, .int .i64 tk] 38)).grownBy W none) => show W.cell? ⟨wr.heap.size, 0, none⟩ = some (.string nm) from hW.cell bx.out.1 (by simp))
                clear gW gA hnm K
                go_wp2_with fail
                refine wp_region_held_drew (S := (fun W => W.cell? ⟨wr.heap.size, 0, none⟩ = some (.string nm))) (by kernel_rfl) (SS.out _ (grown_drewT (grown_reflT _ none))) (fun hHeld => ?_)
                refine wpAnyH_take (i := 0) (v := ?vb0) rfl (by kernel_rfl) (by kernel_rfl) (by kernel_rfl) (fun _ _ _ h => h) (Or.inl ⟨by rfl, ?yb0⟩) (by assumption) ?rb0
                case yb0 => (intro w hSw; (try dsimp only at hSw); go_simp; try with_reducible rfl)
                simp only [Act.put, List.getElem_toArray, List.getElem_cons_zero, List.size_toArray, List.length_cons, List.length_nil, Nat.reduceAdd, Array.replicate, List.replicate, List.setIfInBounds_toArray, List.set_cons_zero, List.set_cons_succ]
                refine wpAnyH_take (i := 2) (v := ?vb2) rfl (by kernel_rfl) (by kernel_rfl) (by kernel_rfl) (fun _ _ _ h => h) (Or.inl ⟨by rfl, ?yb2⟩) (by assumption) ?rb2
                case yb2 => (intro w hSw; (try dsimp only at hSw); go_simp; try with_reducible rfl)
                simp only [Act.put, List.getElem_toArray, List.getElem_cons_succ, List.getElem_cons_zero, List.setIfInBounds_toArray, List.set_cons_zero, List.set_cons_succ]
                refine wpAnyH_take (i := 3) (v := ?vb3) rfl (by kernel_rfl) (by kernel_rfl) (by kernel_rfl) (fun _ _ _ h => h) (Or.inl ⟨by rfl, ?yb3⟩) (by assumption) ?rb3
                case yb3 => (intro w hSw; (try dsimp only at hSw); go_simp; try with_reducible rfl)
                simp only [Act.put, List.getElem_toArray, List.getElem_cons_succ, List.getElem_cons_zero, List.setIfInBounds_toArray, List.set_cons_zero, List.set_cons_succ]
                refine wpAnyH_ready (rs := [1]) (by kernel_rfl) (by simp) ?_
                refine AllReadyH.cons rfl (fun K' hK => ?_) AllReadyH.nil
                go_simp
                go_at_call 15
                refine (HNo.out _ (grown_drewT (grown_reflT _ none))).mono ?_
                rintro e w91 ⟨⟨p, rfl, _, hsn⟩, hg1⟩
                have GN := Lib.hid hg1
                have PN := Lib.hid hsn
                clear hsn hg1
                refine hK.out _ _ (SS.out _ ((grown_drewT (grown_reflT _ none)).trans GN.out)) (fun hHeld => ?_)
                clear hK K'
                simp only [List.setIfInBounds_toArray, List.set_cons_zero, List.set_cons_succ]
                refine wpAnyH_ready (rs := [4]) (by kernel_rfl) (by simp) ?_
                refine AllReadyH.cons rfl (fun K' hK => ?_) AllReadyH.nil
                go_simp
                go_at_call 19
                refine (rowsP2_any _ p s3.ca s3.cc s3.ts s3.top nm _ PN.out H6.out HTr.out).mono ?_
                rintro e w92 ⟨⟨ra, rc, rm, ec, rfl, hrc, hrm, D7⟩, hg2⟩
                have G5 := Lib.hid (((grown_drewT (grown_reflT _ none)).trans GN.out).trans hg2)
                clear hg2
                refine hK.out _ _ (SS.out _ G5.out) (fun hHeld => ?_)
                clear hK K'
                simp only [List.setIfInBounds_toArray, List.set_cons_zero, List.set_cons_succ]
                refine wpAnyH_take (i := 5) (v := ?vb5) rfl (by kernel_rfl) (by kernel_rfl) (by kernel_rfl) (fun _ _ _ h => h) (Or.inl ⟨by rfl, ?yb5⟩) (by assumption) ?rb5
                case yb5 => (intro w hSw; (try dsimp only at hSw); go_simp; try with_reducible rfl)
                simp only [Act.put, List.getElem_toArray, List.getElem_cons_succ, List.getElem_cons_zero, List.setIfInBounds_toArray, List.set_cons_zero, List.set_cons_succ]
                refine wpAnyH_take (i := 6) (v := ?vb6) rfl (by kernel_rfl) (by kernel_rfl) (by kernel_rfl) (fun _ _ _ h => h) (Or.inl ⟨by rfl, ?yb6⟩) (by assumption) ?rb6
                case yb6 => (intro w hSw; (try dsimp only at hSw); go_simp; try with_reducible rfl)
                simp only [Act.put, List.getElem_toArray, List.getElem_cons_succ, List.getElem_cons_zero, List.setIfInBounds_toArray, List.set_cons_zero, List.set_cons_succ]
                refine wpAnyH_take (i := 7) (v := ?vb7) rfl (by kernel_rfl) (by kernel_rfl) (by kernel_rfl) (fun _ _ _ h => h) (Or.inl ⟨by rfl, ?yb7⟩) (by assumption) ?rb7
                case yb7 => (intro w hSw; (try dsimp only at hSw); go_simp; try with_reducible rfl)
                simp only [Act.put, List.getElem_toArray, List.getElem_cons_succ, List.getElem_cons_zero, List.setIfInBounds_toArray, List.set_cons_zero, List.set_cons_succ]
                refine wpAnyH_take (i := 8) (v := ?vb8) rfl (by kernel_rfl) (by kernel_rfl) (by kernel_rfl) (fun _ _ _ h => h) (Or.inl ⟨by rfl, ?yb8⟩) (by assumption) ?rb8
                case yb8 => (intro w hSw; (try dsimp only at hSw); go_simp; try with_reducible rfl)
                simp only [Act.put, List.getElem_toArray, List.getElem_cons_succ, List.getElem_cons_zero, List.setIfInBounds_toArray, List.set_cons_zero, List.set_cons_succ]
                refine wpAnyH_take (i := 9) (v := ?vb9) rfl (by kernel_rfl) (by kernel_rfl) (by kernel_rfl) (fun _ _ _ h => h) (Or.inl ⟨by rfl, ?yb9⟩) (by assumption) ?rb9
                case yb9 => (intro w hSw; (try dsimp only at hSw); go_simp; try with_reducible rfl)
                simp only [Act.put, List.getElem_toArray, List.getElem_cons_succ, List.getElem_cons_zero, List.setIfInBounds_toArray, List.set_cons_zero, List.set_cons_succ]
                refine wpAnyH_done (by kernel_rfl) ?_ _
                have G9 := Lib.hid (KA.out.trans G5.out)
                have hiw : i < ws.length := by rw [WL.out]; exact hlt3
                have hW7 := WA.out.keep (.of (G8.out.trans G9.out))
                obtain ⟨gw, hgw, _, _, hcell⟩ := hW7.2.resolve_left (by intro e; rw [e] at hiw; simp at hiw)
                subst hgw
                have d0 := hcell i hiw
                obtain ⟨hy1, hy2⟩ := hW7.1 (ws.getD i default) (by simp [List.getD, hiw])
                have hy3 := WS.out i hlt3
                generalize ws.getD i default = y at *
                obtain ⟨ya, yc, yl⟩ := y
                simp only [Rv.v] at d0 hy1 hy2 hy3
                have HSm := Lib.hid (show Calls Tryz.prog 21 #[.slice ra rm rc, .slice ya yl.length yc] w92 (fun e w' => e = .returned (.bool true) ∧ w92.grownBy w' none) from by
                  obtain ⟨done, hdl, hrs, hdu⟩ := D7.out
                  have h := sameRows_any ra ya rc yc done yl w92 hrs.rs hy1.rs (by omega) hy2 (by rw [hdu, hy3, Nm.out])
                  rw [hdl] at h
                  exact h)
                generalize yl.length = ym at *
                have i1 : (i : Int) ≤ wc := by omega
                clear hy1 hy2 hy3 hW7 hcell hiw D7 bx KA SS HNo GN PN
                go_wp2_with fail
                refine HSm.out.mono ?_
                rintro e w8 ⟨rfl, hg8⟩
                have G10 := Lib.hid (G9.out.trans hg8)
                clear hg8 HSm
                go_wp2_with fail
                go_roundw
                case rel => exact ⟨i + 1, by go_num, by omega, G10⟩
                case measure => simp [intOf]; omega
              · obtain rfl : n = i := by omega
                have XZ := Lib.hid (XA.out.keepG (G8.out.trans K.out))
                have HV9 := Lib.hid (versionS_any w1.heap.size s3 wr XZ.out.at_)
                rw [XZ.out.hb] at HV9
                have HN9 := Lib.hid (fun W (hW : wr.grownBy W none) => now_any w1.heap.size s3 W (XZ.out.keepG hW).at_)
                rw [XZ.out.hb] at HN9
                have HTV := Lib.hid XZ.out.at_.topV
                have HSa := Lib.hid (fun W (hW : w7.grownBy W none) => show Calls Tryz.prog 23 #[.slice sa sm sc, .slice sa2 sm2 sc2] W (fun e w' => e = .returned (.bool true) ∧ W.grownBy w' none) from by
                  obtain ⟨c5, h1, h2, h3, h4⟩ := D5w.out
                  obtain ⟨c7, k1, k2, k3, k4⟩ := D7w.out
                  have h := sameCm_any _ _ sa sa2 sc sc2 c5 c7 W (h3.keep (.of hW)) (k3.keep (.of hW)) (by omega) (by omega) (h4.trans k4.symm)
                  rw [h1, k1] at h
                  exact h)
                have KK := Lib.hid K.out
                have BW := Lib.hid (fun W (hW : w7.grownBy W none) => show W.cell? ⟨w6.heap.size, 0, none⟩ = some (.int .i64 0) ∧ W.cell? ⟨w6.heap.size, 1, none⟩ = some (.slice none 0 0) from ⟨hW.cell B8.out.1 (by simp), hW.cell B8.out.2 (by simp)⟩)
                clear K
                have GT := Lib.hid (G1.out.trans (XA.out.gr.trans G8.out))
                go_wp2_with fail
                refine HV9.out.mono ?_
                rintro e w8 ⟨rfl, hg8⟩
                have Z8 := Lib.hid hg8
                clear hg8
                go_wp2_with fail
                refine (HN9.out _ Z8.out).mono ?_
                rintro e w9 ⟨⟨p, rfl, _, hsn⟩, hg9⟩
                have HVp := Lib.hid (versionP_any _ p s3.ca s3.cc s3.ts s3.top w9 hsn)
                rw [HTV.out] at HVp
                have Z9 := Lib.hid (KK.out.trans (Z8.out.trans hg9))
                obtain ⟨q0, q1⟩ := BW.out _ Z9.out
                clear hsn hg9
                go_wp2_with fail
                refine HVp.out.mono ?_
                rintro e w10 ⟨rfl, rfl⟩
                go_wp2_with fail
                refine (HSa.out _ Z9.out).mono ?_
                rintro e w11 ⟨rfl, hg11⟩
                have ZE := Lib.hid (GT.out.trans (Z9.out.trans hg11))
                clear hg11
                go_wp2_with fail
                go_ret
                exact ⟨rfl, below_grownT ZE.out⟩
          · have X6 : XG w1 G b l w6 s6 := ⟨hw.at_, (XA.out.keepG G5.out).err.only hw.only (fun j hj => Nat.le_trans XA.out.gb (XA.out.at_.low j hj)), hw.b.trans XA.out.hb, by rw [hw.ts]; exact XA.out.ts, XA.out.gb, only_grown (XA.out.keepG G5.out).gr hw.only XA.out.at_.low⟩
            have hv6 := hw.v
            have X7 := Lib.hid (X6.keepG (World.grownBy_alloc w6 (.cells #[.int .i64 (s3.v + 1), .slice ca6 cl6.length cap6] 50) none))
            have HV6 := Lib.hid (versionS_any w1.heap.size s6 _ X7.out.at_)
            rw [X7.out.hb, hv6] at HV6
            generalize cl6.length = cn6 at *
            have B7 := heap_alloc_new w6 (.cells #[.int .i64 (s3.v + 1), .slice ca6 cn6 cap6] 50)
            have B7 := Lib.hid B7
            clear hw X6 hv6 HCm
            go_wp2_with fail
            refine HV6.out.mono ?_
            rintro e w7 ⟨rfl, hg7⟩
            have d0 := hg7.cell (cell_of_row _ _ 0 _ _ _ B7.out) (by simp)
            have GE := Lib.hid (G1.out.trans (X7.out.gr.trans hg7))
            clear hg7
            go_wp2_with fail
            go_ret
            exact ⟨rfl, below_grownT GE.out⟩
end Go.Proofs.YtaggacffjbjchaaGreatDoor
namespace Go.Proofs.YtaggacffjbjchaaGreatDoor
open Go.ChangeShapes Go.WideShapes Go.ChangeAt Go.RowKit Go.Joins
open Go.ChangeMaps (open_string shut_string)

set_option maxRecDepth 100000 in
theorem storeRefuses_lifted (os : Os) (started : os.Started) (H : Type) (enc : TypeId × Value → H) :
    ReturnsInHanded {} Tryz.checked os 4 .any (fun w args => (Rows.storeRefusesSpec.pre enc Tryz.prog Tryz.f4 [] false w args ∧ laidMetH Tryz.prog laid9s w) ∧ sizedMet enc Tryz.prog Tryz.f4 (OpenSpec.ofChange Rows.storeRefusesSpec) false w args)
      (Rows.storeRefusesSpec.post enc Tryz.prog Tryz.f4 false true false false) := by
  refine returnsInHanded_of_change_and (C := Tryz.checked) (X := fun w _ => laidMetH Tryz.prog laid9s w) (fun _ _ _ hh h => h.of_heap hh) own started (by kernel_rfl) Tryz.func4
    (ChangeSpec.witness_shaped (enc := enc) (C := Tryz.checked) (os := os) (X := fun w _ => laidMetH Tryz.prog laid9s w) false (World.doorLaid Tryz.prog 400 os) #[.slice none 0 0, .slice none 0 0, .slice none 0 0] 8 rfl (World.shaped_of_RefB (by kernel_rfl) (by kernel_rfl)) (by kernel_rfl) (by kernel_rfl) (by kernel_rfl) (door_met9s os _)) ?_
  intro W base args ds gs before hval0 hW _ _ hL _
  have hval : ∀ (j : Nat) t v, Tryz.f4.params[j]? = some t → args[j]? = some v → Value.okWide Tryz.prog W .any base t v := hval0
  have hW' := hW
  obtain ⟨p, q, hA0, hV, rfl, hfz, hnd⟩ := hW
  have hA : DataW.TrodAll enc Tryz.prog W 0 (fun _ => true) true Tryz.f4.params.toList args.toList ds p := hA0
  rw [Tryz.params4] at hA hval
  obtain ⟨v0, v1, v2, d0, d1, d2, p0, p1, p2, rfl, rfl, rfl, h0, h1, h2⟩ := trodAll_three hA
  obtain ⟨rfl, rfl⟩ := trodVars_none hV
  have kk0 := h0
  have lt0 : ∀ x ∈ p0, x.block < W.heap.size := by obtain ⟨m, hm⟩ := kk0; exact DataW.trod_lt m _ _ _ hm
  obtain ⟨a0, cap0, l0, rfl, hc0, row0, hcs0, hN0⟩ := open_tables9 (hval 0 22 v0 rfl rfl) h0
  have kk1 := h1
  have lt1 : ∀ x ∈ p1, x.block < W.heap.size := by obtain ⟨m, hm⟩ := kk1; exact DataW.trod_lt m _ _ _ hm
  obtain ⟨a1, cap1, l1, rfl, hc1, row1⟩ := open_commits9 (hval 1 43 v1 rfl rfl) h1
  have kk2 := h2
  have lt2 : ∀ x ∈ p2, x.block < W.heap.size := by obtain ⟨m, hm⟩ := kk2; exact DataW.trod_lt m _ _ _ hm
  obtain ⟨a2, cap2, l2, rfl, hc2, row2⟩ := open_ops9 (hval 2 44 v2 rfl rfl) h2
  clear hA0 hval0
  simp only [List.append_nil] at hW'
  refine (StoreRefuses_any W.heap.size a0 a1 a2 cap0 cap1 cap2 l0 l1 l2 W row0 hc0 hcs0 hN0 row1 hc1 row2 hc2 (whyG_of9s hL) (errT_of9s hL) (Nat.le_refl _)).mono fun e W' ⟨he, hb⟩ => ?_
  subst he
  exact ⟨_, rfl, _, _, _, [], _, [], hW', trodAll_mk1 (shut_bool Tryz.underlying4 _), trodAll_mk3 (Below.trod laidOut (by kernel_rfl) (of_decide_eq_true (by kernel_rfl)) kk0 hb lt0) (Below.trod laidOut (by kernel_rfl) (of_decide_eq_true (by kernel_rfl)) kk1 hb lt1) (Below.trod laidOut (by kernel_rfl) (of_decide_eq_true (by kernel_rfl)) kk2 hb lt2), rfl, hb.frame _, fun h => by cases h⟩

theorem storeRefuses_holds : Rows.StoreRefusesSaid :=
  OpenClaim.holds_of_wide 4 Tryz.f4 rfl rfl rfl rfl rfl rfl rfl ⟨rfl, rfl, rfl, rfl, rfl⟩ rfl rfl rfl rfl rfl (by kernel_rfl) Tryz.func4 (by kernel_rfl)
    (of_decide_eq_true (by kernel_rfl)) (by unfold Func.isWrapper; first | (rw [if_pos (by decide +kernel)]; kernel_rfl) | (rw [if_neg (by decide +kernel)]; exact ⟨rfl, rfl⟩))
    (fun os started H enc _ => storeRefuses_lifted os started H enc)

theorem storeRefuses_card : Rows.StoreRefusesCardSaid :=
  Claim7.holds_tied_plain_at .later [] [.handle, .sentinel, .sentinel, .sentinel, .sentinel, .sentinel, .sentinel, .sentinel, .sentinel] true Rows.storeRefusesCard.stood.harness true
    storeRefuses_holds (fun _ h => by cases h) (by kernel_rfl) (fun _ h => by cases h) storeRefuses_row_tie rfl ⟨rfl, rfl⟩ (by kernel_rfl) rfl
    (fun f fn hf hfn => by
      obtain rfl : f = 4 := Option.some.inj ((show Tryz.prog.funcNamed "stillroom/stillroomlaw09.StoreRefuses" = some 4 by kernel_rfl).symm.trans hf) |>.symm
      obtain rfl : fn = Tryz.f4 := (Option.some.inj (Tryz.func4.symm.trans hfn)).symm
      exact ⟨by kernel_rfl, fun j t ht => by
        rw [Tryz.params4] at ht
        have hm : t ∈ [22, 43, 44] := by simpa using Array.mem_of_getElem? ht
        have hall : ([22, 43, 44].all fun u => !Tryz.prog.wantsStandIn u) = true := by kernel_rfl
        exact (show Tryz.prog.wantsStandIn t = false by simpa using List.all_eq_true.1 hall t hm)⟩)
    (by kernel_rfl)
#print axioms storeRefuses_card
end Go.Proofs.YtaggacffjbjchaaGreatDoor
