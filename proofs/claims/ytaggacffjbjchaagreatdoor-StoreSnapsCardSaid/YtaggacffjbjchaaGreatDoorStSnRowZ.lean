/- The law StoreSnaps walked. PROVED: the card of StoreSnaps: at every input, in whatever memory that meets the row's listed variables (which the card ties to the program's text), the call returns true and its arguments read as they did. No condition of our own. -/
import Derived.Test.YtaggacffjbjchaaGreatDoorStBbZ
import Derived.Test.YtaggacffjbjchaaGreatDoorZa10
import Derived.Test.YtaggacffjbjchaaGreatDoorZa01
import Derived.Test.YtaggacffjbjchaaGreatDoorCards
import Derived.Test.YtaggacffjbjchaaGreatDoorTie
import Derived.SevenTiedAt
namespace Go.Proofs.YtaggacffjbjchaaGreatDoor
open Go.RowKit

set_option maxRecDepth 100000 in
set_option maxHeartbeats 12800000 in
theorem StoreSnaps_any (G : Nat) (a a1 a2 : Ptr) (cap cap1 cap2 : Nat) (l : List Tb) (cs ds : List Cw) (w : World) (h : TabsAt w.heap.size w a l) (hcap : l.length ≤ cap) (hcs : ∀ t ∈ l, t.l.length ≤ t.cap) (hN : ∀ t ∈ l, t.n.size ≤ 9223372036854775807 ∧ ∀ i, i < t.l.length → (t.l.getD i default).n.size ≤ 9223372036854775807) (h1 : CmG (fun j => j < w.heap.size) w a1 cs) (hc1 : cs.length ≤ cap1) (h2 : CmG (fun j => j < w.heap.size) w a2 ds) (hc2 : ds.length ≤ cap2) (hw : WhyG w) (hE : ErrT G w) (hG : G ≤ w.heap.size) :
    Calls Tryz.prog 6 #[.slice a l.length cap, .slice a1 cs.length cap1, .slice a2 ds.length cap2] w fun e w' => e = .returned (.bool true) ∧ Below w.heap.size w w' := by
  have HA := Lib.hid (fun W (hW : w.grownBy W none) => awake9_any G W (hw.grown hW) (hE.grown hW) (Nat.le_trans hG hW.size))
  have HM := Lib.hid (fun W (hW : w.grownBy W none) => make_any G a cap l W ((h.keep hW (by simp)).mono hW.size) hcap hcs hN (hw.grown hW) (hE.grown hW))
  have HT := Lib.hid (fun W (hW : w.grownBy W none) => show TbsS (fun j => j < w.heap.size) W a l from ((TbsS.of h).mono (fun b hb _ => hb)).keep (.of hW))
  have H1 := Lib.hid (fun W (hW : w.grownBy W none) => h1.keep (.of hW))
  have H2 := Lib.hid (fun W (hW : w.grownBy W none) => h2.keep (.of hW))
  have HE := Lib.hid (And.intro hE hG)
  have hl0 := h.1
  obtain ⟨n, hn⟩ : ∃ n, n = l.length := ⟨_, rfl⟩
  obtain ⟨c, hc⟩ : ∃ c, c = cs.length := ⟨_, rfl⟩
  obtain ⟨d, hd⟩ : ∃ d, d = ds.length := ⟨_, rfl⟩
  have Hn := Lib.hid (And.intro hn (And.intro hc hd))
  have hc0 := h1.1
  have hd0 := h2.1
  rw [← hn] at HM hcap hl0 ⊢
  rw [← hc] at hc1 hc0 ⊢
  rw [← hd] at hc2 hd0 ⊢
  clear h hcs hN h1 h2 hw hE hG hn hc hd
  go_enter Tryz.func6, Tryz.ntmps6
  go_wp2_with fail
  refine (HA.out _ (grown_reflT _ none)).mono ?_
  rintro e w1 ⟨rfl, hg1⟩
  have G1 := Lib.hid hg1
  clear hg1
  by_cases hb1 : (20 : Int) < c
  · go_wp2_with fail
    refine (HA.out _ G1.out).mono ?_
    rintro e w2 ⟨rfl, hg2⟩
    have G2 := Lib.hid (G1.out.trans hg2)
    clear hg2
    go_wp2_with fail
    go_ret
    exact ⟨rfl, below_grownT G2.out⟩
  by_cases hb2 : (50 : Int) < d
  · go_wp2_with fail
    refine (HA.out _ G1.out).mono ?_
    rintro e w2 ⟨rfl, hg2⟩
    have G2 := Lib.hid (G1.out.trans hg2)
    clear hg2
    go_wp2_with fail
    go_ret
    exact ⟨rfl, below_grownT G2.out⟩
  go_wp2_with fail
  refine (HM.out _ G1.out).mono ?_
  rintro e w2 ⟨hmk, hg2⟩
  have G2 := Lib.hid (G1.out.trans hg2)
  rcases hmk with rfl | ⟨hr, s, q, rfl, hs⟩
  · clear hg2
    go_wp2_with fail
    go_ret
    exact ⟨rfl, below_grownT (G2.out.trans (World.grownBy_alloc _ _ none))⟩
  have XF := Lib.hid (hs.xg (HE.out.1.grown G1.out) (Nat.le_trans HE.out.2 G1.out.size) hg2)
  have VF := Lib.hid hs.2.1
  have HR := Lib.hid hr
  clear hs hg2 hr
  generalize s.b = b at *
  go_wp2_with fail
  go_loopw [53] (fun s53 wr => ∃ j : Nat, s53 = .int .i64 j ∧ j ≤ c ∧ Hid (∃ s, XG w1 G b l wr s ∧ s.v ≤ j)) (fun s53 _ => c - (intOf s53).toNat)
  case atStart => exact ⟨0, rfl, by omega, Lib.hid ⟨s, XF.out.keepG (World.grownBy_alloc _ _ none), by rw [VF.out]; exact Int.le_refl 0⟩⟩
  case round =>
    obtain ⟨j, rfl, hj, K⟩ := hrel
    by_cases hlt : j < c
    · obtain ⟨sj, hx, hv⟩ := K.out
      have gW : w.grownBy wr none := G1.out.trans hx.gr
      obtain ⟨⟨ob, oo, rfl, c0⟩, ho, hoc⟩ := (H1.out wr gW).at (i := j) (by rw [← Hn.out.2.1]; exact hlt)
      generalize cs.getD j default = x at *
      obtain ⟨xa, xc, xl⟩ := x
      simp only [Cw.v] at c0 ho hoc
      have HFi := Lib.hid (fits_anyR _ xa xc xl wr ho hoc)
      have HCo := Lib.hid (fun (hf : ∀ o ∈ xl, o.r.l.length ≤ 20) W (hW : wr.grownBy W none) => ((hx.keepG hW).commit xa xc xl ((hx.keepG hW).ops (S := fun j => j < w.heap.size) (fun k hk => Nat.lt_of_lt_of_le hk G1.out.size) ((ho.keep (.of hW)).ops hf)) hoc (by omega)))
      have X := Lib.hid hx
      have V := Lib.hid hv
      generalize xl.length = xm at *
      have j0 : (j : Int) ≤ cap1 := by omega
      clear hx hv gW ho hoc K
      go_wp2_with fail
      refine HFi.out.mono ?_
      rintro e w3 ⟨⟨fb, rfl, hfb⟩, hg3⟩
      have HFb := Lib.hid hfb
      clear hfb
      have G3 := Lib.hid hg3
      clear hg3 HFi
      cases fb
      · go_wp2_with fail
        go_roundw
        case rel => exact ⟨j + 1, by go_num, by omega, Lib.hid ⟨sj, X.out.keepG G3.out, by have := V.out; push_cast; omega⟩⟩
        case measure => simp [intOf]; omega
      · go_wp2_with fail
        refine (HCo.out (HFb.out (by simp)) _ G3.out).mono ?_
        rintro e w4 ⟨⟨v4, rfl⟩, s4, hx4, _, hv4, _⟩
        have X4 := Lib.hid (And.intro hx4 hv4)
        clear hx4 hv4
        go_wp2_with fail
        go_roundw
        case rel => exact ⟨j + 1, by go_num, by omega, Lib.hid ⟨s4, X4.out.1, by have := V.out; have := X4.out.2; push_cast; omega⟩⟩
        case measure => simp [intOf]; omega
    · obtain rfl : c = j := by omega
      obtain ⟨s3, hx3, hv3⟩ := K.out
      have HNo := Lib.hid (now_any w1.heap.size s3 wr hx3.at_)
      rw [hx3.hb] at HNo
      have X3 := Lib.hid hx3
      have V3 := Lib.hid hv3
      clear hx3 hv3 K
      go_wp2_with fail
      refine HNo.out.mono ?_
      rintro e w3 ⟨⟨p, rfl, _, hsn⟩, hg3⟩
      have HV := Lib.hid (versionP_any _ p s3.ca s3.cc s3.ts s3.top w3 hsn)
      have P3 := Lib.hid hsn
      have XX := Lib.hid (X3.out.keepG hg3)
      clear hsn hg3 HNo X3
      go_wp2_with fail
      refine HV.out.mono ?_
      rintro e w4 ⟨rfl, rfl⟩
      go_wp2_with fail
      have HTr := Lib.hid (XX.out.at_.trs _ XX.out.at_.topMem)
      have H6 := Lib.hid XX.out.at_.ok.six
      go_loopw [69, 14] (fun s69 s14 wr => ∃ (i wc : Nat) (wa : Ptr), s69 = .int .i64 i ∧ s14 = .slice wa i wc ∧ i ≤ n ∧ Hid (∃ ws : List Rv, ws.length = i ∧ Was w3.heap.size wr wa wc ws ∧ (∀ k, k < i → (ws.getD k default).l.map Rw.l = rowsU s3.top.tr s3.ts (l.getD k default).n) ∧ w3.grownBy wr none)) (fun s69 _ _ => n - (intOf s69).toNat)
      case atStart => exact ⟨0, 0, none, rfl, rfl, by omega, Lib.hid ⟨[], rfl, Was.nil _ _, fun k hk => by omega, grown_reflT _ _⟩⟩
      case round =>
        obtain ⟨i, wc, wa, rfl, rfl, hi, K⟩ := hrel
        by_cases hlt2 : i < n
        · obtain ⟨ws, hwl, hwas, hws, hgr⟩ := K.out
          have gW : w.grownBy wr none := G1.out.trans (XX.out.gr.trans hgr)
          obtain ⟨tb, tof, rfl, _, c0, c1, c2⟩ := (HT.out wr gW).at (i := i) (by rw [← Hn.out.1]; exact hlt2)
          obtain ⟨nm, hnm⟩ : ∃ nm, nm = (l.getD i default).n := ⟨_, rfl⟩
          have Nm := Lib.hid hnm
          rw [← hnm] at c0
          generalize (l.getD i default).a = ta at *
          generalize (l.getD i default).l.length = tl at *
          generalize (l.getD i default).cap = tc at *
          generalize (l.getD i default).k = tk at *
          have i0 : (i : Int) ≤ cap := by omega
          have bx := Lib.hid (box3_new6 wr (.string nm) (.slice ta tl tc) (.int .i64 tk) 38)
          have gA := World.grownBy_alloc wr (.cells #[.string nm, .slice ta tl tc, .int .i64 tk] 38) none
          have HR1 := Lib.hid (rowsP2_any _ p s3.ca s3.cc s3.ts s3.top nm _ (P3.out.keep (.of (hgr.trans gA))) H6.out HTr.out)
          have HR2 := Lib.hid (fun W (hW : (wr.alloc (.cells #[.string nm, .slice ta tl tc, .int .i64 tk] 38)).grownBy W none) => rowsP2_any _ p s3.ca s3.cc s3.ts s3.top nm W (P3.out.keep (.of ((hgr.trans gA).trans hW))) H6.out HTr.out)
          have KW := Lib.hid (And.intro hwl (And.intro hwas (And.intro hws (hgr.trans gA))))
          have KA := Lib.hid gA
          clear hwl hwas hws hgr gW gA hnm K
          go_wp2_with fail
          refine HR1.out.mono ?_
          rintro e w5 ⟨⟨ra, rc, rm, ec, rfl, hrc, hrm, D5⟩, hg5⟩
          have G5 := Lib.hid hg5
          have d0 := hg5.cell bx.out.1 (by simp)
          clear hg5 HR1
          obtain ⟨i5, hi5, hz0, hz1, hz2⟩ := info_partsG rows_info
          have O5 := Lib.hid (show w5.ownsRow w3.heap.size 54 1 (.slice wa i wc) i (ws.map Rv.v) by have := (KW.out.2.1.keepG (KA.out.trans G5.out)).1; rw [KW.out.1] at this; exact this)
          have S5 := Lib.hid (show w3.heap.size ≤ w5.heap.size from (KW.out.2.2.2.trans G5.out).size)
          have hn6 : n ≤ 6 := by have := HR.out; rw [Hn.out.1]; rcases Nat.lt_or_ge 6 l.length with h | h; (have := (this 6 h).1.1; omega); exact h
          go_wp2_with (at_builtin; refine wpList_append_lies _ rfl _ _ 53 rfl w3.heap.size 54 i5 (.slice none 0 0) 1 24 Tryz.underlying53 hi5 hz0 hz1 hz2 rfl (by decide) (.slice wa i wc) i (ws.map Rv.v) rfl (World.ownsRow.alloc O5.out _) ⟨w5.heap.size, 0, none⟩ 1 1 [.slice ra rm rc] rfl rfl (World.news_of_block (heap_alloc_new w5 _)) (by intro u hu; simp only [List.mem_cons, List.not_mem_nil, or_false] at hu; rw [hu]; rfl) (by decide) (by unfold maxLen; omega) (by omega) (by simp; have := S5.out; omega) _ rfl ?_)
          intro g cp w6 hown6 hgr6 hat6 hlt6
          obtain ⟨done, hdl, hrs, hdu⟩ := D5.out
          have hw6 := (KW.out.2.1.keepG KA.out).app (x := ⟨ra, rc, done⟩) (o := .cells #[.slice ra rm rc] 54) (KW.out.2.2.2.size) G5.out hrs (by simp only; omega) (by rw [KW.out.1]; simp only [Rv.v, hdl]; exact hown6) (by rw [KW.out.1]; exact hgr6) (by rw [KW.out.1]; simpa using hat6)
          have hlt5 := KA.out.size
          have hlt6 := G5.out.size
          have hbk : ∀ j, (Value.slice wa i wc).ownBlock = some j → w3.heap.size ≤ j ∧ j < wr.heap.size := fun j hj => by rw [own_blk] at hj; exact KW.out.2.1.lt hj
          have G36 : w3.grownBy w6 none := grown_thenT ((KW.out.2.2.2.trans G5.out).trans (World.grownBy_alloc w5 _ none)) hgr6 (fun j hj => (hbk j hj).1)
          have e0 : w6.cell? ⟨wr.heap.size, 0, none⟩ = some (.string nm) := by
            have hb := World.block_lt_of_cell? w5 _ d0
            have e1 := (hgr6.block wr.heap.size (by simp; omega) (fun e => by have := (hbk _ e.symm).2; omega)).trans ((World.grownBy_alloc w5 (.cells #[.slice ra rm rc] 54) none).block wr.heap.size hb (by simp))
            exact (World.cell?_of_block (a := ⟨wr.heap.size, 0, none⟩) e1).trans d0
          have HR6 := Lib.hid (rowsP2_any _ p s3.ca s3.cc s3.ts s3.top nm w6 (P3.out.keep (.of G36)) H6.out HTr.out)
          have K6 := Lib.hid (show ∃ ws : List Rv, ws.length = i + 1 ∧ Was w3.heap.size w6 (some ⟨g, 0, none⟩) cp ws ∧ (∀ k, k < i + 1 → (ws.getD k default).l.map Rw.l = rowsU s3.top.tr s3.ts (l.getD k default).n) ∧ w3.grownBy w6 none from ⟨ws ++ [⟨ra, rc, done⟩], by simp [KW.out.1], hw6, fun k hk => by
            rcases Nat.lt_or_ge k i with h | h
            · have e : (ws ++ [(⟨ra, rc, done⟩ : Rv)]).getD k default = ws.getD k default := by simp [List.getD, List.getElem?_append_left (show k < ws.length by rw [KW.out.1]; exact h)]
              rw [e]; exact KW.out.2.2.1 k h
            · obtain rfl : k = i := by omega
              have e : (ws ++ [(⟨ra, rc, done⟩ : Rv)]).getD k default = ⟨ra, rc, done⟩ := by simp [List.getD, KW.out.1]
              rw [e, ← Nm.out]; exact hdu, G36⟩)
          clear hdl hrs hdu hw6 hown6 hgr6 hat6 hlt6 hlt5 hbk G36 d0 hi5 hz0 hz1 hz2 HR2 D5 O5 KW KA G5 S5 bx
          go_wp2_with fail
          refine HR6.out.mono ?_
          rintro e w7 ⟨⟨ra2, rc2, rm2, ec2, rfl, hrc2, hrm2, D7⟩, hg7⟩
          have G7 := Lib.hid hg7
          clear hg7 HR6
          go_wp2_with fail
          generalize hwr : wr = w0 at *
          clear hwr
          go_loopw [93] (fun s93 wv => ∃ j : Nat, s93 = .int .i64 j ∧ j ≤ rm2 ∧ Hid (Marred w6.heap.size (blk ra2) w7 wv)) (fun s93 _ => rm2 - (intOf s93).toNat)
          case atStart => exact ⟨0, rfl, by omega, Lib.hid (Marred.refl _ _ _)⟩
          case round =>
            obtain ⟨j, rfl, hj, M⟩ := hrel
            by_cases hlt3 : j < rm2
            · obtain ⟨done2, hdl2, hrs2, _⟩ := D7.out
              have hjd : j < done2.length := by omega
              have hz := hrs2.2.1 (done2.getD j default) (by simp [List.getD, hjd])
              obtain ⟨gb, hgb, _, hglt, hcell⟩ := hrs2.2.2.resolve_left (by intro e; rw [e] at hjd; simp at hjd)
              subst hgb
              have d0 := M.out.cell (hcell j hjd)
              have hz := Lib.hid hz
              generalize done2.getD j default = z at *
              obtain ⟨za, zc, zl⟩ := z
              obtain ⟨zn, hzn⟩ : ∃ zn, zn = zl.length := ⟨_, rfl⟩
              have Hz := Lib.hid hzn
              simp only [Rw.v] at d0
              rw [← hzn] at d0
              have j1 : (j : Int) ≤ rc2 := by omega
              have hzm : zn ≤ 4294967296 := by rw [hzn]; exact hz.out.1.1
              clear hdl2 hrs2 hjd hglt hcell hzn
              go_wp2_with fail
              generalize hwr : wr = w8 at *
              clear hwr
              go_loopw [99] (fun s99 wu => ∃ q : Nat, s99 = .int .i64 q ∧ q ≤ zn ∧ Hid (Marred w6.heap.size (blk (some ⟨gb, 0, none⟩)) w7 wu)) (fun s99 _ => zn - (intOf s99).toNat)
              case atStart => exact ⟨0, rfl, by omega, M⟩
              case round =>
                obtain ⟨q, rfl, hq, M2⟩ := hrel
                by_cases hlt4 : q < zn
                · obtain ⟨b', off', ea, ⟨hb1, hb2⟩, hth⟩ := rw_thereQ (q := q) hz.out (by simp only; rw [← Hz.out]; exact hlt4)
                  simp only at ea
                  subst ea
                  have ht3 := M2.out.still _ _ _ hth
                  have MM := Lib.hid (M2.out.step hb1 hb2 (off' + q * 3) nine.toList)
                  have k3 : (q : Int) < zn := by omega
                  have k2 : (0 : Int) ≤ (q : Int) := Int.natCast_nonneg _
                  clear hth hb1 hb2
                  go_wp2_with (refine wpList_store_mid rfl 79 (.tmp 105) (.tmp 104) rfl b' (off' + q * 3) nine (by rfl) (by rfl) ht3 val_size3 nine_one ?_)
                  go_roundw
                  case rel => exact ⟨q + 1, by go_num, by omega, MM⟩
                  case measure => simp [intOf]; omega
                · obtain rfl : zn = q := by omega
                  go_wp2_with fail
                  go_roundw
                  case rel => exact ⟨j + 1, by go_num, by omega, M2⟩
                  case measure => simp [intOf]; omega
            · obtain rfl : rm2 = j := by omega
              have G9 := Lib.hid (M.out.grown G7.out)
              go_wp2_with fail
              go_roundw
              case rel => exact ⟨i + 1, cp, some ⟨g, 0, none⟩, by go_num, rfl, by omega, Lib.hid (K6.out.imp fun ws h => ⟨h.1, h.2.1.keepG G9.out, h.2.2.1, h.2.2.2.trans G9.out⟩)⟩
              case measure => simp [intOf]; omega
        · obtain rfl : n = i := by omega
          obtain ⟨ws, hwl, hwas, hws, hgr⟩ := K.out
          have gA : w1.grownBy wr none := XX.out.gr.trans hgr
          have XA := Lib.hid (XX.out.keepG hgr)
          have PA := Lib.hid (P3.out.keep (.of hgr))
          have WA := Lib.hid (hwas.wa.1.mono (S' := fun b => ¬ s3.M b) (fun b _ hb e => by have := XX.out.at_.lt b e; omega))
          have WL := Lib.hid hwl
          have WS := Lib.hid hws
          have hwc : n ≤ wc := by rw [← hwl]; exact hwas.wa.2
          clear hwl hwas hws hgr gA K
          go_wp2_with fail
          generalize hwr : wr = w5 at *
          clear hwr
          go_loopw [111] (fun s111 wv => ∃ j : Nat, s111 = .int .i64 j ∧ j ≤ d ∧ Hid (∃ s, XG w1 G b l wv s ∧ s.v ≤ 20 + j ∧ Apart9 s3 s w5 wv)) (fun s111 _ => d - (intOf s111).toNat)
          case atStart => exact ⟨0, rfl, by omega, Lib.hid ⟨s3, XA.out, by have := V3.out; omega, Apart9.refl _ _⟩⟩
          case round =>
            obtain ⟨j, rfl, hj, K⟩ := hrel
            by_cases hlt : j < d
            · obtain ⟨sj, hx, hv, hap⟩ := K.out
              have gW : w.grownBy wr none := G1.out.trans hx.gr
              obtain ⟨⟨ob, oo, rfl, c0⟩, ho, hoc⟩ := (H2.out wr gW).at (i := j) (by rw [← Hn.out.2.2]; exact hlt)
              generalize ds.getD j default = x at *
              obtain ⟨xa, xc, xl⟩ := x
              simp only [Cw.v] at c0 ho hoc
              have HFi := Lib.hid (fits_anyR _ xa xc xl wr ho hoc)
              have HCo := Lib.hid (fun (hf : ∀ o ∈ xl, o.r.l.length ≤ 20) W (hW : wr.grownBy W none) => ((hx.keepG hW).commit xa xc xl ((hx.keepG hW).ops (S := fun j => j < w.heap.size) (fun k hk => Nat.lt_of_lt_of_le hk G1.out.size) ((ho.keep (.of hW)).ops hf)) hoc (by omega)))
              have X := Lib.hid hx
              have V := Lib.hid (And.intro hv hap)
              generalize xl.length = xm at *
              have j0 : (j : Int) ≤ cap2 := by omega
              clear hx hv gW ho hoc K hap
              go_wp2_with fail
              refine HFi.out.mono ?_
              rintro e w6 ⟨⟨fb, rfl, hfb⟩, hg6⟩
              have HFb := Lib.hid hfb
              clear hfb
              have G6 := Lib.hid hg6
              clear hg6 HFi
              cases fb
              · go_wp2_with fail
                go_roundw
                case rel => exact ⟨j + 1, by go_num, by omega, Lib.hid ⟨sj, X.out.keepG G6.out, by have := V.out.1; push_cast; omega, V.out.2.grown G6.out⟩⟩
                case measure => simp [intOf]; omega
              · go_wp2_with fail
                refine (HCo.out (HFb.out (by simp)) _ G6.out).mono ?_
                rintro e w7 ⟨⟨v7, rfl⟩, s7, hx7, _, hv7, hap7⟩
                have X7 := Lib.hid (And.intro hx7 (And.intro hv7 ((V.out.2.grown G6.out).trans hap7)))
                clear hx7 hv7 hap7
                go_wp2_with fail
                go_roundw
                case rel => exact ⟨j + 1, by go_num, by omega, Lib.hid ⟨s7, X7.out.1, by have := V.out.1; have := X7.out.2.1; push_cast; omega, X7.out.2.2⟩⟩
                case measure => simp [intOf]; omega
            · obtain rfl : d = j := by omega
              obtain ⟨s6, hx6, _, hap⟩ := K.out
              have X6 := Lib.hid hx6
              have P6 := Lib.hid (hap.snp PA.out)
              have W6 := Lib.hid (hap.wa WA.out)
              clear hx6 hap K PA WA XA
              go_wp2_with fail
              generalize hwr : wr = w6 at *
              clear hwr
              go_loopw [123] (fun s123 wv => ∃ i : Nat, s123 = .int .i64 i ∧ i ≤ n ∧ Hid (w6.grownBy wv none)) (fun s123 _ => n - (intOf s123).toNat)
              case atStart => exact ⟨0, rfl, by omega, Lib.hid (grown_reflT _ none)⟩
              case round =>
                obtain ⟨i, rfl, hi, K⟩ := hrel
                by_cases hlt2 : i < n
                · have gW : w.grownBy wr none := G1.out.trans (X6.out.gr.trans K.out)
                  obtain ⟨tb, tof, rfl, _, c0, c1, c2⟩ := (HT.out wr gW).at (i := i) (by rw [← Hn.out.1]; exact hlt2)
                  obtain ⟨nm, hnm⟩ : ∃ nm, nm = (l.getD i default).n := ⟨_, rfl⟩
                  have Nm := Lib.hid hnm
                  rw [← hnm] at c0
                  generalize (l.getD i default).a = ta at *
                  generalize (l.getD i default).l.length = tl at *
                  generalize (l.getD i default).cap = tc at *
                  generalize (l.getD i default).k = tk at *
                  have i0 : (i : Int) ≤ cap := by omega
                  have bx := Lib.hid (box3_new6 wr (.string nm) (.slice ta tl tc) (.int .i64 tk) 38)
                  have gA := World.grownBy_alloc wr (.cells #[.string nm, .slice ta tl tc, .int .i64 tk] 38) none
                  have HR1 := Lib.hid (rowsP2_any _ p s3.ca s3.cc s3.ts s3.top nm _ (P6.out.keep (.of (K.out.trans gA))) H6.out HTr.out)
                  have KA := Lib.hid (K.out.trans gA)
                  clear gW gA hnm K
                  go_wp2_with fail
                  refine HR1.out.mono ?_
                  rintro e w7 ⟨⟨ra, rc, rm, ec, rfl, hrc, hrm, D7⟩, hg7⟩
                  have G7 := Lib.hid (KA.out.trans hg7)
                  clear hg7 HR1
                  have hiw : i < ws.length := by rw [WL.out]; exact hlt2
                  have hW7 := W6.out.keep (.of G7.out)
                  obtain ⟨gw, hgw, _, _, hcell⟩ := hW7.2.resolve_left (by intro e; rw [e] at hiw; simp at hiw)
                  subst hgw
                  have d0 := hcell i hiw
                  obtain ⟨hy1, hy2⟩ := hW7.1 (ws.getD i default) (by simp [List.getD, hiw])
                  have hy3 := WS.out i hlt2
                  generalize ws.getD i default = y at *
                  obtain ⟨ya, yc, yl⟩ := y
                  simp only [Rv.v] at d0 hy1 hy2 hy3
                  have HSm := Lib.hid (show Calls Tryz.prog 21 #[.slice ra rm rc, .slice ya yl.length yc] w7 (fun e w' => e = .returned (.bool true) ∧ w7.grownBy w' none) from by
                    obtain ⟨done, hdl, hrs, hdu⟩ := D7.out
                    have h := sameRows_any ra ya rc yc done yl w7 hrs.rs hy1.rs (by omega) hy2 (by rw [hdu, hy3, Nm.out])
                    rw [hdl] at h
                    exact h)
                  generalize yl.length = ym at *
                  have i1 : (i : Int) ≤ wc := by omega
                  clear hy1 hy2 hy3 hW7 hcell hiw D7 bx KA
                  go_wp2_with fail
                  refine HSm.out.mono ?_
                  rintro e w8 ⟨rfl, hg8⟩
                  have G8 := Lib.hid (G7.out.trans hg8)
                  clear hg8 HSm
                  go_wp2_with fail
                  go_roundw
                  case rel => exact ⟨i + 1, by go_num, by omega, G8⟩
                  case measure => simp [intOf]; omega
                · obtain rfl : n = i := by omega
                  have HV9 := Lib.hid (versionP_any _ p s3.ca s3.cc s3.ts s3.top wr (P6.out.keep (.of K.out)))
                  have GE := Lib.hid (G1.out.trans (X6.out.gr.trans K.out))
                  go_wp2_with fail
                  refine HV9.out.mono ?_
                  rintro e w9 ⟨rfl, rfl⟩
                  go_wp2_with fail
                  go_ret
                  exact ⟨rfl, below_grownT GE.out⟩
end Go.Proofs.YtaggacffjbjchaaGreatDoor
namespace Go.Proofs.YtaggacffjbjchaaGreatDoor
open Go.ChangeShapes Go.WideShapes Go.ChangeAt Go.RowKit Go.Joins
open Go.ChangeMaps (open_string shut_string)

set_option maxRecDepth 100000 in
theorem storeSnaps_lifted (os : Os) (started : os.Started) (H : Type) (enc : TypeId × Value → H) :
    ReturnsInHanded {} Tryz.checked os 6 .any (fun w args => (Rows.storeSnapsSpec.pre enc Tryz.prog Tryz.f6 [] false w args ∧ laidMetH Tryz.prog laid9s w) ∧ sizedMet enc Tryz.prog Tryz.f6 (OpenSpec.ofChange Rows.storeSnapsSpec) false w args)
      (Rows.storeSnapsSpec.post enc Tryz.prog Tryz.f6 false true false false) := by
  refine returnsInHanded_of_change_and (C := Tryz.checked) (X := fun w _ => laidMetH Tryz.prog laid9s w) (fun _ _ _ hh h => h.of_heap hh) own started (by kernel_rfl) Tryz.func6
    (ChangeSpec.witness_shaped (enc := enc) (C := Tryz.checked) (os := os) (X := fun w _ => laidMetH Tryz.prog laid9s w) false (World.doorLaid Tryz.prog 400 os) #[.slice none 0 0, .slice none 0 0, .slice none 0 0] 8 rfl (World.shaped_of_RefB (by kernel_rfl) (by kernel_rfl)) (by kernel_rfl) (by kernel_rfl) (by kernel_rfl) (door_met9s os _)) ?_
  intro W base args ds gs before hval0 hW _ _ hL _
  have hval : ∀ (j : Nat) t v, Tryz.f6.params[j]? = some t → args[j]? = some v → Value.okWide Tryz.prog W .any base t v := hval0
  have hW' := hW
  obtain ⟨p, q, hA0, hV, rfl, hfz, hnd⟩ := hW
  have hA : DataW.TrodAll enc Tryz.prog W 0 (fun _ => true) true Tryz.f6.params.toList args.toList ds p := hA0
  rw [Tryz.params6] at hA hval
  obtain ⟨v0, v1, v2, d0, d1, d2, p0, p1, p2, rfl, rfl, rfl, h0, h1, h2⟩ := trodAll_three hA
  obtain ⟨rfl, rfl⟩ := trodVars_none hV
  have kk0 := h0
  have lt0 : ∀ x ∈ p0, x.block < W.heap.size := by obtain ⟨m, hm⟩ := kk0; exact DataW.trod_lt m _ _ _ hm
  obtain ⟨a0, cap0, l0, rfl, hc0, row0, hcs0, hN0⟩ := open_tables9 (hval 0 22 v0 rfl rfl) h0
  have kk1 := h1
  have lt1 : ∀ x ∈ p1, x.block < W.heap.size := by obtain ⟨m, hm⟩ := kk1; exact DataW.trod_lt m _ _ _ hm
  obtain ⟨a1, cap1, l1, rfl, hc1, row1⟩ := open_commits9 (hval 1 43 v1 rfl rfl) h1
  have kk2 := h2
  have lt2 : ∀ x ∈ p2, x.block < W.heap.size := by obtain ⟨m, hm⟩ := kk2; exact DataW.trod_lt m _ _ _ hm
  obtain ⟨a2, cap2, l2, rfl, hc2, row2⟩ := open_commits9 (hval 2 43 v2 rfl rfl) h2
  clear hA0 hval0
  simp only [List.append_nil] at hW'
  refine (StoreSnaps_any W.heap.size a0 a1 a2 cap0 cap1 cap2 l0 l1 l2 W row0 hc0 hcs0 hN0 row1 hc1 row2 hc2 (whyG_of9s hL) (errT_of9s hL) (Nat.le_refl _)).mono fun e W' ⟨he, hb⟩ => ?_
  subst he
  exact ⟨_, rfl, _, _, _, [], _, [], hW', trodAll_mk1 (shut_bool Tryz.underlying4 _), trodAll_mk3 (Below.trod laidOut (by kernel_rfl) (of_decide_eq_true (by kernel_rfl)) kk0 hb lt0) (Below.trod laidOut (by kernel_rfl) (of_decide_eq_true (by kernel_rfl)) kk1 hb lt1) (Below.trod laidOut (by kernel_rfl) (of_decide_eq_true (by kernel_rfl)) kk2 hb lt2), rfl, hb.frame _, fun h => by cases h⟩

theorem storeSnaps_holds : Rows.StoreSnapsSaid :=
  OpenClaim.holds_of_wide 6 Tryz.f6 rfl rfl rfl rfl rfl rfl rfl ⟨rfl, rfl, rfl, rfl, rfl⟩ rfl rfl rfl rfl rfl (by kernel_rfl) Tryz.func6 (by kernel_rfl)
    (of_decide_eq_true (by kernel_rfl)) (by unfold Func.isWrapper; first | (rw [if_pos (by decide +kernel)]; kernel_rfl) | (rw [if_neg (by decide +kernel)]; exact ⟨rfl, rfl⟩))
    (fun os started H enc _ => storeSnaps_lifted os started H enc)

theorem storeSnaps_card : Rows.StoreSnapsCardSaid :=
  Claim7.holds_tied_plain_at .later [] [.handle, .sentinel, .sentinel, .sentinel, .sentinel, .sentinel, .sentinel, .sentinel, .sentinel] true Rows.storeSnapsCard.stood.harness true
    storeSnaps_holds (fun _ h => by cases h) (by kernel_rfl) (fun _ h => by cases h) storeSnaps_row_tie rfl ⟨rfl, rfl⟩ (by kernel_rfl) rfl
    (fun f fn hf hfn => by
      obtain rfl : f = 6 := Option.some.inj ((show Tryz.prog.funcNamed "stillroom/stillroomlaw09.StoreSnaps" = some 6 by kernel_rfl).symm.trans hf) |>.symm
      obtain rfl : fn = Tryz.f6 := (Option.some.inj (Tryz.func6.symm.trans hfn)).symm
      exact ⟨by kernel_rfl, fun j t ht => by
        rw [Tryz.params6] at ht
        have hm : t ∈ [22, 43, 43] := by simpa using Array.mem_of_getElem? ht
        have hall : ([22, 43, 43].all fun u => !Tryz.prog.wantsStandIn u) = true := by kernel_rfl
        exact (show Tryz.prog.wantsStandIn t = false by simpa using List.all_eq_true.1 hall t hm)⟩)
    (by kernel_rfl)
#print axioms storeSnaps_card
end Go.Proofs.YtaggacffjbjchaaGreatDoor
