/- The law StoreSteps walked. PROVED: the card of StoreSteps: at every input, in whatever memory that meets the row's listed variables (which the card ties to the program's text), the call returns true and its arguments read as they did. No condition of our own. -/
import Derived.Test.YtnfpomjcofhppaaGreatDoorZb42
import Derived.Test.YtnfpomjcofhppaaGreatDoorZb10
import Derived.Test.YtnfpomjcofhppaaGreatDoorZb44
import Derived.Test.YtnfpomjcofhppaaGreatDoorZb43
import Derived.Deep.RegionHeld
import Derived.Test.YtnfpomjcofhppaaGreatDoorZb01
import Derived.Test.YtnfpomjcofhppaaGreatDoorCards
import Derived.Test.YtnfpomjcofhppaaGreatDoorTie
import Derived.SevenTiedAt
namespace Go.Proofs.YtnfpomjcofhppaaGreatDoor
open Go.RowKit

set_option maxRecDepth 100000 in
set_option maxHeartbeats 12800000 in
theorem StoreSteps_any (G : Nat) (a a1 : Ptr) (cap cap1 : Nat) (l : List Tb) (cs : List Cw) (w : World) (h : TabsAt w.heap.size w a l) (hcap : l.length ≤ cap) (hcs : ∀ t ∈ l, t.l.length ≤ t.cap) (hN : ∀ t ∈ l, t.n.size ≤ 9223372036854775807 ∧ ∀ i, i < t.l.length → (t.l.getD i default).n.size ≤ 9223372036854775807) (h1 : CmG (fun j => j < w.heap.size) w a1 cs) (hc1 : cs.length ≤ cap1) (hw : WhyG w) (hE : ErrT G w) (hG : G ≤ w.heap.size) :
    Calls Tryz.prog 3 #[.slice a l.length cap, .slice a1 cs.length cap1] w fun e w' => e = .returned (.bool true) ∧ Below w.heap.size w w' := by
  have HA := Lib.hid (fun W (hW : w.grownBy W none) => awake9_any G W (hw.grown hW) (hE.grown hW) (Nat.le_trans hG hW.size))
  have HM := Lib.hid (fun W (hW : w.grownBy W none) => make_any G a cap l W ((h.keep hW (by simp)).mono hW.size) hcap hcs hN (hw.grown hW) (hE.grown hW))
  have HT := Lib.hid (fun W (hW : w.grownBy W none) => show TbsS (fun j => j < w.heap.size) W a l from ((TbsS.of h).mono (fun b hb _ => hb)).keep (.of hW))
  have H1 := Lib.hid (fun W (hW : w.grownBy W none) => h1.keep (.of hW))
  have HE := Lib.hid (And.intro hE hG)
  have hl0 := h.1
  obtain ⟨n, hn⟩ : ∃ n, n = l.length := ⟨_, rfl⟩
  obtain ⟨c, hc⟩ : ∃ c, c = cs.length := ⟨_, rfl⟩
  have Hn := Lib.hid (And.intro hn hc)
  have hc0 := h1.1
  rw [← hn] at HM hcap hl0 ⊢
  rw [← hc] at hc1 hc0 ⊢
  clear h hcs hN h1 hw hE hG hn hc
  go_enter Tryz.func3, Tryz.ntmps3
  go_wp2_with fail
  refine (HA.out _ (grown_reflT _ none)).mono ?_
  rintro e w1 ⟨rfl, hg1⟩
  have G1 := Lib.hid hg1
  clear hg1
  by_cases hb1 : (50 : Int) < c
  · go_wp2_with fail
    refine (HA.out _ G1.out).mono ?_
    rintro e w2 ⟨rfl, hg2⟩
    have G2 := Lib.hid (G1.out.trans hg2)
    clear hg2
    go_wp2_with fail
    go_ret
    exact ⟨rfl, below_grownT G2.out⟩
  go_wp2_with fail
  refine (HM.out _ G1.out).mono ?_
  rintro e w2 ⟨hmk, hg2⟩
  have G2 := Lib.hid (G1.out.trans hg2)
  rcases hmk with rfl | ⟨hr, s, q, rfl, hs⟩
  · clear hg2
    go_wp2_with fail
    go_ret
    exact ⟨rfl, below_grownT (G2.out.trans (World.grownBy_alloc _ _ none))⟩
  have XF := Lib.hid (hs.xg (HE.out.1.grown G1.out) (Nat.le_trans HE.out.2 G1.out.size) hg2)
  have VF := Lib.hid hs.2.1
  have HF := Lib.hid (HistS.new hs.2.1 hs.2.2.1 hs.2.2.2.1)
  have HR := Lib.hid hr
  clear hs hg2 hr
  generalize s.b = b at *
  go_wp2_with fail
  go_loopw [53] (fun s53 wr => ∃ j : Nat, s53 = .int .i64 j ∧ j ≤ c ∧ Hid (∃ s, XG w1 G b l wr s ∧ HistS s ∧ s.v ≤ j)) (fun s53 _ => c - (intOf s53).toNat)
  case atStart => exact ⟨0, rfl, by omega, Lib.hid ⟨s, XF.out.keepG (World.grownBy_alloc _ _ none), HF.out, by rw [VF.out]; exact Int.le_refl 0⟩⟩
  case round =>
    obtain ⟨j, rfl, hj, K⟩ := hrel
    by_cases hlt : j < c
    · obtain ⟨sj, hx, hh, hv⟩ := K.out
      have gW : w.grownBy wr none := G1.out.trans hx.gr
      obtain ⟨⟨ob, oo, rfl, c0⟩, ho, hoc⟩ := (H1.out wr gW).at (i := j) (by rw [← Hn.out.2]; exact hlt)
      generalize cs.getD j default = x at *
      obtain ⟨xa, xc, xl⟩ := x
      simp only [Cw.v] at c0 ho hoc
      have HFi := Lib.hid (fits_anyR _ xa xc xl wr ho hoc)
      have HCo := Lib.hid (fun (hf : ∀ o ∈ xl, o.r.l.length ≤ 20) W (hW : wr.grownBy W none) => ((hx.keepG hW).commitH hh xa xc xl ((hx.keepG hW).ops (S := fun j => j < w.heap.size) (fun k hk => Nat.lt_of_lt_of_le hk G1.out.size) ((ho.keep (.of hW)).ops hf)) hoc (by omega)))
      have X := Lib.hid hx
      have V := Lib.hid hv
      have Y := Lib.hid hh
      generalize xl.length = xm at *
      have j0 : (j : Int) ≤ cap1 := by omega
      clear hx hh hv gW ho hoc K
      go_wp2_with fail
      refine HFi.out.mono ?_
      rintro e w3 ⟨⟨fb, rfl, hfb⟩, hg3⟩
      have HFb := Lib.hid hfb
      clear hfb
      have G3 := Lib.hid hg3
      clear hg3 HFi
      cases fb
      · go_wp2_with fail
        go_roundw
        case rel => exact ⟨j + 1, by go_num, by omega, Lib.hid ⟨sj, X.out.keepG G3.out, Y.out, by have := V.out; push_cast; omega⟩⟩
        case measure => simp [intOf]; omega
      · go_wp2_with fail
        refine (HCo.out (HFb.out (by simp)) _ G3.out).mono ?_
        rintro e w4 ⟨⟨v4, rfl⟩, s4, hx4, hh4, _, hv4, _⟩
        have X4 := Lib.hid (And.intro hx4 (And.intro hh4 hv4))
        clear hx4 hh4 hv4
        go_wp2_with fail
        go_roundw
        case rel => exact ⟨j + 1, by go_num, by omega, Lib.hid ⟨s4, X4.out.1, X4.out.2.1, by have := V.out; have := X4.out.2.2; push_cast; omega⟩⟩
        case measure => simp [intOf]; omega
    · obtain rfl : c = j := by omega
      obtain ⟨s3, hx3, hh3, hv3⟩ := K.out
      have hcnt := hh3.count
      have hv0 := hx3.at_.v0
      have hv1 := hx3.at_.v1
      have X3 := Lib.hid hx3
      have Y3 := Lib.hid hh3
      have HV := Lib.hid (fun W (hW : wr.grownBy W none) => versionS_any w1.heap.size s3 W (hx3.at_.keepG hW))
      have HAt := Lib.hid (fun W (hW : wr.grownBy W none) i (hi : i ≤ s3.cs.length) => atKept_any w1.heap.size s3 (s3.v - s3.cs.length + i) i W (hx3.at_.keepG hW) hi rfl)
      have HSi := Lib.hid (fun W (hW : wr.grownBy W none) => sinceAll_any w1.heap.size s3 W (s3.v - s3.cs.length) (hx3.at_.keepG hW) rfl)
      rw [hx3.hb] at HV HAt HSi
      have HA0 := Lib.hid (fun W hW => HAt.out W hW 0 (Nat.zero_le _))
      simp only [Int.natCast_zero, Int.add_zero] at HA0
      obtain ⟨fr, hfr⟩ : ∃ fr, fr = s3.v - s3.cs.length := ⟨_, rfl⟩
      have Fr := Lib.hid hfr
      rw [← hfr] at HA0 HSi
      obtain ⟨v3, hv3e⟩ : ∃ v3, v3 = s3.v := ⟨_, rfl⟩
      rw [← hv3e] at HV hfr hcnt hv0 hv1 hv3
      obtain ⟨k, hk⟩ : ∃ k, k = s3.cs.length := ⟨_, rfl⟩
      rw [← hk] at HSi hfr hcnt
      have Hk := Lib.hid (And.intro hk hv3e)
      clear hx3 hh3 K hk hv3e
      have hmx : max (0 : Int) (v3 - 32) = fr := by omega
      have hwr64 : IntKind.i64.wrap (v3 - 32) = v3 - 32 := by rw [IntKind.wrap_i64]; omega
      have hwr65 : IntKind.i64.wrap (v3 - fr) = v3 - fr := by rw [IntKind.wrap_i64]; omega
      have hkk : v3 - fr = (k : Int) := by omega
      have hk32 : k ≤ 32 := by omega
      have Hc := Lib.hid (And.intro hfr hcnt)
      clear hfr hcnt
      go_wp2_with fail
      refine (HV.out _ (grown_reflT _ none)).mono ?_
      rintro e w3 ⟨rfl, hg3⟩
      have G3 := Lib.hid hg3
      clear hg3
      go_wp2_with fail
      refine (HA0.out _ G3.out).mono ?_
      rintro e w4 ⟨⟨p, rfl, hpl, hsn⟩, hg4⟩
      have P4 := Lib.hid (And.intro hpl hsn)
      have G4 := Lib.hid (G3.out.trans hg4)
      clear hpl hsn hg4
      go_wp2_with fail
      refine (HSi.out _ G4.out).mono ?_
      rintro e w5 ⟨⟨la, lc, rfl, hlog⟩, hg5⟩
      have G5 := Lib.hid (G4.out.trans hg5)
      have P5 := Lib.hid (P4.out.2.keep (.of hg5))
      clear hg5
      go_wp2_with fail
      refine (HV.out _ G5.out).mono ?_
      rintro e w6 ⟨rfl, hg6⟩
      have G6 := Lib.hid (G5.out.trans hg6)
      have P6 := Lib.hid (P5.out.keep (.of hg6))
      have G56 := Lib.hid hg6
      clear hg6
      have hn6 : n ≤ 6 := by have := HR.out; rw [Hn.out.1]; rcases Nat.lt_or_ge 6 l.length with h | h; (have := (this 6 h).1.1; omega); exact h
      obtain ⟨C, hmk, hCs, hC⟩ := made_tabs2 n (by omega)
      have N0 := Lib.hid (NowAt.made (w := w6) (Nat.le_refl _) hCs hC)
      have gA0 := Lib.hid (World.grownBy_alloc w6 (.cells C 56) none)
      have h0s : 0 < s3.sn.length := by have := X3.out.at_.kept; omega
      have HTr := Lib.hid (X3.out.at_.trs _ (show s3.sn.getD 0 default ∈ s3.sn by simp [List.getD, h0s]))
      have H6 := Lib.hid X3.out.at_.ok.six
      have HIn := Lib.hid (fun q (hq : q < s3.sn.length) => show TabInv s3.ts (s3.sn.getD q default).tr from Y3.out.inv (s3.sn.getD q default).p (List.mem_map.2 ⟨_, by simp [List.getD, hq], rfl⟩))
      have HTa := Lib.hid (fun i (hi : i < n) => show i < s3.ts.length ∧ (l.getD i default).n = (s3.ts.getD i default).n ∧ (l.getD i default).k = (s3.ts.getD i default).k ∧ 1 ≤ (l.getD i default).k ∧ tabI s3.ts (l.getD i default).n = some i from by
        obtain ⟨h1, h2, h3⟩ := tab_same X3.out.ts (i := i) (by rw [← Hn.out.1]; exact hi)
        exact ⟨h1, h2, h3, by rw [h3]; exact (X3.out.at_.ok.tab i h1).1, by rw [h2]; exact tabI_self X3.out.at_.ok h1⟩)
      have H0s := Lib.hid h0s
      clear hCs hC h0s
      go_wp2_with fail
      clear hmk
      generalize hT : w6.heap.size = T at *
      obtain ⟨P0, hP0⟩ : ∃ P : Nat → PL, P = fun k => ((s3.sn.getD 0 default).tr k).toL := ⟨_, rfl⟩
      have HP0 := Lib.hid hP0
      have HT6 := Lib.hid hT
      clear hT hP0
      go_loopw [103] (fun s103 wr => ∃ i : Nat, s103 = .int .i64 i ∧ i ≤ n ∧ Hid (∃ ps : List Pl, ps.length = n ∧ NowAt T wr T ps ∧ Holds ps (fun k => if k < i then P0 k else []) ∧ w6.grownBy wr none)) (fun s103 _ => n - (intOf s103).toNat)
      case atStart => exact ⟨0, rfl, by omega, Lib.hid ⟨_, by simp, N0.out, fun k hk => by simp [List.getD, List.getElem?_replicate]; split <;> rfl, gA0.out⟩⟩
      case round =>
        obtain ⟨i, rfl, hi, K⟩ := hrel
        by_cases hlt2 : i < n
        · obtain ⟨ps, hpl, hnow, hps, hgr⟩ := K.out
          have gW : w.grownBy wr none := G1.out.trans (X3.out.gr.trans (G6.out.trans hgr))
          obtain ⟨tb, tof, rfl, _, c0, c1, c2⟩ := (HT.out wr gW).at (i := i) (by rw [← Hn.out.1]; exact hlt2)
          obtain ⟨t1, t2, t3, t4, t5⟩ := HTa.out i hlt2
          obtain ⟨kn, hkn⟩ : ∃ kn : Nat, (l.getD i default).k = kn := ⟨(l.getD i default).k.toNat, by omega⟩
          rw [hkn] at c2
          have HKn := Lib.hid (show (s3.ts.getD i default).k.toNat = kn ∧ 1 ≤ kn from ⟨by rw [← t3, hkn]; simp, by omega⟩)
          have HTi := Lib.hid t5
          have Ht1 := Lib.hid t1
          obtain ⟨nm, hnm⟩ : ∃ nm, nm = (l.getD i default).n := ⟨_, rfl⟩
          have Nm := Lib.hid hnm
          rw [← hnm] at c0
          generalize (l.getD i default).a = ta at *
          generalize (l.getD i default).l.length = tl at *
          generalize (l.getD i default).cap = tc at *
          have N6 := Lib.hid hnow.blk
          have i0 : (i : Int) ≤ cap := by omega
          have bx := Lib.hid (heap_alloc_new wr (.cells #[.string nm, .slice ta tl tc, .int .i64 kn] 50))
          have gA := World.grownBy_alloc wr (.cells #[.string nm, .slice ta tl tc, .int .i64 kn] 50) none
          have HR1 := Lib.hid (rowsP2_any _ p s3.ca s3.cc s3.ts (s3.sn.getD 0 default) nm _ (P6.out.keep (.of (hgr.trans gA))) H6.out HTr.out)
          have KW := Lib.hid (And.intro hpl (And.intro (hnow.keep gA) (And.intro hps (hgr.trans gA))))
          have hk1 : (1 : Int) ≤ kn := by have := HKn.out.2; omega
          clear hpl hnow hps hgr gW gA hnm K t1 t2 t3 t4 t5 hkn
          go_wp2_with fail
          refine HR1.out.mono ?_
          rintro e w7 ⟨⟨ra, rc, rm, ec, rfl, hrc, hrm, D7⟩, hg7⟩
          have G7 := Lib.hid hg7
          have BX7 := Lib.hid ((hg7.block wr.heap.size (by simp) (by simp)).trans bx.out)
          have HD7 := Lib.hid (show ∃ done : List Rw, done.length = rm ∧ Rs2 (fun b => b ≠ T) w7 ra done ∧ done.map Rw.l = (P0 i).map Prod.snd from by
            obtain ⟨done, h1, h2, h3⟩ := D7.out
            refine ⟨done, h1, h2.mono (fun b _ hb e => ?_), ?_⟩
            · have h4 := (Array.getElem?_eq_some_iff.1 KW.out.2.1.blk).1
              subst e
              exact absurd h4 (by omega)
            · rw [h3]; unfold rowsU; rw [Nm.out, HTi.out, HP0.out])
          have NE := Lib.hid (show wr.heap.size ≠ T from by
            have h4 := (Array.getElem?_eq_some_iff.1 N6.out).1
            omega)
          have KG := Lib.hid (show w6.grownBy w7 none ∧ (∃ ps : List Pl, ps.length = n ∧ NowAt T w7 T ps ∧ Holds ps (fun k => if k < i then P0 k else [])) from ⟨KW.out.2.2.2.trans G7.out, ps, KW.out.1, KW.out.2.1.keep G7.out, KW.out.2.2.1⟩)
          have hrm2 := hrm
          clear HR1 D7 KW G7 bx
          generalize wr.heap.size = wt at *
          go_wp2_with fail
          generalize hwr : wr = w0 at *
          clear hwr
          go_loopw [117] (fun s117 wv => ∃ j : Nat, s117 = .int .i64 j ∧ j ≤ rm ∧ Hid (∃ ps : List Pl, ps.length = n ∧ NowAt T wv T ps ∧ Holds ps (fun k => if k = i then (P0 i).take j else if k < i then P0 k else []) ∧ Stays (fun b => b ≠ T) w7 wv ∧ w6.grownBy wv none)) (fun s117 _ => rm - (intOf s117).toNat)
          case atStart =>
            refine ⟨0, rfl, by omega, Lib.hid ?_⟩
            obtain ⟨g1, ps1, h1, h2, h3⟩ := KG.out
            refine ⟨ps1, h1, h2, fun k hk => ?_, .of (grown_reflT _ none), g1⟩
            have := h3 k hk
            by_cases e : k = i
            · subst e; simpa using this
            · simp only [if_neg e]; exact this
          case round =>
            obtain ⟨j, rfl, hj, K5⟩ := hrel
            by_cases hlt3 : j < rm
            · obtain ⟨ps5, h5l, h5n, h5h, h5s, h5g⟩ := K5.out
              have H5 := Lib.hid (show ps5.length = n ∧ NowAt T wr T ps5 ∧ Holds ps5 (fun k => if k = i then (P0 i).take j else if k < i then P0 k else []) ∧ Stays (fun b => b ≠ T) w7 wr ∧ w6.grownBy wr none from ⟨h5l, h5n, h5h, h5s, h5g⟩)
              obtain ⟨done, hdl, hrs, hdm⟩ := HD7.out
              have hrs := hrs.keep h5s
              have hjd : j < done.length := by omega
              obtain ⟨gb, hgb, _, _, hcell⟩ := hrs.2.2.resolve_left (by intro e; rw [e] at hjd; simp at hjd)
              subst hgb
              have d0 := hcell j hjd
              have hz := hrs.2.1 (done.getD j default) (by simp [List.getD, hjd])
              have hPl : j < (P0 i).length := by have := congrArg List.length hdm; simp at this; omega
              have hzl : (done.getD j default).l = ((P0 i)[j]).2 := by
                have h1 : (done.map Rw.l)[j]? = ((P0 i).map Prod.snd)[j]? := by rw [hdm]
                rw [List.getElem?_map, List.getElem?_map, List.getElem?_eq_getElem hjd, List.getElem?_eq_getElem hPl] at h1
                simp only [Option.map_some, Option.some.injEq] at h1
                rw [← h1]; simp [List.getD, hjd]
              have hinv := (HIn.out 0 H0s.out) i Ht1.out
              rw [HKn.out.1] at hinv
              have hmem : (P0 i)[j] ∈ ((s3.sn.getD 0 default).tr i).toL := (show ∀ x ∈ P0 i, x ∈ ((s3.sn.getD 0 default).tr i).toL from fun x hx => by rw [HP0.out] at hx; exact hx) _ (List.getElem_mem hPl)
              obtain ⟨hv1, hv2, hv3⟩ := hinv.2 _ hmem
              have hsort := hinv.1
              rw [← hzl] at hv1 hv2 hv3
              have HZ := Lib.hid (show RwF (fun b => b ≠ T ∧ blk (some ⟨gb, 0, none⟩) ≠ some b) wr (done.getD j default) from hz)
              have HPj := Lib.hid (show Tr.putL rowsOrd ((done.getD j default).l.take kn) (done.getD j default).l ((P0 i).take j) = (P0 i).take (j + 1) from by
                rw [hv2, hzl]
                exact putL_take (by rw [HP0.out]; exact hsort) hPl)
              have hlen5 : (ps5.getD i default).l.length ≤ 90000 := by
                have h1 : (ps5.getD i default).l.map Pw.p = (P0 i).take j := by have := h5h i (by rw [h5l]; exact hlt2); simpa using this
                have := congrArg List.length h1
                rw [List.length_map, List.length_take] at this
                omega
              have hzcap := hz.2.1
              generalize done.getD j default = z at *
              have HX5 := Lib.hid (h5n.at (i := i) (by rw [h5l]; exact hlt2))
              have dn : wr.drew.cell? ⟨T, i, none⟩ = some (.slice (ps5.getD i default).a (ps5.getD i default).l.length (ps5.getD i default).cap) := h5n.cell (by rw [h5l]; exact hlt2)
              have HHx := Lib.hid (h5h i (by rw [h5l]; exact hlt2))
              have HPu := Lib.hid (putPl_any (fun b => b ≠ T) (ps5.getD i default) z kn wr.drew (fun b hb e => by have := (Array.getElem?_eq_some_iff.1 h5n.blk).1; subst e; exact absurd this (by simpa using hb)) (HX5.out.keep (.of (grown_drewT (grown_reflT _ none)))) ((HZ.out.1.mono (fun b _ hb => hb.1)).keep (.of (grown_drewT (grown_reflT _ none)))) hv3 hv1 hlen5)
              obtain ⟨za, zc, zl⟩ := z
              simp only [Rw.v] at d0
              simp only at HPu hzcap hv1
              obtain ⟨zn, hzn⟩ : ∃ zn, zn = zl.length := ⟨_, rfl⟩
              have HZn := Lib.hid hzn
              rw [← hzn] at d0 HPu hzcap hv1
              generalize (ps5.getD i default).a = xa at *
              generalize (ps5.getD i default).cap = xc at *
              generalize hxn : (ps5.getD i default).l.length = xn at *
              have j1 : (j : Int) ≤ rc := by omega
              have j2 : (j : Int) < rm := by omega
              have j3 : (kn : Int) ≤ zc := by omega
              have i1 : (i : Int) < n := by omega
              have k0 : (0 : Int) ≤ kn := by omega
              have HK5 := Lib.hid (show wr.drew.cell? ⟨wt, 2, none⟩ = some (.int .i64 kn) from by
                have e := (h5s.2 wt NE.out (Array.getElem?_eq_some_iff.1 BX7.out).1).trans BX7.out
                have := cell_of_row _ _ 2 _ _ _ e
                simpa using this)
              clear h5l h5n h5h h5s h5g hdl hrs hdm hjd hcell hz hPl hzl hinv hmem hv2 hv3 hsort hlen5 hzn hxn K5
              go_wp2_with fail
              refine wp_region_held_drew (S := (fun W => W.cell? ⟨wt, 2, none⟩ = some (.int .i64 kn))) (by kernel_rfl) HK5.out (fun hHeld => ?_)
              refine wpAnyH_take (i := 0) (v := ?va0) rfl (by kernel_rfl) (by kernel_rfl) (by kernel_rfl) (fun _ _ _ h => h) (Or.inl ⟨by rfl, ?ya0⟩) (by assumption) ?ra0
              case ya0 => (intro w hSw; (try dsimp only at hSw); go_simp; try with_reducible rfl)
              simp only [Act.put, List.getElem_toArray, List.getElem_cons_zero, List.size_toArray, List.length_cons, List.length_nil, Nat.reduceAdd, Array.replicate, List.replicate, List.setIfInBounds_toArray, List.set_cons_zero, List.set_cons_succ]
              refine wpAnyH_take (i := 1) (v := ?va1) rfl (by kernel_rfl) (by kernel_rfl) (by kernel_rfl) (fun _ _ _ h => h) (Or.inl ⟨by rfl, ?ya1⟩) (by assumption) ?ra1
              case ya1 => (intro w hSw; (try dsimp only at hSw); go_simp; try with_reducible rfl)
              simp only [Act.put, List.getElem_toArray, List.getElem_cons_succ, List.getElem_cons_zero, List.setIfInBounds_toArray, List.set_cons_zero, List.set_cons_succ]
              refine wpAnyH_take (i := 2) (v := ?va2) rfl (by kernel_rfl) (by kernel_rfl) (by kernel_rfl) (fun _ _ _ h => h) (Or.inl ⟨by rfl, ?ya2⟩) (by assumption) ?ra2
              case ya2 => (intro w hSw; (try dsimp only at hSw); go_simp; try with_reducible rfl)
              simp only [Act.put, List.getElem_toArray, List.getElem_cons_succ, List.getElem_cons_zero, List.setIfInBounds_toArray, List.set_cons_zero, List.set_cons_succ]
              refine wpAnyH_take (i := 3) (v := ?va3) rfl (by kernel_rfl) (by kernel_rfl) (by kernel_rfl) (fun _ _ _ h => h) (Or.inl ⟨by rfl, ?ya3⟩) (by assumption) ?ra3
              case ya3 => (intro w hSw; (try dsimp only at hSw); go_simp; try with_reducible rfl)
              simp only [Act.put, List.getElem_toArray, List.getElem_cons_succ, List.getElem_cons_zero, List.setIfInBounds_toArray, List.set_cons_zero, List.set_cons_succ]
              refine wpAnyH_take (i := 4) (v := ?va4) rfl (by kernel_rfl) (by kernel_rfl) (by kernel_rfl) (fun _ _ _ h => h) (Or.inl ⟨by rfl, ?ya4⟩) (by assumption) ?ra4
              case ya4 => (intro w hSw; (try dsimp only at hSw); go_simp; try with_reducible rfl)
              simp only [Act.put, List.getElem_toArray, List.getElem_cons_succ, List.getElem_cons_zero, List.setIfInBounds_toArray, List.set_cons_zero, List.set_cons_succ]
              refine wpAnyH_take (i := 6) (v := ?va6) rfl (by kernel_rfl) (by kernel_rfl) (by kernel_rfl) (fun _ _ _ h => h) (Or.inl ⟨by rfl, ?ya6⟩) (by assumption) ?ra6
              case ya6 => (intro w hSw; (try dsimp only at hSw); go_simp; try with_reducible rfl)
              simp only [Act.put, List.getElem_toArray, List.getElem_cons_succ, List.getElem_cons_zero, List.setIfInBounds_toArray, List.set_cons_zero, List.set_cons_succ]
              refine wpAnyH_take (i := 7) (v := ?va7) rfl (by kernel_rfl) (by kernel_rfl) (by kernel_rfl) (fun _ _ _ h => h) (Or.inl ⟨by rfl, ?ya7⟩) (by assumption) ?ra7
              case ya7 => (intro w hSw; (try dsimp only at hSw); go_simp; try with_reducible rfl)
              simp only [Act.put, List.getElem_toArray, List.getElem_cons_succ, List.getElem_cons_zero, List.setIfInBounds_toArray, List.set_cons_zero, List.set_cons_succ]
              refine wpAnyH_take (i := 8) (v := ?va8) rfl (by kernel_rfl) (by kernel_rfl) (by kernel_rfl) (fun _ _ _ h => h) (Or.inl ⟨by rfl, ?ya8⟩) (by assumption) ?ra8
              case ya8 => (intro w hSw; (try dsimp only at hSw); go_simp; try with_reducible rfl)
              simp only [Act.put, List.getElem_toArray, List.getElem_cons_succ, List.getElem_cons_zero, List.setIfInBounds_toArray, List.set_cons_zero, List.set_cons_succ]
              refine wpAnyH_take (i := 9) (v := ?va9) rfl (by kernel_rfl) (by kernel_rfl) (by kernel_rfl) (fun _ _ _ h => h) (Or.inl ⟨by rfl, ?ya9⟩) (by assumption) ?ra9
              case ya9 => (intro w hSw; (try dsimp only at hSw); go_simp; try with_reducible rfl)
              simp only [Act.put, List.getElem_toArray, List.getElem_cons_succ, List.getElem_cons_zero, List.setIfInBounds_toArray, List.set_cons_zero, List.set_cons_succ]
              refine wpAnyH_take (i := 10) (v := ?va10) rfl (by kernel_rfl) (by kernel_rfl) (by kernel_rfl) (fun _ _ _ h => h) (Or.inl ⟨by rfl, ?ya10⟩) (by assumption) ?ra10
              case ya10 => (intro w hSw; (try dsimp only at hSw); go_simp; try with_reducible rfl)
              simp only [Act.put, List.getElem_toArray, List.getElem_cons_succ, List.getElem_cons_zero, List.setIfInBounds_toArray, List.set_cons_zero, List.set_cons_succ]
              refine wpAnyH_ready (rs := [5]) (by kernel_rfl) (by simp) ?_
              refine AllReadyH.cons rfl (fun K' hK => ?_) AllReadyH.nil
              go_simp
              refine hK.out _ _ HK5.out (fun hHeld => ?_)
              clear hK K'
              simp only [List.setIfInBounds_toArray, List.set_cons_zero, List.set_cons_succ]
              refine wpAnyH_ready (rs := [11]) (by kernel_rfl) (by simp) ?_
              refine AllReadyH.cons rfl (fun K' hK => ?_) AllReadyH.nil
              go_simp
              go_at_call 12
              refine HPu.out.mono ?_
              rintro e w9 ⟨⟨⟨ya, yc, yl⟩, rfl, hy, hyp⟩, hg9⟩
              obtain ⟨yn, hyn⟩ : ∃ yn, yn = yl.length := ⟨_, rfl⟩
              have HYn := Lib.hid hyn
              simp only [Pl.v]
              rw [← hyn]
              have H9 := Lib.hid (And.intro hy hyp)
              have G9 := Lib.hid hg9
              have F9 := Lib.hid ((H5.out.2.1.keep (grown_drewT (grown_reflT wr none))).keep hg9)
              have dn9 := F9.out.cell (i := i) (by rw [H5.out.1]; exact hlt2)
              have df9 := F9.out.frozen i
              clear hy hyp hg9 dn hyn
              refine hK.out _ _ (G9.out.cell HK5.out (by simp)) (fun hHeld => ?_)
              clear hK K'
              simp only [List.setIfInBounds_toArray, List.set_cons_zero, List.set_cons_succ]
              refine wpAnyH_take (i := 12) (v := ?va12) rfl (by kernel_rfl) (by kernel_rfl) (by kernel_rfl) (fun _ _ _ h => h) (Or.inl ⟨by rfl, ?ya12⟩) (by assumption) ?ra12
              case ya12 => (intro w hSw; (try dsimp only at hSw); go_simp; try with_reducible rfl)
              simp only [Act.put, List.getElem_toArray, List.getElem_cons_succ, List.getElem_cons_zero, List.setIfInBounds_toArray, List.set_cons_zero, List.set_cons_succ]
              refine wpAnyH_ready (rs := [13]) (by kernel_rfl) (by simp) ?_
              refine AllReadyH.cons rfl (fun K' hK => ?_) AllReadyH.nil
              go_simp
              clear dn9 df9
              refine hK.out _ _ (show (w9.setCell ⟨T, i, none⟩ (.slice ya yn yc)).cell? ⟨wt, 2, none⟩ = some (.int .i64 kn) from (World.cell?_setCell_other w9 ⟨T, i, none⟩ ⟨wt, 2, none⟩ _ (by simp; exact fun h => absurd h.symm NE.out)).trans (G9.out.cell HK5.out (by simp))) (fun hHeld => ?_)
              clear hK K'
              simp only [List.setIfInBounds_toArray, List.set_cons_zero, List.set_cons_succ]
              refine wpAnyH_done (by kernel_rfl) ?_ _
              go_wp2_with fail
              go_roundw
              case rel =>
                have V9 : (⟨ya, yc, yl⟩ : Pl).v = .slice ya yn yc := by simp only [Pl.v]; rw [HYn.out]
                have hset := F9.out.set H9.out.1 i
                rw [V9] at hset
                refine ⟨j + 1, by go_num, by omega, Lib.hid ⟨ps5.set i ⟨ya, yc, yl⟩, by rw [List.length_set]; exact H5.out.1, hset, H5.out.2.2.1.set (by rw [H5.out.1]; exact hlt2) ?_ (fun k hk => by simp only [if_neg hk]), ((H5.out.2.2.2.1.trans (.of (grown_drewT (grown_reflT wr none)))).trans (.of G9.out)).trans (stays_set _ _ _ _), grown_setT ((H5.out.2.2.2.2.trans (grown_drewT (grown_reflT wr none))).trans G9.out) (Nat.le_of_eq HT6.out) _ _⟩⟩
                have e1 := H9.out.2
                have e2 := HHx.out
                simp only [if_true] at e2 ⊢
                rw [e1, e2]
                exact HPj.out
              case measure => simp [intOf]; omega
            · obtain rfl : rm = j := by omega
              go_wp2_with fail
              go_roundw
              case rel =>
                obtain ⟨ps5, h5l, h5n, h5h, h5s, h5g⟩ := K5.out
                refine ⟨i + 1, by go_num, by omega, Lib.hid ⟨ps5, h5l, h5n, h5h.congr (fun k _ => ?_), h5g⟩⟩
                obtain ⟨done, hdl, _, hdm⟩ := HD7.out
                have hPl : (P0 i).length = rm := by have := congrArg List.length hdm; simp at this; omega
                by_cases e : k = i
                · subst e
                  simp only [if_true]
                  rw [if_pos (by omega), List.take_of_length_le (by omega)]
                · simp only [if_neg e]
                  by_cases e2 : k < i
                  · rw [if_pos e2, if_pos (by omega)]
                  · rw [if_neg e2, if_neg (by omega)]
              case measure => simp [intOf]; omega
        · obtain rfl : n = i := by omega
          have KI := Lib.hid (show ∃ ps : List Pl, ps.length = n ∧ NowAt T wr T ps ∧ Holds ps (fun a => ((s3.sn.getD 0 default).tr a).toL) ∧ w6.grownBy wr none from by
            obtain ⟨ps, hpl, hnow, hps, hgr⟩ := K.out
            exact ⟨ps, hpl, hnow, hps.congr (fun k hk => by rw [if_pos (by omega), HP0.out]), hgr⟩)
          have HL := Lib.hid (show ∃ cs2 : List Cm, cs2.length = k ∧ (∀ x ∈ cs2, capsL x.l) ∧ (∀ W, w6.grownBy W none → CmS (fun b => b ≠ T) W la cs2) ∧ cs2.map Cm.p = s3.cs.map Cm.p from by
            obtain ⟨cs2, h1, h2, h3, h4⟩ := hlog.out
            refine ⟨cs2, h1, h2.2, fun W hW => ?_, h4⟩
            have h5 := (h3.keep (.of G56.out)).mono (S' := fun b => b ≠ T) (fun b hb _ e => by rw [e, ← HT6.out] at hb; exact absurd hb (Nat.lt_irrefl _))
            exact h5.keep (.of hW))
          have hklc : (k : Int) ≤ lc := by obtain ⟨cs2, h1, h2, h3, h4⟩ := hlog.out; omega
          have HSn := Lib.hid X3.out.at_.kept
          have HTq := Lib.hid (fun q (hq : q < s3.sn.length) => X3.out.at_.trs _ (show s3.sn.getD q default ∈ s3.sn by simp [List.getD, hq]))
          clear K hlog
          go_wp2_with fail
          generalize hwr : wr = w8 at *
          clear hwr
          go_loopw [138] (fun s138 wv => ∃ m : Nat, s138 = .int .i64 m ∧ m ≤ k ∧ Hid (∃ ps : List Pl, ps.length = n ∧ NowAt T wv T ps ∧ Holds ps (fun a => ((s3.sn.getD m default).tr a).toL) ∧ w6.grownBy wv none)) (fun s138 _ => k - (intOf s138).toNat)
          case atStart => exact ⟨0, rfl, by omega, KI⟩
          case round =>
            obtain ⟨m, rfl, hm, K⟩ := hrel
            by_cases hlt4 : m < k
            · obtain ⟨ps, hpl, hnow, hps, hgr⟩ := K.out
              obtain ⟨cs2, hcl, hcaps, hcm, hcp⟩ := HL.out
              obtain ⟨cb, coff, hla, _, c0, c1⟩ := (hcm wr hgr).at (i := m) (by omega)
              subst hla
              have hmk : m < s3.cs.length := by have := Hk.out.1; omega
              obtain ⟨hs1, hs2, hs3, hs4⟩ := Y3.out.step X3.out.at_.kept (i := m) hmk
              have hpe : (cs2.getD m default).p = (s3.cs.getD m default).p := by
                have h1 : (cs2.map Cm.p)[m]? = (s3.cs.map Cm.p)[m]? := by rw [hcp]
                rw [List.getElem?_map, List.getElem?_map, List.getElem?_eq_getElem (show m < cs2.length by omega), List.getElem?_eq_getElem hmk] at h1
                simp only [Option.map_some, Option.some.injEq] at h1
                simp [List.getD, hmk, show m < cs2.length by omega, h1]
              rw [← hpe] at hs1 hs2 hs3 hs4
              have HCg := Lib.hid (fun W (hW : w6.grownBy W none) => (hcm W hW).2.1 (cs2.getD m default) (cm_mem (by omega)))
              have HCa := Lib.hid (hcaps (cs2.getD m default) (cm_mem (by omega)))
              generalize cs2.getD m default = x at *
              obtain ⟨xv, xa, xcap, xl⟩ := x
              simp only [Cm.p] at c0 c1 hs1 hs2 hs3 hs4 HCg HCa
              have hxv : xv = fr + m + 1 := by have := Fr.out; omega
              subst hxv
              rw [List.length_map] at hs3
              have hxcap : xl.length ≤ xcap := (HCg.out w6 (grown_reflT _ none)).2
              have HSt := Lib.hid hs2
              have HDi := Lib.hid hs4
              obtain ⟨xn, hxn⟩ : ∃ xn, xn = xl.length := ⟨_, rfl⟩
              have HXn := Lib.hid hxn
              rw [← hxn] at c1 hs3 hxcap
              have hfr2 : 0 ≤ fr ∧ fr + m + 1 ≤ 100000 := by have := Hc.out.1; have := Hc.out.2; omega
              have wv1 : IntKind.i64.wrap (fr + (m : Int)) = fr + m := by rw [IntKind.wrap_i64]; omega
              have wv2 : IntKind.i64.wrap (fr + (m : Int) + 1) = fr + m + 1 := by rw [IntKind.wrap_i64]; omega
              have m0 : (m : Int) ≤ lc := by omega
              have m1 : (m : Int) < k := by omega
              have gA := World.grownBy_alloc wr (.cells #[.int .i64 (fr + m + 1), .slice xa xn xcap] 36) none
              have E8 := Lib.hid (heap_alloc_new wr (.cells #[.int .i64 (fr + m + 1), .slice xa xn xcap] 36))
              have K8 := Lib.hid (show ps.length = n ∧ NowAt T (wr.alloc (.cells #[.int .i64 (fr + m + 1), .slice xa xn xcap] 36)) T ps ∧ Holds ps (fun a => ((s3.sn.getD m default).tr a).toL) ∧ w6.grownBy (wr.alloc (.cells #[.int .i64 (fr + m + 1), .slice xa xn xcap] 36)) none from ⟨hpl, hnow.keep gA, hps, hgr.trans gA⟩)
              have NE8 := Lib.hid (show wr.heap.size ≠ T from by have h4 := (Array.getElem?_eq_some_iff.1 hnow.blk).1; omega)
              have hm20 : xn ≤ 20 := hs3
              clear hpl hnow hps hgr hcl hcaps hcm hcp hmk hs1 hs2 hs3 hs4 hpe gA hxn K
              go_wp2_with fail
              generalize wr.alloc (.cells #[.int .i64 (fr + m + 1), .slice xa xn xcap] 36) = wb at *
              generalize wr.heap.size = wc at *
              have e80 := cell_of_row _ _ 0 _ _ _ E8.out
              have e81 := cell_of_row _ _ 1 _ _ _ E8.out
              simp at e80 e81
              go_loopw [153] (fun s153 wv => ∃ q : Nat, s153 = .int .i64 q ∧ q ≤ xn ∧ Hid (∃ (ps : List Pl) (P : Nat → PL), ps.length = n ∧ NowAt T wv T ps ∧ Holds ps P ∧ stepL s3.ts P ((xl.drop q).map Cg.p) = some (fun a => ((s3.sn.getD (m + 1) default).tr a).toL) ∧ (∀ a, a < n → (P a).length ≤ 200 + q) ∧ Stays (fun b => b ≠ T) wb wv ∧ w6.grownBy wv none)) (fun s153 _ => xn - (intOf s153).toNat)
              case atStart =>
                refine ⟨0, rfl, by omega, Lib.hid ⟨ps, _, K8.out.1, K8.out.2.1, K8.out.2.2.1, by rw [List.drop_zero]; exact HSt.out, fun a ha => ?_, .of (grown_reflT _ none), K8.out.2.2.2⟩⟩
                have h1 := (HTq.out m (by have := HSn.out; have := Hk.out.1; omega) a (by omega)).2.2
                rw [Tr.n_toL] at h1
                omega
              case round =>
                obtain ⟨q, rfl, hq, K⟩ := hrel
                by_cases hlt5 : q < xn
                · obtain ⟨ps, P, hpl, hnow, hps, hst, hfew, hsty, hgr⟩ := K.out
                  have hqx : q < xl.length := by rw [← HXn.out]; exact hlt5
                  have hcg := (HCg.out wr hgr).1
                  obtain ⟨db, doff, hxa, _, e0, e1, e2⟩ := hcg.at (i := q) hqx
                  subst hxa
                  have HRw := Lib.hid (fun W (hW : w6.grownBy W none) => (HCg.out W hW).1.2.1 (xl.getD q default) (by simp [List.getD, hqx]))
                  have hcap := HCa.out (xl.getD q default) (by simp [List.getD, hqx])
                  have hne := HDi.out (xl.getD q default).p (List.mem_map.2 ⟨_, by simp [List.getD, hqx], rfl⟩)
                  rw [cg_drop hqx, List.map_cons] at hst
                  generalize xl.getD q default = d at *
                  obtain ⟨dt, ⟨oa, oc, ol⟩, ⟨na, nc, nl⟩⟩ := d
                  obtain ⟨i0, l', htab, hch, hrest⟩ := stepL_head hst
                  obtain ⟨hk0, hname, hother⟩ := tabI_eq X3.out.at_.ok htab
                  simp only [Cg.p, Rw.v] at e0 e1 e2 hcap hne hch HRw
                  obtain ⟨on, hon⟩ : ∃ x, x = ol.length := ⟨_, rfl⟩
                  obtain ⟨nn, hnn⟩ : ∃ x, x = nl.length := ⟨_, rfl⟩
                  have HLen := Lib.hid (And.intro hon hnn)
                  rw [← hon] at e1 hcap
                  rw [← hnn] at e2 hcap
                  have hi0 : i0 < n := by
                    have h1 : s3.ts.length = l.length := by have := congrArg List.length X3.out.ts; simpa using this
                    rw [Hn.out.1, ← h1]; exact hk0
                  have q0 : (q : Int) ≤ xcap := by omega
                  have gA := World.grownBy_alloc wr (.cells #[.string dt, .slice oa on oc, .slice na nn nc] 59) none
                  have ED := Lib.hid (heap_alloc_new wr (.cells #[.string dt, .slice oa on oc, .slice na nn nc] 59))
                  have NED := Lib.hid (show wr.heap.size ≠ T from by have h4 := (Array.getElem?_eq_some_iff.1 hnow.blk).1; omega)
                  have K9 := Lib.hid (show ps.length = n ∧ NowAt T (wr.alloc (.cells #[.string dt, .slice oa on oc, .slice na nn nc] 59)) T ps ∧ Holds ps P ∧ Stays (fun b => b ≠ T) wb (wr.alloc (.cells #[.string dt, .slice oa on oc, .slice na nn nc] 59)) ∧ w6.grownBy (wr.alloc (.cells #[.string dt, .slice oa on oc, .slice na nn nc] 59)) none from ⟨hpl, hnow.keep gA, hps, hsty.trans (.of gA), hgr.trans gA⟩)
                  have HC9 := Lib.hid (And.intro hch (And.intro hrest (And.intro hfew (And.intro hname hother))))
                  have HNe := Lib.hid hne
                  have HCp := Lib.hid hcap
                  clear hpl hnow hps hst hfew hsty hgr hcg hcap hne hch hrest hname hother hqx gA hon hnn htab K
                  go_wp2_with fail
                  generalize wr.alloc (.cells #[.string dt, .slice oa on oc, .slice na nn nc] 59) = wd9 at *
                  generalize wr.heap.size = wd at *
                  go_loopw [159] (fun s159 wv => ∃ i : Nat, s159 = .int .i64 i ∧ i ≤ n ∧ Hid (∃ ps : List Pl, ps.length = n ∧ NowAt T wv T ps ∧ Holds ps (if i ≤ i0 then P else fun j => if j = i0 then l' else P j) ∧ Stays (fun b => b ≠ T) wd9 wv ∧ w6.grownBy wv none)) (fun s159 _ => n - (intOf s159).toNat)
                  case atStart => exact ⟨0, rfl, by omega, Lib.hid ⟨ps, K9.out.1, K9.out.2.1, by rw [if_pos (Nat.zero_le _)]; exact K9.out.2.2.1, .of (grown_reflT _ none), K9.out.2.2.2.2⟩⟩
                  case round =>
                    obtain ⟨i, rfl, hi, K⟩ := hrel
                    by_cases hlt6 : i < n
                    · obtain ⟨ps6, hpl, hnow, hps, hsty, hgr⟩ := K.out
                      have gW : w.grownBy wr none := G1.out.trans (X3.out.gr.trans (G6.out.trans hgr))
                      obtain ⟨tb2, tof2, htb2, _, c0, c1, c2⟩ := (HT.out wr gW).at (i := i) (by rw [← Hn.out.1]; exact hlt6)
                      cases htb2
                      obtain ⟨t1, t2, t3, t4, t5⟩ := HTa.out i hlt6
                      obtain ⟨kn, hkn⟩ : ∃ kn : Nat, (l.getD i default).k = kn := ⟨(l.getD i default).k.toNat, by omega⟩
                      rw [hkn] at c2
                      have HKn := Lib.hid (show (s3.ts.getD i default).k.toNat = kn ∧ 1 ≤ kn from ⟨by rw [← t3, hkn]; simp, by omega⟩)
                      have HTi := Lib.hid t5
                      have Ht1 := Lib.hid t1
                      have Ht2 := Lib.hid t2
                      obtain ⟨nm, hnm⟩ : ∃ nm, nm = (l.getD i default).n := ⟨_, rfl⟩
                      have Nm := Lib.hid hnm
                      rw [← hnm] at c0
                      generalize (l.getD i default).a = ta at *
                      generalize (l.getD i default).l.length = tl at *
                      generalize (l.getD i default).cap = tc at *
                      have icap : (i : Int) ≤ cap := by omega
                      have ilt : (i : Int) < n := by omega
                      have hcmp : i = i0 ∧ (nm.toList == dt.toList) = true ∨ i ≠ i0 ∧ (nm.toList == dt.toList) = false := by
                        rw [Nm.out, Ht2.out]
                        by_cases e : i = i0
                        · exact .inl ⟨e, by rw [e]; exact HC9.out.2.2.2.1⟩
                        · exact .inr ⟨e, HC9.out.2.2.2.2 i Ht1.out e⟩
                      have hk1 : (1 : Int) ≤ kn := by have := HKn.out.2; omega
                      have gA := World.grownBy_alloc wr (.cells #[.string nm, .slice ta tl tc, .int .i64 kn] 50) none
                      have bx := Lib.hid (heap_alloc_new wr (.cells #[.string nm, .slice ta tl tc, .int .i64 kn] 50))
                      have NEt := Lib.hid (show wr.heap.size ≠ T from by have h4 := (Array.getElem?_eq_some_iff.1 hnow.blk).1; omega)
                      have ed := (hsty.2 wd NED.out (Array.getElem?_eq_some_iff.1 ED.out).1).trans ED.out
                      have ed2 := Lib.hid ((gA.block wd (Array.getElem?_eq_some_iff.1 ed).1 (by simp)).trans ed)
                      have L6 := Lib.hid hpl
                      have K6 := Lib.hid (show NowAt T (wr.alloc (.cells #[.string nm, .slice ta tl tc, .int .i64 kn] 50)) T ps6 ∧ Holds ps6 (if i ≤ i0 then P else fun j => if j = i0 then l' else P j) ∧ Stays (fun b => b ≠ T) wd9 (wr.alloc (.cells #[.string nm, .slice ta tl tc, .int .i64 kn] 50)) ∧ w6.grownBy (wr.alloc (.cells #[.string nm, .slice ta tl tc, .int .i64 kn] 50)) none from ⟨hnow.keep gA, hps, hsty.trans (.of gA), hgr.trans gA⟩)
                      obtain ⟨⟨f0, f1, f2⟩, _⟩ := three_ofS ed
                      clear hpl hnow hps hsty hgr gW gA hnm K t1 t2 t3 t4 t5 hkn ed
                      rcases hcmp with ⟨rfl, hc⟩ | ⟨hne, hc⟩
                      · clear f0 f1 f2
                        obtain ⟨⟨f0, f1, f2⟩, _⟩ := three_ofS ed2.out
                        obtain ⟨⟨z0, z1, z2⟩, _⟩ := three_ofS bx.out
                        have F0 := Lib.hid (K6.out.1.keep (grown_drewT (grown_reflT (wr.alloc (.cells #[.string nm, .slice ta tl tc, .int .i64 kn] 50)) none)))
                        have HHx := Lib.hid (show (ps6.getD i default).l.map Pw.p = P i from by have := K6.out.2.1 i (by rw [L6.out]; exact hlt6); rw [if_pos (Nat.le_refl _)] at this; exact this)
                        have hlen6 : (ps6.getD i default).l.length ≤ 90000 := by
                          have h1 := HHx.out
                          have := congrArg List.length h1
                          rw [List.length_map] at this
                          have := HC9.out.2.2.1 i hlt6
                          omega
                        have SS := Lib.hid (fun W (hW : Stays (fun b => b ≠ T) (wr.alloc (.cells #[.string nm, .slice ta tl tc, .int .i64 kn] 50)) W) => show (W.cell? ⟨wr.heap.size, 0, none⟩ = some (.string nm) ∧ W.cell? ⟨wr.heap.size, 1, none⟩ = some (.slice ta tl tc) ∧ W.cell? ⟨wr.heap.size, 2, none⟩ = some (.int .i64 kn)) ∧ W.cell? ⟨wd, 0, none⟩ = some (.string dt) ∧ W.cell? ⟨wd, 1, none⟩ = some (.slice oa on oc) ∧ W.cell? ⟨wd, 2, none⟩ = some (.slice na nn nc) from by
                          have b1 := (hW.2 _ NEt.out (Array.getElem?_eq_some_iff.1 bx.out).1).trans bx.out
                          have b2 := (hW.2 _ NED.out (Array.getElem?_eq_some_iff.1 ed2.out).1).trans ed2.out
                          exact ⟨(three_ofS b1).1, (three_ofS b2).1⟩)
                        have ST0 := Lib.hid (Stays.of (S := fun b => b ≠ T) (grown_drewT (grown_reflT (wr.alloc (.cells #[.string nm, .slice ta tl tc, .int .i64 kn] 50)) none)))
                        have gD : w6.grownBy (wr.alloc (.cells #[.string nm, .slice ta tl tc, .int .i64 kn] 50)).drew none := grown_drewT K6.out.2.2.2
                        have HCh := Lib.hid (changePl_any (fun b => b ≠ T) (ps6.getD i default) ta tl tc kn nm ⟨dt, ⟨oa, oc, ol⟩, ⟨na, nc, nl⟩⟩ _ l' (fun b hb e => by have := (Array.getElem?_eq_some_iff.1 F0.out.blk).1; subst e; exact absurd this (by omega)) (F0.out.at (i := i) (by rw [L6.out]; exact hlt6)) (HRw.out _ gD).1 (HRw.out _ gD).2 (by have := HCp.out.1; have := HLen.out.1; simp only; omega) (by have := HCp.out.2; have := HLen.out.2; simp only; omega) HNe.out.2 HKn.out.2 hlen6 (by rw [HHx.out, ← HKn.out.1]; exact HC9.out.1))
                        simp only [Rw.v] at HCh
                        rw [← HLen.out.1, ← HLen.out.2] at HCh
                        have HSa := Lib.hid (fun W (hW : w6.grownBy W none) => show Calls Tryz.prog 14 #[.slice oa on oc, .slice na nn nc] W (fun e w' => e = .returned (.bool false) ∧ Below W.heap.size W w') from by
                          have h1 := refSame_any oa na oc nc ol nl W (HRw.out _ hW).1.row (HRw.out _ hW).2.row
                          have h2 : (rowsOrd ol nl == 0) = false := by rw [beq_eq_false_iff_ne]; exact fun e => HNe.out.1 ((ro_zero _ _).1 e)
                          rw [h2, ← HLen.out.1, ← HLen.out.2] at h1
                          exact h1)
                        have gD2 := Lib.hid gD
                        have dn := F0.out.cell (i := i) (by rw [L6.out]; exact hlt6)
                        generalize (ps6.getD i default).a = xa2 at *
                        generalize (ps6.getD i default).cap = xc2 at *
                        generalize hxn2 : (ps6.getD i default).l.length = xn2 at *
                        clear hxn2 hlen6 gD
                        go_upto_region 41 with fail
                        generalize wr.alloc (.cells #[.string nm, .slice ta tl tc, .int .i64 kn] 50) = wt9 at *
                        generalize wr.heap.size = wt at *
                        clear f0 f1 f2 z0 z1 z2
                        refine wp_region_held_drew (S := (fun W => (W.cell? ⟨wt, 0, none⟩ = some (.string nm) ∧ W.cell? ⟨wt, 1, none⟩ = some (.slice ta tl tc) ∧ W.cell? ⟨wt, 2, none⟩ = some (.int .i64 kn)) ∧ W.cell? ⟨wd, 0, none⟩ = some (.string dt) ∧ W.cell? ⟨wd, 1, none⟩ = some (.slice oa on oc) ∧ W.cell? ⟨wd, 2, none⟩ = some (.slice na nn nc))) (by kernel_rfl) (SS.out _ ST0.out) (fun hHeld => ?_)
                        refine wpAnyH_take (i := 0) (v := ?vc0) rfl (by kernel_rfl) (by kernel_rfl) (by kernel_rfl) (fun _ _ _ h => h) (Or.inl ⟨by rfl, ?yc0⟩) (by assumption) ?rc0
                        case yc0 => (intro w hSw; (try dsimp only at hSw); go_simp; try with_reducible rfl)
                        simp only [Act.put, List.getElem_toArray, List.getElem_cons_zero, List.size_toArray, List.length_cons, List.length_nil, Nat.reduceAdd, Array.replicate, List.replicate, List.setIfInBounds_toArray, List.set_cons_zero, List.set_cons_succ]
                        refine wpAnyH_take (i := 1) (v := ?vc1) rfl (by kernel_rfl) (by kernel_rfl) (by kernel_rfl) (fun _ _ _ h => h) (Or.inl ⟨by rfl, ?yc1⟩) (by assumption) ?rc1
                        case yc1 => (intro w hSw; (try dsimp only at hSw); go_simp; try with_reducible rfl)
                        simp only [Act.put, List.getElem_toArray, List.getElem_cons_succ, List.getElem_cons_zero, List.setIfInBounds_toArray, List.set_cons_zero, List.set_cons_succ]
                        refine wpAnyH_take (i := 2) (v := ?vc2) rfl (by kernel_rfl) (by kernel_rfl) (by kernel_rfl) (fun _ _ _ h => h) (Or.inl ⟨by rfl, ?yc2⟩) (by assumption) ?rc2
                        case yc2 => (intro w hSw; (try dsimp only at hSw); go_simp; try with_reducible rfl)
                        simp only [Act.put, List.getElem_toArray, List.getElem_cons_succ, List.getElem_cons_zero, List.setIfInBounds_toArray, List.set_cons_zero, List.set_cons_succ]
                        refine wpAnyH_take (i := 3) (v := ?vc3) rfl (by kernel_rfl) (by kernel_rfl) (by kernel_rfl) (fun _ _ _ h => h) (Or.inl ⟨by rfl, ?yc3⟩) (by assumption) ?rc3
                        case yc3 => (intro w hSw; (try dsimp only at hSw); go_simp; try with_reducible rfl)
                        simp only [Act.put, List.getElem_toArray, List.getElem_cons_succ, List.getElem_cons_zero, List.setIfInBounds_toArray, List.set_cons_zero, List.set_cons_succ]
                        refine wpAnyH_take (i := 4) (v := ?vc4) rfl (by kernel_rfl) (by kernel_rfl) (by kernel_rfl) (fun _ _ _ h => h) (Or.inl ⟨by rfl, ?yc4⟩) (by assumption) ?rc4
                        case yc4 => (intro w hSw; (try dsimp only at hSw); go_simp; try with_reducible rfl)
                        simp only [Act.put, List.getElem_toArray, List.getElem_cons_succ, List.getElem_cons_zero, List.setIfInBounds_toArray, List.set_cons_zero, List.set_cons_succ]
                        refine wpAnyH_take (i := 6) (v := ?vc6) rfl (by kernel_rfl) (by kernel_rfl) (by kernel_rfl) (fun _ _ _ h => h) (Or.inl ⟨by rfl, ?yc6⟩) (by assumption) ?rc6
                        case yc6 => (intro w hSw; (try dsimp only at hSw); go_simp; try with_reducible rfl)
                        simp only [Act.put, List.getElem_toArray, List.getElem_cons_succ, List.getElem_cons_zero, List.setIfInBounds_toArray, List.set_cons_zero, List.set_cons_succ]
                        refine wpAnyH_take (i := 7) (v := ?vc7) rfl (by kernel_rfl) (by kernel_rfl) (by kernel_rfl) (fun _ _ _ h => h) (Or.inl ⟨by rfl, ?yc7⟩) (by assumption) ?rc7
                        case yc7 => (intro w hSw; (try dsimp only at hSw); go_simp; try with_reducible rfl)
                        simp only [Act.put, List.getElem_toArray, List.getElem_cons_succ, List.getElem_cons_zero, List.setIfInBounds_toArray, List.set_cons_zero, List.set_cons_succ]
                        refine wpAnyH_ready (rs := [5]) (by kernel_rfl) (by simp) ?_
                        refine AllReadyH.cons rfl (fun K' hK => ?_) AllReadyH.nil
                        go_simp
                        refine hK.out _ _ (SS.out _ ST0.out) (fun hHeld => ?_)
                        clear hK K'
                        simp only [List.setIfInBounds_toArray, List.set_cons_zero, List.set_cons_succ]
                        refine wpAnyH_ready (rs := [8]) (by kernel_rfl) (by simp) ?_
                        refine AllReadyH.cons rfl (fun K' hK => ?_) AllReadyH.nil
                        go_simp
                        go_at_call 13
                        refine HCh.out.mono ?_
                        rintro e w9 ⟨⟨⟨ya, yc, yl⟩, rfl, hy, hyp⟩, hg9⟩
                        obtain ⟨yn, hyn⟩ : ∃ yn, yn = yl.length := ⟨_, rfl⟩
                        have HYn := Lib.hid hyn
                        simp only [Pl.v]
                        rw [← hyn]
                        have H9 := Lib.hid (And.intro hy hyp)
                        have G9 := Lib.hid hg9
                        have F9 := Lib.hid (F0.out.keep hg9)
                        have ST9 := Lib.hid (ST0.out.trans (Stays.of (S := fun b => b ≠ T) hg9))
                        have dn9 := F9.out.cell (i := i) (by rw [L6.out]; exact hlt6)
                        have df9 := F9.out.frozen i
                        clear hy hyp hg9 dn hyn
                        refine hK.out _ _ (SS.out _ ST9.out) (fun hHeld => ?_)
                        clear hK K'
                        simp only [List.setIfInBounds_toArray, List.set_cons_zero, List.set_cons_succ]
                        refine wpAnyH_take (i := 9) (v := ?vc9) rfl (by kernel_rfl) (by kernel_rfl) (by kernel_rfl) (fun _ _ _ h => h) (Or.inl ⟨by rfl, ?yc9⟩) (by assumption) ?rc9
                        case yc9 => (intro w hSw; (try dsimp only at hSw); go_simp; try with_reducible rfl)
                        simp only [Act.put, List.getElem_toArray, List.getElem_cons_succ, List.getElem_cons_zero, List.setIfInBounds_toArray, List.set_cons_zero, List.set_cons_succ]
                        refine wpAnyH_take (i := 10) (v := ?vc10) rfl (by kernel_rfl) (by kernel_rfl) (by kernel_rfl) (fun _ _ _ h => h) (Or.inl ⟨by rfl, ?yc10⟩) (by assumption) ?rc10
                        case yc10 => (intro w hSw; (try dsimp only at hSw); go_simp; try with_reducible rfl)
                        simp only [Act.put, List.getElem_toArray, List.getElem_cons_succ, List.getElem_cons_zero, List.setIfInBounds_toArray, List.set_cons_zero, List.set_cons_succ]
                        refine wpAnyH_take (i := 11) (v := ?vc11) rfl (by kernel_rfl) (by kernel_rfl) (by kernel_rfl) (fun _ _ _ h => h) (Or.inl ⟨by rfl, ?yc11⟩) (by assumption) ?rc11
                        case yc11 => (intro w hSw; (try dsimp only at hSw); go_simp; try with_reducible rfl)
                        simp only [Act.put, List.getElem_toArray, List.getElem_cons_succ, List.getElem_cons_zero, List.setIfInBounds_toArray, List.set_cons_zero, List.set_cons_succ]
                        refine wpAnyH_take (i := 12) (v := ?vc12) rfl (by kernel_rfl) (by kernel_rfl) (by kernel_rfl) (fun _ _ _ h => h) (Or.inl ⟨by rfl, ?yc12⟩) (by assumption) ?rc12
                        case yc12 => (intro w hSw; (try dsimp only at hSw); go_simp; try with_reducible rfl)
                        simp only [Act.put, List.getElem_toArray, List.getElem_cons_succ, List.getElem_cons_zero, List.setIfInBounds_toArray, List.set_cons_zero, List.set_cons_succ]
                        refine wpAnyH_ready (rs := [13]) (by kernel_rfl) (by simp) ?_
                        refine AllReadyH.cons rfl (fun K' hK => ?_) AllReadyH.nil
                        go_simp
                        clear dn9 df9
                        refine hK.out _ _ (SS.out _ (ST9.out.trans (stays_set _ _ _ _))) (fun hHeld => ?_)
                        clear hK K'
                        simp only [List.setIfInBounds_toArray, List.set_cons_zero, List.set_cons_succ]
                        refine wpAnyH_take (i := 14) (v := ?vc14) rfl (by kernel_rfl) (by kernel_rfl) (by kernel_rfl) (fun _ _ _ h => h) (Or.inl ⟨by rfl, ?yc14⟩) (by assumption) ?rc14
                        case yc14 => (intro w hSw; (try dsimp only at hSw); go_simp; try with_reducible rfl)
                        simp only [Act.put, List.getElem_toArray, List.getElem_cons_succ, List.getElem_cons_zero, List.setIfInBounds_toArray, List.set_cons_zero, List.set_cons_succ]
                        refine wpAnyH_done (by kernel_rfl) ?_ _
                        have F10 := Lib.hid (show NowAt T (w9.setCell ⟨T, i, none⟩ (.slice ya yn yc)) T (ps6.set i ⟨ya, yc, yl⟩) from by
                          have V9 : (⟨ya, yc, yl⟩ : Pl).v = .slice ya yn yc := by simp only [Pl.v]; rw [HYn.out]
                          have hset := F9.out.set H9.out.1 i
                          rw [V9] at hset
                          exact hset)
                        have g10 := Lib.hid (grown_setT (gD2.out.trans G9.out) (Nat.le_of_eq HT6.out) i (.slice ya yn yc))
                        have st10 := Lib.hid (((K6.out.2.2.1.trans ST0.out).trans (.of G9.out)).trans (stays_set w9 T i (.slice ya yn yc)))
                        obtain ⟨_, f0, f1, f2⟩ := SS.out _ ((ST0.out.trans (.of G9.out)).trans (stays_set w9 T i (.slice ya yn yc)))
                        generalize w9.setCell ⟨T, i, none⟩ (.slice ya yn yc) = w10 at *
                        go_wp2_with fail
                        refine (HSa.out _ g10.out).mono ?_
                        rintro e w11 ⟨rfl, hb11⟩
                        have G11 := Lib.hid (grown_belowT hb11 none)
                        clear hb11 f0 f1 f2
                        go_wp2_with fail
                        go_roundw
                        case rel =>
                          refine ⟨i + 1, by go_num, by omega, Lib.hid ⟨ps6.set i ⟨ya, yc, yl⟩, by rw [List.length_set]; exact L6.out, F10.out.keep G11.out, ?_, st10.out.trans (.of G11.out), g10.out.trans G11.out⟩⟩
                          have h6 := K6.out.2.1
                          rw [if_pos (Nat.le_refl _)] at h6
                          rw [if_neg (by omega)]
                          exact h6.set (by rw [L6.out]; exact hlt6) (by simp only [if_true]; exact H9.out.2) (fun k hk => if_neg hk)
                        case measure => simp [intOf]; omega
                      · clear f0 f1 f2
                        obtain ⟨⟨f0, f1, f2⟩, _⟩ := three_ofS ed2.out
                        obtain ⟨⟨z0, z1, z2⟩, _⟩ := three_ofS bx.out
                        go_wp2_with fail
                        go_roundw
                        case rel =>
                          refine ⟨i + 1, by go_num, by omega, Lib.hid ⟨ps6, L6.out, K6.out.1, ?_, K6.out.2.2.1, K6.out.2.2.2⟩⟩
                          have h6 := K6.out.2.1
                          by_cases e : i ≤ i0
                          · rw [if_pos e] at h6
                            rw [if_pos (by omega)]
                            exact h6
                          · rw [if_neg e] at h6
                            rw [if_neg (by omega)]
                            exact h6
                        case measure => simp [intOf]; omega
                    · obtain rfl : n = i := by omega
                      go_wp2_with fail
                      go_roundw
                      case rel =>
                        obtain ⟨ps6, hpl, hnow, hps, hsty, hgr⟩ := K.out
                        rw [if_neg (by omega)] at hps
                        refine ⟨q + 1, by go_num, by omega, Lib.hid ⟨ps6, _, hpl, hnow, hps, HC9.out.2.1, fun a ha => ?_, K9.out.2.2.2.1.trans hsty, hgr⟩⟩
                        have h1 := changeL_few HC9.out.1
                        have h2 := HC9.out.2.2.1
                        by_cases e : a = i0
                        · rw [if_pos e]
                          have := h2 i0 hi0
                          omega
                        · rw [if_neg e]
                          have := h2 a ha
                          omega
                      case measure => simp [intOf]; omega
                · obtain rfl : xn = q := by omega
                  obtain ⟨ps, P, hpl, hnow, hps, hst, _, hsty, hgr⟩ := K.out
                  rw [List.drop_of_length_le (by rw [HXn.out]; exact Nat.le_refl _)] at hst
                  simp only [List.map_nil, stepL, Option.some.injEq] at hst
                  subst hst
                  have e8 := (hsty.2 wc NE8.out (Array.getElem?_eq_some_iff.1 E8.out).1).trans E8.out
                  have d80 := cell_of_row _ _ 0 _ _ _ e8
                  simp at d80
                  have hmk1 : m + 1 ≤ s3.cs.length := by have := Hk.out.1; omega
                  have HA1 := HAt.out wr (G6.out.trans hgr) (m + 1) hmk1
                  rw [← Fr.out, show fr + ((m + 1 : Nat) : Int) = fr + m + 1 by push_cast; omega] at HA1
                  have HA2 := Lib.hid HA1
                  have KN := Lib.hid (show ps.length = n ∧ NowAt T wr T ps ∧ Holds ps (fun a => ((s3.sn.getD (m + 1) default).tr a).toL) ∧ w6.grownBy wr none from ⟨hpl, hnow, hps, hgr⟩)
                  have hmq : m + 1 < s3.sn.length := by have := HSn.out; omega
                  have HTm := Lib.hid (HTq.out (m + 1) hmq)
                  clear hpl hnow hps hsty hgr e8 hmk1 HA1 hmq K e80 e81
                  go_wp2_with fail
                  refine HA2.out.mono ?_
                  rintro e w12 ⟨⟨pq, rfl, _, hsn⟩, hg12⟩
                  have PQ := Lib.hid hsn
                  have KN2 := Lib.hid (show ps.length = n ∧ NowAt T w12 T ps ∧ Holds ps (fun a => ((s3.sn.getD (m + 1) default).tr a).toL) ∧ w6.grownBy w12 none from ⟨KN.out.1, KN.out.2.1.keep hg12, KN.out.2.2.1, KN.out.2.2.2.trans hg12⟩)
                  clear hsn hg12 HA2 KN d80
                  go_wp2_with fail
                  go_loopw [208] (fun s208 wv => ∃ i : Nat, s208 = .int .i64 i ∧ i ≤ n ∧ Hid (w12.grownBy wv none)) (fun s208 _ => n - (intOf s208).toNat)
                  case atStart => exact ⟨0, rfl, by omega, Lib.hid (grown_reflT _ none)⟩
                  case round =>
                    obtain ⟨i, rfl, hi, K⟩ := hrel
                    by_cases hlt7 : i < n
                    · have hgr := KN2.out.2.2.2.trans K.out
                      have gW : w.grownBy wr none := G1.out.trans (X3.out.gr.trans (G6.out.trans hgr))
                      obtain ⟨tb2, tof2, htb2, _, c0, c1, c2⟩ := (HT.out wr gW).at (i := i) (by rw [← Hn.out.1]; exact hlt7)
                      cases htb2
                      obtain ⟨t1, t2, t3, t4, t5⟩ := HTa.out i hlt7
                      obtain ⟨kn, hkn⟩ : ∃ kn : Nat, (l.getD i default).k = kn := ⟨(l.getD i default).k.toNat, by omega⟩
                      rw [hkn] at c2
                      have HKn := Lib.hid (show (s3.ts.getD i default).k.toNat = kn ∧ 1 ≤ kn from ⟨by rw [← t3, hkn]; simp, by omega⟩)
                      have HTi := Lib.hid t5
                      have Ht1 := Lib.hid t1
                      have Ht2 := Lib.hid t2
                      obtain ⟨nm, hnm⟩ : ∃ nm, nm = (l.getD i default).n := ⟨_, rfl⟩
                      have Nm := Lib.hid hnm
                      rw [← hnm] at c0
                      generalize (l.getD i default).a = ta at *
                      generalize (l.getD i default).l.length = tl at *
                      generalize (l.getD i default).cap = tc at *
                      have icap : (i : Int) ≤ cap := by omega
                      have ilt : (i : Int) < n := by omega
                      have gA := World.grownBy_alloc wr (.cells #[.string nm, .slice ta tl tc, .int .i64 kn] 50) none
                      have bx := Lib.hid (heap_alloc_new wr (.cells #[.string nm, .slice ta tl tc, .int .i64 kn] 50))
                      have HR1 := Lib.hid (rowsP2_any _ pq s3.ca s3.cc s3.ts (s3.sn.getD (m + 1) default) nm _ (PQ.out.keep (.of (K.out.trans gA))) H6.out HTm.out)
                      have KA := Lib.hid (K.out.trans gA)
                      clear hgr gW gA hnm K t1 t2 t3 t4 t5 hkn
                      go_wp2_with fail
                      refine HR1.out.mono ?_
                      rintro e w13 ⟨⟨ra, rc, rm, ec, rfl, hrc, hrm, D⟩, hg13⟩
                      have G13 := Lib.hid (KA.out.trans hg13)
                      have N13 := KN2.out.2.1.keep G13.out
                      have dn := N13.cell (i := i) (by rw [KN2.out.1]; exact hlt7)
                      have HPl := N13.at (i := i) (by rw [KN2.out.1]; exact hlt7)
                      have HRr := Lib.hid (refRowsP_any (fun b => b ≠ T) _ _ _ w13 HPl.ps HPl.cap HPl.good)
                      have HHx := Lib.hid (KN2.out.2.2.1 i (by rw [KN2.out.1]; exact hlt7))
                      have HDe := Lib.hid (show ∃ done : List Rw, done.length = rm ∧ RsAt w13 ra done ∧ done.map Rw.l = (((s3.sn.getD (m + 1) default).tr i).toL).map Prod.snd from by
                        obtain ⟨done, h1, h2, h3⟩ := D.out
                        exact ⟨done, h1, h2.rs, by rw [h3]; unfold rowsU; rw [Nm.out, HTi.out]⟩)
                      have f7 := N13.frozen i
                      generalize (ps.getD i default).a = xa2 at *
                      generalize (ps.getD i default).cap = xc2 at *
                      generalize hxl2 : (ps.getD i default).l = xl2 at *
                      obtain ⟨xn2, hxn2⟩ : ∃ x, x = xl2.length := ⟨_, rfl⟩
                      have HX2 := Lib.hid hxn2
                      rw [← hxn2] at dn HRr
                      clear hxl2 hxn2 N13 HPl hg13 HR1 D
                      go_wp2_with fail
                      refine HRr.out.mono ?_
                      rintro e w14 ⟨⟨ao, co, rfl, hco, hrs⟩, hg14⟩
                      have HSm := Lib.hid (show Calls Tryz.prog 15 #[.slice ra rm rc, .slice ao xn2 co] w14 (fun e w' => e = .returned (.bool true) ∧ w14.grownBy w' none) from by
                        obtain ⟨done, h1, h2, h3⟩ := HDe.out
                        have h4 := sameRows_any ra ao rc co done (xl2.map Pw.r) w14 (h2.keep hg14) hrs (by omega) (by rw [List.length_map, ← HX2.out]; exact hco) (by
                          rw [h3]
                          have := HHx.out
                          rw [← this, List.map_map, List.map_map]
                          rfl)
                        rw [h1, List.length_map, ← HX2.out] at h4
                        exact h4)
                      have G14 := Lib.hid (G13.out.trans hg14)
                      clear hrs hg14 HRr dn f7
                      go_wp2_with fail
                      refine HSm.out.mono ?_
                      rintro e w15 ⟨rfl, hg15⟩
                      have G15 := Lib.hid (G14.out.trans hg15)
                      clear hg15
                      go_wp2_with fail
                      go_roundw
                      case rel => exact ⟨i + 1, by go_num, by omega, G15⟩
                      case measure => simp [intOf]; omega
                    · obtain rfl : n = i := by omega
                      go_wp2_with fail
                      go_roundw
                      case rel => exact ⟨m + 1, by go_num, by omega, Lib.hid ⟨ps, KN2.out.1, KN2.out.2.1.keep K.out, KN2.out.2.2.1, KN2.out.2.2.2.trans K.out⟩⟩
                      case measure => simp [intOf]; omega
            · obtain rfl : k = m := by omega
              obtain ⟨ps, _, _, _, hgr⟩ := K.out
              have GF := Lib.hid hgr
              clear hgr K
              go_wp2_with fail
              go_ret
              exact ⟨rfl, below_grownT (G1.out.trans (X3.out.gr.trans (G6.out.trans GF.out)))⟩
end Go.Proofs.YtnfpomjcofhppaaGreatDoor
namespace Go.Proofs.YtnfpomjcofhppaaGreatDoor
open Go.ChangeShapes Go.WideShapes Go.ChangeAt Go.RowKit Go.Joins
open Go.ChangeMaps (open_string shut_string)

set_option maxRecDepth 100000 in
theorem storeSteps_lifted (os : Os) (started : os.Started) (H : Type) (enc : TypeId × Value → H) :
    ReturnsInHanded {} Tryz.checked os 3 .any (fun w args => (Rows.storeStepsSpec.pre enc Tryz.prog Tryz.f3 [] false w args ∧ laidMetH Tryz.prog laid9s w) ∧ sizedMet enc Tryz.prog Tryz.f3 (OpenSpec.ofChange Rows.storeStepsSpec) false w args)
      (Rows.storeStepsSpec.post enc Tryz.prog Tryz.f3 false true false false) := by
  refine returnsInHanded_of_change_and (C := Tryz.checked) (X := fun w _ => laidMetH Tryz.prog laid9s w) (fun _ _ _ hh h => h.of_heap hh) own started (by kernel_rfl) Tryz.func3
    (ChangeSpec.witness_shaped (enc := enc) (C := Tryz.checked) (os := os) (X := fun w _ => laidMetH Tryz.prog laid9s w) false (World.doorLaid Tryz.prog 400 os) #[.slice none 0 0, .slice none 0 0] 8 rfl (World.shaped_of_RefB (by kernel_rfl) (by kernel_rfl)) (by kernel_rfl) (by kernel_rfl) (by kernel_rfl) (door_met9s os _)) ?_
  intro W base args ds gs before hval0 hW _ _ hL _
  have hval : ∀ (j : Nat) t v, Tryz.f3.params[j]? = some t → args[j]? = some v → Value.okWide Tryz.prog W .any base t v := hval0
  have hW' := hW
  obtain ⟨p, q, hA0, hV, rfl, hfz, hnd⟩ := hW
  have hA : DataW.TrodAll enc Tryz.prog W 0 (fun _ => true) true Tryz.f3.params.toList args.toList ds p := hA0
  rw [Tryz.params3] at hA hval
  obtain ⟨v0, v1, d0, d1, p0, p1, rfl, rfl, rfl, h0, h1⟩ := trodAll_two hA
  obtain ⟨rfl, rfl⟩ := trodVars_none hV
  have kk0 := h0
  have lt0 : ∀ x ∈ p0, x.block < W.heap.size := by obtain ⟨m, hm⟩ := kk0; exact DataW.trod_lt m _ _ _ hm
  obtain ⟨a0, cap0, l0, rfl, hc0, row0, hcs0, hN0⟩ := open_tables9 (hval 0 22 v0 rfl rfl) h0
  have kk1 := h1
  have lt1 : ∀ x ∈ p1, x.block < W.heap.size := by obtain ⟨m, hm⟩ := kk1; exact DataW.trod_lt m _ _ _ hm
  obtain ⟨a1, cap1, l1, rfl, hc1, row1⟩ := open_commits9 (hval 1 23 v1 rfl rfl) h1
  clear hA0 hval0
  simp only [List.append_nil] at hW'
  refine (StoreSteps_any W.heap.size a0 a1 cap0 cap1 l0 l1 W row0 hc0 hcs0 hN0 row1 hc1 (whyG_of9s hL) (errT_of9s hL) (Nat.le_refl _)).mono fun e W' ⟨he, hb⟩ => ?_
  subst he
  exact ⟨_, rfl, _, _, _, [], _, [], hW', trodAll_mk1 (shut_bool Tryz.underlying4 _), trodAll_mk2 (Below.trod laidOut (by kernel_rfl) (of_decide_eq_true (by kernel_rfl)) kk0 hb lt0) (Below.trod laidOut (by kernel_rfl) (of_decide_eq_true (by kernel_rfl)) kk1 hb lt1), rfl, hb.frame _, fun h => by cases h⟩

theorem storeSteps_holds : Rows.StoreStepsSaid :=
  OpenClaim.holds_of_wide 3 Tryz.f3 rfl rfl rfl rfl rfl rfl rfl ⟨rfl, rfl, rfl, rfl, rfl⟩ rfl rfl rfl rfl rfl (by kernel_rfl) Tryz.func3 (by kernel_rfl)
    (of_decide_eq_true (by kernel_rfl)) (by unfold Func.isWrapper; first | (rw [if_pos (by decide +kernel)]; kernel_rfl) | (rw [if_neg (by decide +kernel)]; exact ⟨rfl, rfl⟩))
    (fun os started H enc _ => storeSteps_lifted os started H enc)

theorem storeSteps_card : Rows.StoreStepsCardSaid :=
  Claim7.holds_tied_plain_at .later [] [.handle, .sentinel, .sentinel, .sentinel, .sentinel, .sentinel, .sentinel, .sentinel, .sentinel] true Rows.storeStepsCard.stood.harness true
    storeSteps_holds (fun _ h => by cases h) (by kernel_rfl) (fun _ h => by cases h) storeSteps_row_tie rfl ⟨rfl, rfl⟩ (by kernel_rfl) rfl
    (fun f fn hf hfn => by
      obtain rfl : f = 3 := Option.some.inj ((show Tryz.prog.funcNamed "stillroom/stillroomlaw09.StoreSteps" = some 3 by kernel_rfl).symm.trans hf) |>.symm
      obtain rfl : fn = Tryz.f3 := (Option.some.inj (Tryz.func3.symm.trans hfn)).symm
      exact ⟨by kernel_rfl, fun j t ht => by
        rw [Tryz.params3] at ht
        have hm : t ∈ [22, 23] := by simpa using Array.mem_of_getElem? ht
        have hall : ([22, 23].all fun u => !Tryz.prog.wantsStandIn u) = true := by kernel_rfl
        exact (show Tryz.prog.wantsStandIn t = false by simpa using List.all_eq_true.1 hall t hm)⟩)
    (by kernel_rfl)
#print axioms storeSteps_card
end Go.Proofs.YtnfpomjcofhppaaGreatDoor
