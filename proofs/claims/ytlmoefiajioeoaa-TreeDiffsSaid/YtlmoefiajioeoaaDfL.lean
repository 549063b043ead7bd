/- The law TreeDiffs walked. -/
import Derived.Test.YtlmoefiajioeoaaDfR
import Derived.Test.YtlmoefiajioeoaaDfD
import Derived.Test.YtlmoefiajioeoaaTkS
namespace Go.Proofs.Ytlmoefiajioeoaa
open Go.RowKit

/-- A tree and a list in memory that hold the same. -/
def Both (W : World) (t : Tre) (p pa : Ptr) (pc q : Nat) (m : List Pw) (j : Nat) : Prop := m.length = q ∧ TrAt Any W t p ∧ PsS Any W pa m ∧ m.length ≤ pc ∧ Eq7 t m j
theorem Both.keep {W W' : World} {t : Tre} {p pa : Ptr} {pc q : Nat} {m : List Pw} {j : Nat} (h : Both W t p pa pc q m j) (hg : W.grownBy W' none) : Both W' t p pa pc q m j := ⟨h.1, h.2.1.keep (.of hg), h.2.2.1.keep (.of hg), h.2.2.2⟩
/-- One act more, at the world in which it has been boxed. -/
theorem Both.act {w W : World} {t : Tre} {p pa : Ptr} {pc q : Nat} {m : List Pw} {j : Nat} (h : Both W t p pa pc q m j) (hj : j ≤ 1000) (hg : w.grownBy W none) (x : Aw) (hk : RowAt w x.k.a x.k.l) (hr : RowAt w x.r.a x.r.l) (hf : fitA x) :
    Calls Try.prog 12 #[.pointer p, .slice pa q pc, .agg #[.bool x.d, .slice x.k.a x.k.l.length x.k.cap, .slice x.r.a x.r.l.length x.r.cap]] W fun e w' => (∃ (p' pa' : Ptr) (q' pc' : Nat), e = .returned (.tuple #[.pointer p', .slice pa' q' pc']) ∧ Hid (∃ t' m', Both w' t' p' pa' pc' q' m' (j + 1))) ∧ W.grownBy w' none := by
  obtain ⟨hq, ht, hp, hc, he⟩ := h
  obtain ⟨d, ⟨ka, kc, kl⟩, ⟨ra, rc, rl⟩⟩ := x
  obtain ⟨hf1, hf2, hf3, _, _⟩ := hf
  simp only at hk hr hf1 hf2 hf3 ⊢
  have hDo := Do_any Any Any t p pa ka ra pc kc rc d m kl rl W (fun _ _ => trivial) (fun _ _ => trivial) ht hp hc (act_rows hk hf1 hg (fun _ _ => trivial)) (act_rows hr hf2 hg (fun _ _ => trivial)) hf3 he.good he.sort (by have := he.n; have := he.few; omega) (by have := he.few; omega)
  have he' := he.act d (K := ⟨ka, kc, kl⟩) ⟨ra, rc, rl⟩ hf3
  rw [hq] at hDo
  refine hDo.mono ?_
  rintro e w' ⟨⟨p', pa', pc', rfl, hc', ht', hp'⟩, hg'⟩
  exact ⟨⟨p', pa', _, pc', rfl, Lib.hid ⟨_, _, rfl, ht', hp', hc', he'⟩⟩, hg'⟩
set_option maxRecDepth 100000 in
set_option maxHeartbeats 25600000 in
theorem TreeDiffs_any (a0 a1 a2 : Ptr) (cap0 cap1 cap2 : Nat) (l0 l1 l2 : List Aw) (w : World) (h0 : AcAt w a0 l0) (h1 : AcAt w a1 l1) (h2 : AcAt w a2 l2) (hc0 : l0.length ≤ cap0) (hc1 : l1.length ≤ cap1) (hc2 : l2.length ≤ cap2) :
    Calls Try.prog 5 #[.slice a0 l0.length cap0, .slice a1 l1.length cap1, .slice a2 l2.length cap2] w fun e w' => e = .returned (.bool true) ∧ Below w.heap.size w w' := by
  have HA := Lib.hid awake7_any
  have H0 := Lib.hid h0
  have HF0 := Lib.hid (fun W (hW : w.grownBy W none) => Fits_any a0 cap0 l0 W (h0.keep (below_grownT hW)) hc0)
  obtain ⟨n0, hn0⟩ : ∃ n, n = l0.length := ⟨_, rfl⟩
  have Hn0 := Lib.hid hn0
  rw [← hn0] at hc0 HF0 ⊢
  clear hn0 h0
  have H1 := Lib.hid h1
  have HF1 := Lib.hid (fun W (hW : w.grownBy W none) => Fits_any a1 cap1 l1 W (h1.keep (below_grownT hW)) hc1)
  obtain ⟨n1, hn1⟩ : ∃ n, n = l1.length := ⟨_, rfl⟩
  have Hn1 := Lib.hid hn1
  rw [← hn1] at hc1 HF1 ⊢
  clear hn1 h1
  have H2 := Lib.hid h2
  have HF2 := Lib.hid (fun W (hW : w.grownBy W none) => Fits_any a2 cap2 l2 W (h2.keep (below_grownT hW)) hc2)
  obtain ⟨n2, hn2⟩ : ∃ n, n = l2.length := ⟨_, rfl⟩
  have Hn2 := Lib.hid hn2
  rw [← hn2] at hc2 HF2 ⊢
  clear hn2 h2
  go_enter Try.func5, Try.ntmps5
  go_wp2_with fail
  refine (HA.out _).mono ?_
  rintro e w1 ⟨rfl, hg1⟩
  have G0 := Lib.hid hg1
  clear hg1
  go_wp2_with fail
  refine (HF0.out _ G0.out).mono ?_
  rintro e wf0 ⟨⟨b, rfl, hfit⟩, hgf⟩
  have G1 := Lib.hid (G0.out.trans hgf)
  clear hgf
  cases b
  · clear hfit
    go_wp2_with fail
    refine (HA.out _).mono ?_
    rintro e wz ⟨rfl, hgz⟩
    have GZ := Lib.hid (G1.out.trans hgz)
    clear hgz
    go_wp2_with fail
    go_ret
    exact ⟨rfl, below_grownT GZ.out⟩
  have HFit0 := Lib.hid (hfit rfl).2
  have hm0 : n0 ≤ 200 := by rw [Hn0.out]; exact (hfit rfl).1
  clear hfit
  go_wp2_with fail
  refine (HF1.out _ G1.out).mono ?_
  rintro e wf1 ⟨⟨b, rfl, hfit⟩, hgf⟩
  have G2 := Lib.hid (G1.out.trans hgf)
  clear hgf
  cases b
  · clear hfit
    go_wp2_with fail
    refine (HA.out _).mono ?_
    rintro e wz ⟨rfl, hgz⟩
    have GZ := Lib.hid (G2.out.trans hgz)
    clear hgz
    go_wp2_with fail
    go_ret
    exact ⟨rfl, below_grownT GZ.out⟩
  have HFit1 := Lib.hid (hfit rfl).2
  have hm1 : n1 ≤ 200 := by rw [Hn1.out]; exact (hfit rfl).1
  clear hfit
  go_wp2_with fail
  refine (HF2.out _ G2.out).mono ?_
  rintro e wf2 ⟨⟨b, rfl, hfit⟩, hgf⟩
  have G3 := Lib.hid (G2.out.trans hgf)
  clear hgf
  cases b
  · clear hfit
    go_wp2_with fail
    refine (HA.out _).mono ?_
    rintro e wz ⟨rfl, hgz⟩
    have GZ := Lib.hid (G3.out.trans hgz)
    clear hgz
    go_wp2_with fail
    go_ret
    exact ⟨rfl, below_grownT GZ.out⟩
  have HFit2 := Lib.hid (hfit rfl).2
  have hm2 : n2 ≤ 200 := by rw [Hn2.out]; exact (hfit rfl).1
  clear hfit
  have e1 : IntKind.i64.wrap ((n0 : Int) + n1) = (n0 : Int) + n1 := by rw [IntKind.wrap_i64]; omega
  have e2 : IntKind.i64.wrap ((n0 : Int) + n1 + n2) = (n0 : Int) + n1 + n2 := by rw [IntKind.wrap_i64]; omega
  by_cases hmany : (120 : Int) < (n0 : Int) + n1 + n2
  · clear e1 e2
    go_wp2_with fail
    refine (HA.out _).mono ?_
    rintro e wz ⟨rfl, hgz⟩
    have GZ := Lib.hid (G3.out.trans hgz)
    clear hgz
    go_wp2_with fail
    go_ret
    exact ⟨rfl, below_grownT GZ.out⟩
  go_wp2_with fail
  clear e1 e2 hmany
  go_loopw [7, 9, 50] (fun sp sl si wr => ∃ (p pa : Ptr) (q pc j : Nat), sp = .pointer p ∧ sl = .slice pa q pc ∧ si = .int .i64 j ∧ j ≤ n0 ∧ Hid ((∃ t m, Both wr t p pa pc q m (j)) ∧ w.grownBy wr none)) (fun _ _ si _ => n0 - (intOf si).toNat)
  case atStart => exact ⟨none, none, 0, 0, 0, rfl, rfl, rfl, by omega, Lib.hid ⟨⟨.nil, [], rfl, rfl, ⟨by simp, by simp, .inl rfl⟩, Nat.le_refl _, Eq7.nil⟩, G3.out⟩⟩
  case round =>
    obtain ⟨p1, pa1, q1, pc1, j, rfl, rfl, rfl, hj, I⟩ := hrel
    by_cases hlt : j < n0
    · obtain ⟨⟨t, m, hb⟩, hg⟩ := I.out
      have hil : j < l0.length := by rw [← Hn0.out]; exact hlt
      obtain ⟨⟨b, off, ha, c0, c1, c2⟩, _, _⟩ := (H0.out.keep (below_grownT hg)).at (i := j) hil
      obtain ⟨_, hk0, hr0⟩ := H0.out.at (i := j) hil
      have hfa := HFit0.out _ (show l0.getD j default ∈ l0 by simp [List.getD, hil])
      generalize l0.getD j default = z at *
      have G4 := Lib.hid (World.grownBy_alloc wr (cA z.d z.k.a z.k.l.length z.k.cap z.r.a z.r.l.length z.r.cap) none)
      have hDo := (hb.keep G4.out).act (by omega) (hg.trans G4.out) z hk0 hr0 hfa
      obtain ⟨dl, ⟨ka, kc, kl⟩, ⟨ra, rc, rl⟩⟩ := z
      simp only [Rw.v] at c0 c1 c2 hDo G4
      generalize kl.length = ky at *
      generalize rl.length = rz at *
      have HD := Lib.hid hDo
      have GR := Lib.hid hg
      have i1 : (j : Int) ≤ cap0 := by omega
      have i2 : (0 : Int) ≤ (j : Int) := Int.natCast_nonneg _
      have HAa := Lib.hid ha
      clear hDo hb hg hil hk0 hr0 hfa I
      subst ha
      go_wp2_with fail
      refine HD.out.mono ?_
      rintro e w3 ⟨⟨p', pa', q', pc', rfl, hb'⟩, hg3⟩
      have G5 := Lib.hid (G4.out.trans hg3)
      clear hg3 HD c0 c1 c2
      go_wp2_with fail
      go_roundw
      case rel => exact ⟨p', pa', q', pc', j + 1, rfl, rfl, by go_num, by omega, Lib.hid ⟨hb'.out, GR.out.trans G5.out⟩⟩
      case measure => simp [intOf]; omega
    · obtain rfl : n0 = j := by omega
      generalize hwr : wr = wo at *
      clear hwr
      go_wp2_with fail
      go_loopw [13, 14, 66] (fun sp sl si wr => ∃ (p pa : Ptr) (q pc j : Nat), sp = .pointer p ∧ sl = .slice pa q pc ∧ si = .int .i64 j ∧ j ≤ n1 ∧ Hid ((∃ t m, Both wr t p pa pc q m (n0 + j)) ∧ w.grownBy wr none ∧ (∃ t m, Both wr t p1 pa1 pc1 q1 m n0))) (fun _ _ si _ => n1 - (intOf si).toNat)
      case atStart => exact ⟨p1, pa1, q1, pc1, 0, rfl, rfl, rfl, by omega, Lib.hid ⟨I.out.1, I.out.2, I.out.1⟩⟩
      case round =>
        obtain ⟨p2, pa2, q2, pc2, j, rfl, rfl, rfl, hj, I⟩ := hrel
        by_cases hlt : j < n1
        · obtain ⟨⟨t, m, hb⟩, hg, hx1⟩ := I.out
          have hil : j < l1.length := by rw [← Hn1.out]; exact hlt
          obtain ⟨⟨b, off, ha, c0, c1, c2⟩, _, _⟩ := (H1.out.keep (below_grownT hg)).at (i := j) hil
          obtain ⟨_, hk0, hr0⟩ := H1.out.at (i := j) hil
          have hfa := HFit1.out _ (show l1.getD j default ∈ l1 by simp [List.getD, hil])
          generalize l1.getD j default = z at *
          have G4 := Lib.hid (World.grownBy_alloc wr (cA z.d z.k.a z.k.l.length z.k.cap z.r.a z.r.l.length z.r.cap) none)
          have hDo := (hb.keep G4.out).act (by omega) (hg.trans G4.out) z hk0 hr0 hfa
          obtain ⟨dl, ⟨ka, kc, kl⟩, ⟨ra, rc, rl⟩⟩ := z
          simp only [Rw.v] at c0 c1 c2 hDo G4
          generalize kl.length = ky at *
          generalize rl.length = rz at *
          have HD := Lib.hid hDo
          have GR := Lib.hid hg
          have HX1 := Lib.hid hx1
          clear hx1
          have i1 : (j : Int) ≤ cap1 := by omega
          have i2 : (0 : Int) ≤ (j : Int) := Int.natCast_nonneg _
          have HAa := Lib.hid ha
          clear hDo hb hg hil hk0 hr0 hfa I
          subst ha
          go_wp2_with fail
          refine HD.out.mono ?_
          rintro e w3 ⟨⟨p', pa', q', pc', rfl, hb'⟩, hg3⟩
          have G5 := Lib.hid (G4.out.trans hg3)
          clear hg3 HD c0 c1 c2
          go_wp2_with fail
          go_roundw
          case rel => exact ⟨p', pa', q', pc', j + 1, rfl, rfl, by go_num, by omega, Lib.hid ⟨hb'.out, GR.out.trans G5.out, HX1.out.elim fun t h => h.elim fun m h => ⟨t, m, h.keep G5.out⟩⟩⟩
          case measure => simp [intOf]; omega
        · obtain rfl : n1 = j := by omega
          generalize hwr : wr = wo2 at *
          clear hwr
          go_wp2_with fail
          go_loopw [8, 10, 80] (fun sp sl si wr => ∃ (p pa : Ptr) (q pc j : Nat), sp = .pointer p ∧ sl = .slice pa q pc ∧ si = .int .i64 j ∧ j ≤ n2 ∧ Hid ((∃ t m, Both wr t p pa pc q m (j)) ∧ w.grownBy wr none ∧ (∃ t m, Both wr t p1 pa1 pc1 q1 m n0) ∧ (∃ t m, Both wr t p2 pa2 pc2 q2 m (n0 + n1)))) (fun _ _ si _ => n2 - (intOf si).toNat)
          case atStart => exact ⟨none, none, 0, 0, 0, rfl, rfl, rfl, by omega, Lib.hid ⟨⟨.nil, [], rfl, rfl, ⟨by simp, by simp, .inl rfl⟩, Nat.le_refl _, Eq7.nil⟩, I.out.2.1, I.out.2.2, I.out.1⟩⟩
          case round =>
            obtain ⟨p, pa, q, pc, j, rfl, rfl, rfl, hj, I⟩ := hrel
            by_cases hlt : j < n2
            · obtain ⟨⟨t, m, hb⟩, hg, hx1, hx2⟩ := I.out
              have hil : j < l2.length := by rw [← Hn2.out]; exact hlt
              obtain ⟨⟨b, off, ha, c0, c1, c2⟩, _, _⟩ := (H2.out.keep (below_grownT hg)).at (i := j) hil
              obtain ⟨_, hk0, hr0⟩ := H2.out.at (i := j) hil
              have hfa := HFit2.out _ (show l2.getD j default ∈ l2 by simp [List.getD, hil])
              generalize l2.getD j default = z at *
              have G4 := Lib.hid (World.grownBy_alloc wr (cA z.d z.k.a z.k.l.length z.k.cap z.r.a z.r.l.length z.r.cap) none)
              have hDo := (hb.keep G4.out).act (by omega) (hg.trans G4.out) z hk0 hr0 hfa
              obtain ⟨dl, ⟨ka, kc, kl⟩, ⟨ra, rc, rl⟩⟩ := z
              simp only [Rw.v] at c0 c1 c2 hDo G4
              generalize kl.length = ky at *
              generalize rl.length = rz at *
              have HD := Lib.hid hDo
              have GR := Lib.hid hg
              have HX1 := Lib.hid hx1
              have HX2 := Lib.hid hx2
              clear hx1 hx2
              have i1 : (j : Int) ≤ cap2 := by omega
              have i2 : (0 : Int) ≤ (j : Int) := Int.natCast_nonneg _
              have HAa := Lib.hid ha
              clear hDo hb hg hil hk0 hr0 hfa I
              subst ha
              go_wp2_with fail
              refine HD.out.mono ?_
              rintro e w3 ⟨⟨p', pa', q', pc', rfl, hb'⟩, hg3⟩
              have G5 := Lib.hid (G4.out.trans hg3)
              clear hg3 HD c0 c1 c2
              go_wp2_with fail
              go_roundw
              case rel => exact ⟨p', pa', q', pc', j + 1, rfl, rfl, by go_num, by omega, Lib.hid ⟨hb'.out, GR.out.trans G5.out, HX1.out.elim fun t h => h.elim fun m h => ⟨t, m, h.keep G5.out⟩, HX2.out.elim fun t h => h.elim fun m h => ⟨t, m, h.keep G5.out⟩⟩⟩
              case measure => simp [intOf]; omega
            · obtain rfl : n2 = j := by omega
              obtain ⟨⟨v, m3, hb3⟩, hg, ⟨t, m1, hb1⟩, ⟨u, m2, hb2⟩⟩ := I.out
              have B := Lib.hid (And.intro hb1 (And.intro hb2 (And.intro hb3 hg)))
              have hs1 := hb1.2.2.2.2
              have hs2 := hb2.2.2.2.2
              have hs3 := hb3.2.2.2.2
              have D1 := Lib.hid (fun W (hW : wr.grownBy W none) => diff_any t u p1 p2 W (hb1.2.1.keep (.of hW)) (hb2.2.1.keep (.of hW)) hs1.sort hs2.sort (by have := hs1.n; have := hs1.few; omega) (by have := hs2.n; have := hs2.few; omega))
              have D2 := Lib.hid (fun W (hW : wr.grownBy W none) => diff_any u v p2 p W (hb2.2.1.keep (.of hW)) (hb3.2.1.keep (.of hW)) hs2.sort hs3.sort (by have := hs2.n; have := hs2.few; omega) (by have := hs3.n; have := hs3.few; omega))
              have R1 := Lib.hid (fun W (hW : wr.grownBy W none) => refDiff_any pa1 pa2 pc1 pc2 m1 m2 W (hb1.2.2.1.keep (.of hW)) (hb2.2.2.1.keep (.of hW)) hb1.2.2.2.1 hb2.2.2.2.1 (by rw [← hs1.same]; exact hs1.sort) (by rw [← hs2.same]; exact hs2.sort) hs1.good hs2.good (by have := hs1.few; have := hs2.few; omega))
              have R2 := Lib.hid (fun W (hW : wr.grownBy W none) => refDiff_any pa2 pa pc2 pc m2 m3 W (hb2.2.2.1.keep (.of hW)) (hb3.2.2.1.keep (.of hW)) hb2.2.2.2.1 hb3.2.2.2.1 (by rw [← hs2.same]; exact hs2.sort) (by rw [← hs3.same]; exact hs3.sort) hs2.good hs3.good (by have := hs2.few; have := hs3.few; omega))
              have S1 := Lib.hid (fun W (hW : wr.grownBy W none) => diff_same t t p1 p1 W (hb1.2.1.keep (.of hW)) (hb1.2.1.keep (.of hW)) hs1.sort rfl (by have := hs1.n; have := hs1.few; omega))
              have S2 := Lib.hid (fun W => diff_same .nil .nil none none W rfl rfl (by simp [Tr.toL, Tr.Sorted]) rfl (by simp [Tr.n]))
              rw [hs1.same, hs2.same] at D1
              rw [hs2.same, hs3.same] at D2
              rw [hb1.1, hb2.1] at R1
              rw [hb2.1, hb3.1] at R2
              have GW := Lib.hid hg
              clear hb1 hb2 hb3 hg hs1 hs2 hs3 B I
              have C0 := Lib.hid (grown_reflT wr none)
              go_wp2_with fail
              refine (D1.out _ C0.out).mono ?_
              rintro e x1 ⟨⟨ya, yc, O1, rfl, hoc, hcs, hop⟩, hgx⟩
              have X1 := Lib.hid (And.intro hgx (And.intro hoc (And.intro hcs hop)))
              obtain ⟨yn, hyn⟩ : ∃ yn, yn = O1.length := ⟨_, rfl⟩
              have HYn := Lib.hid hyn
              rw [← hyn]
              clear hgx hoc hcs hop hyn
              go_wp2_with fail
              refine (R1.out _ X1.out.1).mono ?_
              rintro e x2 ⟨⟨za, zc, O2, rfl, hoc, hcs, hop⟩, hgx⟩
              have X2 := Lib.hid (And.intro (X1.out.1.trans hgx) (And.intro hoc (And.intro hcs hop)))
              have HSC := Lib.hid (sameChanges_any ya za yc zc O1 O2 x2 (X1.out.2.2.1.keep hgx) hcs X1.out.2.1 hoc (by rw [X1.out.2.2.2, hop]))
              rw [← HYn.out] at HSC
              obtain ⟨zn, hzn⟩ : ∃ zn, zn = O2.length := ⟨_, rfl⟩
              rw [← hzn] at HSC ⊢
              clear hgx hoc hcs hop hzn
              go_wp2_with fail
              refine HSC.out.mono ?_
              rintro e x3 ⟨rfl, hgx⟩
              have X3 := Lib.hid (X2.out.1.trans hgx)
              clear hgx HSC X1 X2 HYn
              go_wp2_with fail
              refine (D2.out _ X3.out).mono ?_
              rintro e x4 ⟨⟨ya', yc', O3, rfl, hoc, hcs, hop⟩, hgx⟩
              have X4 := Lib.hid (And.intro (X3.out.trans hgx) (And.intro hoc (And.intro hcs hop)))
              obtain ⟨yn', hyn⟩ : ∃ yn, yn = O3.length := ⟨_, rfl⟩
              have HYn := Lib.hid hyn
              rw [← hyn]
              clear hgx hoc hcs hop hyn
              go_wp2_with fail
              refine (R2.out _ X4.out.1).mono ?_
              rintro e x5 ⟨⟨za', zc', O4, rfl, hoc, hcs, hop⟩, hgx⟩
              have X5 := Lib.hid (And.intro (X4.out.1.trans hgx) (And.intro hoc (And.intro hcs hop)))
              have HSC := Lib.hid (sameChanges_any ya' za' yc' zc' O3 O4 x5 (X4.out.2.2.1.keep hgx) hcs X4.out.2.1 hoc (by rw [X4.out.2.2.2, hop]))
              rw [← HYn.out] at HSC
              obtain ⟨zn', hzn⟩ : ∃ zn, zn = O4.length := ⟨_, rfl⟩
              rw [← hzn] at HSC ⊢
              clear hgx hoc hcs hop hzn
              go_wp2_with fail
              refine HSC.out.mono ?_
              rintro e x6 ⟨rfl, hgx⟩
              have X6 := Lib.hid (X5.out.1.trans hgx)
              clear hgx HSC X4 X5 HYn
              go_wp2_with fail
              refine (S1.out _ X6.out).mono ?_
              rintro e x7 ⟨rfl, hgx⟩
              have X7 := Lib.hid (X6.out.trans hgx)
              clear hgx
              go_wp2_with fail
              refine (S2.out _).mono ?_
              rintro e x8 ⟨rfl, hgx⟩
              have X8 := Lib.hid (X7.out.trans hgx)
              clear hgx
              go_wp2_with fail
              go_ret
              exact ⟨rfl, below_grownT (GW.out.trans X8.out)⟩
end Go.Proofs.Ytlmoefiajioeoaa
