/- The law TreePlays walked. -/
import Derived.Test.YtlmoefiajioeoaaTkY
import Derived.OwnWalk
namespace Go.Proofs.Ytlmoefiajioeoaa
open Go.RowKit

set_option maxRecDepth 100000 in
set_option maxHeartbeats 25600000 in
theorem TreePlays_any (a ka : Ptr) (cap kc : Nat) (l : List Aw) (key : List Vl) (N : Int) (w : World) (h : AcAt w a l) (hcap : l.length ≤ cap) (hk : RowAt w ka key) :
    Calls Try.prog 3 #[.slice a l.length cap, .slice ka key.length kc, .int .i64 N] w fun e w' => e = .returned (.bool true) ∧ Below w.heap.size w w' := by
  have HA := Lib.hid awake7_any
  have H := Lib.hid h
  have HK := Lib.hid hk
  have HF := Lib.hid (fun W (hW : w.grownBy W none) => Fits_any a cap l W (h.keep (below_grownT hW)) hcap)
  have HG := Lib.hid (fun W (hW : w.grownBy W none) => (goodRow_any ka kc key W (hk.keep (below_grownT hW))).mono fun e w' h => And.intro h.1 (grown_belowT h.2 none))
  obtain ⟨n, hn⟩ : ∃ n, n = l.length := ⟨_, rfl⟩
  have Hn := Lib.hid hn
  rw [← hn] at hcap HF ⊢
  obtain ⟨m0, hm0⟩ : ∃ m0, m0 = key.length := ⟨_, rfl⟩
  have Hm0 := Lib.hid hm0
  rw [← hm0] at HG ⊢
  have hm9 : m0 ≤ 9223372036854775807 := by rw [hm0]; exact hk.1
  clear h hn hk hm0
  go_enter Try.func3, Try.ntmps3
  go_wp2_with fail
  refine (HA.out _).mono ?_
  rintro e w1 ⟨rfl, hg1⟩
  have G1 := Lib.hid hg1
  clear hg1
  go_wp2_with fail
  refine (HF.out _ G1.out).mono ?_
  rintro e w2 ⟨⟨b, rfl, hfit⟩, hg2⟩
  have G2 := Lib.hid (G1.out.trans hg2)
  clear hg2 G1
  cases b
  · clear hfit
    go_wp2_with fail
    refine (HA.out _).mono ?_
    rintro e w3 ⟨rfl, hg3⟩
    have G3 := Lib.hid (G2.out.trans hg3)
    clear hg3
    go_wp2_with fail
    go_ret
    exact ⟨rfl, below_grownT G3.out⟩
  have HFit := Lib.hid (hfit rfl).2
  have hn200 : n ≤ 200 := by rw [Hn.out]; exact (hfit rfl).1
  clear hfit
  obtain ⟨gk, hgk⟩ : ∃ gk : Bool, gk = key.all Vl.good := ⟨_, rfl⟩
  have Hgk := Lib.hid hgk
  rw [← hgk] at HG
  clear hgk
  go_wp2_with fail
  refine (HG.out _ G2.out).mono ?_
  rintro e w2b ⟨rfl, hg2⟩
  have G2b := Lib.hid (G2.out.trans hg2)
  clear hg2 G2 HG
  cases gk
  · go_wp2_with fail
    refine (HA.out _).mono ?_
    rintro e w3 ⟨rfl, hg3⟩
    have G3 := Lib.hid (G2b.out.trans hg3)
    clear hg3
    go_wp2_with fail
    go_ret
    exact ⟨rfl, below_grownT G3.out⟩
  by_cases hm10 : (10 : Int) < m0
  · go_wp2_with fail
    refine (HA.out _).mono ?_
    rintro e w3 ⟨rfl, hg3⟩
    have G3 := Lib.hid (G2b.out.trans hg3)
    clear hg3
    go_wp2_with fail
    go_ret
    exact ⟨rfl, below_grownT G3.out⟩
  have hm10' : m0 ≤ 10 := by omega
  go_wp2_with fail
  clear hm10
  go_loopw [7, 8, 38] (fun s7 s8 s38 wr => ∃ (p pa : Ptr) (q pc j : Nat), s7 = .pointer p ∧ s8 = .slice pa q pc ∧ s38 = .int .i64 j ∧ j ≤ n ∧ Hid (∃ t m, m.length = q ∧ TrAt Any wr t p ∧ PsS Any wr pa m ∧ m.length ≤ pc ∧ Eq7 t m j ∧ (∀ x ∈ m, x.r.l.length ≠ 0) ∧ w.grownBy wr none)) (fun _ _ s38 _ => n - (intOf s38).toNat)
  case atStart => exact ⟨none, none, 0, 0, 0, rfl, rfl, rfl, by omega, Lib.hid ⟨.nil, [], rfl, rfl, ⟨by simp, by simp, .inl rfl⟩, Nat.le_refl _, Eq7.nil, by simp, G2b.out⟩⟩
  case round =>
    obtain ⟨p, pa, q, pc, j, rfl, rfl, rfl, hj, I⟩ := hrel
    by_cases hlt : j < n
    · obtain ⟨t, m, hq, ht, hp, hpc, he, hne, hg⟩ := I.out
      have hil : j < l.length := by rw [← Hn.out]; exact hlt
      obtain ⟨⟨b, off, ha, c0, c1, c2⟩, hkr, hrr⟩ := (H.out.keep (below_grownT hg)).at (i := j) hil
      obtain ⟨_, hk0, hr0⟩ := H.out.at (i := j) hil
      have hfa := HFit.out _ (show l.getD j default ∈ l by simp [List.getD, hil])
      generalize l.getD j default = z at *
      obtain ⟨d, ⟨xa, xc, xl⟩, ⟨ya, yc, yl⟩⟩ := z
      simp only [Rw.v] at c0 c1 c2 hkr hrr hk0 hr0
      obtain ⟨ky, hky⟩ : ∃ ky, ky = xl.length := ⟨_, rfl⟩
      obtain ⟨rz, hrz⟩ : ∃ rz, rz = yl.length := ⟨_, rfl⟩
      rw [← hky] at c1
      rw [← hrz] at c2
      have HJ := Lib.hid (And.intro hq (And.intro ht (And.intro hp (And.intro hpc (And.intro he (And.intro hne hg))))))
      have HR := Lib.hid (And.intro hk0 (And.intro hr0 (And.intro hfa (And.intro hky hrz))))
      have HR2 := Lib.hid (And.intro hkr hrr)
      have i1 : (j : Int) ≤ cap := by omega
      have i2 : (0 : Int) ≤ (j : Int) := Int.natCast_nonneg _
      have HAa := Lib.hid ha
      clear hq ht hp hpc he hne hg hil hkr hrr hk0 hr0 hfa hky hrz I
      subst ha
      go_upto_region 8 with fail
      have GX := Lib.hid (World.grownBy_alloc wr (cA d xa ky xc ya rz yc) none)
      obtain ⟨X, hX⟩ : ∃ X, X = wr.heap.size := ⟨_, rfl⟩
      have hx : (wr.alloc (cA d xa ky xc ya rz yc)).cell? ⟨X, 0, none⟩ = some (.bool d) ∧ (wr.alloc (cA d xa ky xc ya rz yc)).cell? ⟨X, 1, none⟩ = some (.slice xa ky xc) ∧ (wr.alloc (cA d xa ky xc ya rz yc)).cell? ⟨X, 2, none⟩ = some (.slice ya rz yc) := by
        rw [hX]
        exact ⟨cell_of_row _ _ 0 _ _ _ (heap_alloc_new wr _), cell_of_row _ _ 1 _ _ _ (heap_alloc_new wr _), cell_of_row _ _ 2 _ _ _ (heap_alloc_new wr _)⟩
      rw [← hX]
      have hXs : (wr.alloc (cA d xa ky xc ya rz yc)).heap.size = X + 1 := by rw [hX]; simp
      generalize wr.alloc (cA d xa ky xc ya rz yc) = W at *
      have HX := Lib.hid (And.intro hX hXs)
      have FX := Lib.hid (fun (W' : World) (hW : W.grownBy W' none) => show W'.cell? ⟨X, 0, none⟩ = some (.bool d) ∧ W'.cell? ⟨X, 1, none⟩ = some (.slice xa ky xc) ∧ W'.cell? ⟨X, 2, none⟩ = some (.slice ya rz yc) from ⟨hW.cell hx.1 (by simp), hW.cell hx.2.1 (by simp), hW.cell hx.2.2 (by simp)⟩)
      obtain ⟨x0, x1, x2⟩ := hx
      clear hX c0 c1 c2
      go_cut [11, 12] (fun s11 s12 wx => Hid (wx.ownsRow W.heap.size 36 3 s11 ky (xl.flatMap vCT) ∧ wx.ownsRow W.heap.size 36 3 s12 rz (yl.flatMap vCT) ∧ (∀ g, s11.ownBlock = some g → s12.ownBlock ≠ some g) ∧ W.grownBy wx none))
      case first =>
        have HL := Lib.hid (show xl.length ≤ 10 ∧ ky = xl.length ∧ yl.length ≤ 10 ∧ rz = yl.length from ⟨HR.out.2.2.1.1, HR.out.2.2.2.1, HR.out.2.2.1.2.1, HR.out.2.2.2.2⟩)
        have RK := Lib.hid (fun W' (hW : W.grownBy W' none) => (HR2.out.1.keep (below_grownT GX.out)).keep (below_grownT hW))
        have RR := Lib.hid (fun W' (hW : W.grownBy W' none) => (HR2.out.2.keep (below_grownT GX.out)).keep (below_grownT hW))
        go_region_held3 (fun W' => W'.cell? ⟨X, 1, none⟩ = some (.slice xa ky xc) ∧ W'.cell? ⟨X, 2, none⟩ = some (.slice ya rz yc)) (first | go_keep | exact (FX.out _ G4.out).2 | exact (FX.out _ G3.out).2 | exact (FX.out _ (G3.out.trans (World.grownBy_alloc _ _ none))).2) (first
          | ((with_reducible show @ite _ _ _ (Oper.wp _ _ _ ((W.alloc (.cells #[] 36)).drew) _ _) _)
             refine step_append_row ((W.alloc (.cells #[] 36)).drew) (by rfl) (.tmp 43) (.tmp 45) (by rfl) (B := W.heap.size) (g := W.heap.size) (l := xl) (heap_alloc_new W (.cells #[] 36)) (by omega) (RK.out _ (grown_drewT (World.grownBy_alloc W (.cells #[] 36) none))) HL.out.1 HL.out.2.1 (by first | rfl | (rw [HX.out.2]; rfl)) (by rfl) ?_
             intro v1 w3 o1 gr1 at1
             have G3 := Lib.hid (grown_thenT (grown_drewT (World.grownBy_alloc W (.cells #[] 36) none)) gr1 (fun j e => by cases e; omega))
             obtain ⟨_, y31, y32⟩ := FX.out _ G3.out
             have E1 := Lib.hid (And.intro o1 (And.intro gr1 at1))
             clear o1 gr1 at1)
          | ((with_reducible show @ite _ _ _ (Oper.wp _ _ _ (((W.alloc (.cells #[] 36)).alloc (.cells #[] 36)).drew) _ _) _)
             refine step_append_row (((W.alloc (.cells #[] 36)).alloc (.cells #[] 36)).drew) (by rfl) (.tmp 43) (.tmp 45) (by rfl) (B := W.heap.size) (g := W.heap.size) (l := xl) (two_e W (.cells #[] 36) (.cells #[] 36)).1 (by omega) (RK.out _ (grown_drewT ((World.grownBy_alloc W (.cells #[] 36) none).trans (World.grownBy_alloc _ (.cells #[] 36) none)))) HL.out.1 HL.out.2.1 (by first | rfl | (rw [HX.out.2]; rfl)) (by rfl) ?_
             intro v1 w3 o1 gr1 at1
             have G3 := Lib.hid (grown_thenT (grown_drewT ((World.grownBy_alloc W (.cells #[] 36) none).trans (World.grownBy_alloc _ (.cells #[] 36) none))) gr1 (fun j e => by cases e; omega))
             obtain ⟨_, y31, y32⟩ := FX.out _ G3.out
             have E1 := Lib.hid (And.intro o1 (And.intro gr1 at1))
             clear o1 gr1 at1)
          | ((with_reducible show @ite _ _ _ (Oper.wp _ _ _ (((W.alloc (.cells #[] 36)).alloc (.cells #[] 36)).drew) _ _) _)
             refine step_append_row (((W.alloc (.cells #[] 36)).alloc (.cells #[] 36)).drew) (by rfl) (.tmp 43) (.tmp 45) (by rfl) (B := W.heap.size) (g := W.heap.size + 1) (l := xl) (two_e W (.cells #[] 36) (.cells #[] 36)).2 (by omega) (RK.out _ (grown_drewT ((World.grownBy_alloc W (.cells #[] 36) none).trans (World.grownBy_alloc _ (.cells #[] 36) none)))) HL.out.1 HL.out.2.1 (by first | rfl | (rw [HX.out.2]; rfl)) (by rfl) ?_
             intro v1 w3 o1 gr1 at1
             have G3 := Lib.hid (grown_thenT (grown_drewT ((World.grownBy_alloc W (.cells #[] 36) none).trans (World.grownBy_alloc _ (.cells #[] 36) none))) gr1 (fun j e => by cases e; omega))
             obtain ⟨_, y31, y32⟩ := FX.out _ G3.out
             have E1 := Lib.hid (And.intro o1 (And.intro gr1 at1))
             clear o1 gr1 at1)
          | ((with_reducible show @ite _ _ _ (Oper.wp _ _ _ (w3.alloc (.cells #[] 36)) _ _) _)
             refine step_append_row (w3.alloc (.cells #[] 36)) (by rfl) (.tmp 47) (.tmp 49) (by rfl) (B := W.heap.size) (g := w3.heap.size) (l := yl) (heap_alloc_new w3 (.cells #[] 36)) (by have := G3.out.size; omega) (RR.out _ (G3.out.trans (World.grownBy_alloc w3 (.cells #[] 36) none))) HL.out.2.2.1 HL.out.2.2.2 (by first | rfl | (rw [HX.out.2]; rfl)) (by rfl) ?_
             intro v2 w4 o2 gr2 at2
             have EE := Lib.hid (copies_end (grown_drewT (World.grownBy_alloc W (.cells #[] 36) none)) (g1 := W.heap.size) (by omega) (by simp <;> omega) E1.out.1 E1.out.2.1 E1.out.2.2 (World.grownBy_alloc w3 (.cells #[] 36) none) (g2 := w3.heap.size) (by have := G3.out.size; omega) (by have := E1.out.2.1.size; simp at this; omega) (.inr (Nat.le_refl _)) o2 gr2 at2)
             have G4 := Lib.hid EE.out.2.2.2
             clear o2 gr2 at2)
          | ((with_reducible show @ite _ _ _ (Oper.wp _ _ _ (w3) _ _) _)
             refine step_append_row (w3) (by rfl) (.tmp 47) (.tmp 49) (by rfl) (B := W.heap.size) (g := W.heap.size + 1) (l := yl) (heap_e (w := ((W.alloc (.cells #[] 36)).alloc (.cells #[] 36)).drew) (two_e W (.cells #[] 36) (.cells #[] 36)).2 E1.out.2.1 (by omega)) (by have := G3.out.size; omega) (RR.out _ (G3.out.trans (grown_reflT w3 none))) HL.out.2.2.1 HL.out.2.2.2 (by first | rfl | (rw [HX.out.2]; rfl)) (by rfl) ?_
             intro v2 w4 o2 gr2 at2
             have EE := Lib.hid (copies_end (grown_drewT ((World.grownBy_alloc W (.cells #[] 36) none).trans (World.grownBy_alloc _ (.cells #[] 36) none))) (g1 := W.heap.size) (by omega) (by simp <;> omega) E1.out.1 E1.out.2.1 E1.out.2.2 (grown_reflT w3 none) (g2 := W.heap.size + 1) (by have := G3.out.size; omega) (by have := E1.out.2.1.size; simp at this; omega) (.inl (by simp <;> omega)) o2 gr2 at2)
             have G4 := Lib.hid EE.out.2.2.2
             clear o2 gr2 at2)
          | ((with_reducible show @ite _ _ _ (Oper.wp _ _ _ (w3) _ _) _)
             refine step_append_row (w3) (by rfl) (.tmp 47) (.tmp 49) (by rfl) (B := W.heap.size) (g := W.heap.size) (l := yl) (heap_e (w := ((W.alloc (.cells #[] 36)).alloc (.cells #[] 36)).drew) (two_e W (.cells #[] 36) (.cells #[] 36)).1 E1.out.2.1 (by omega)) (by have := G3.out.size; omega) (RR.out _ (G3.out.trans (grown_reflT w3 none))) HL.out.2.2.1 HL.out.2.2.2 (by first | rfl | (rw [HX.out.2]; rfl)) (by rfl) ?_
             intro v2 w4 o2 gr2 at2
             have EE := Lib.hid (copies_end (grown_drewT ((World.grownBy_alloc W (.cells #[] 36) none).trans (World.grownBy_alloc _ (.cells #[] 36) none))) (g1 := W.heap.size + 1) (by omega) (by simp <;> omega) E1.out.1 E1.out.2.1 E1.out.2.2 (grown_reflT w3 none) (g2 := W.heap.size) (by have := G3.out.size; omega) (by have := E1.out.2.1.size; simp at this; omega) (.inl (by simp <;> omega)) o2 gr2 at2)
             have G4 := Lib.hid EE.out.2.2.2
             clear o2 gr2 at2))
        all_goals
          go_wp2_with fail
          go_meet
          exact Lib.hid (by rw [HL.out.2.1, HL.out.2.2.2]; exact EE.out)
      case rest =>
        obtain ⟨o1, o2, hdis, hgx⟩ := hcut.out
        obtain ⟨a1, k1, rfl, hk1⟩ := own_shape o1
        obtain ⟨a2, k2, rfl, hk2⟩ := own_shape o2
        have GX2 := Lib.hid hgx
        obtain ⟨hq, ht, hp, hpc, he, hne, hg⟩ := HJ.out
        obtain ⟨hk0, hr0, hfa, hky, hrz⟩ := HR.out
        obtain ⟨hf1, hf2, hf3, _, hf5⟩ := hfa
        simp only at hf1 hf2 hf3 hf5
        obtain ⟨S, hS⟩ : ∃ S : Nat → Prop, S = fun b => b < W.heap.size ∨ wc.heap.size ≤ b := ⟨_, rfl⟩
        have hSn : ∀ b, wc.heap.size ≤ b → S b := by rw [hS]; exact fun b hb => .inr hb
        have hSo : ∀ b, b < W.heap.size → S b := by rw [hS]; exact fun b hb => .inl hb
        have gW : w.grownBy W none := hg.trans GX.out
        have ht' : TrAt S wc t p := (((ht.keep (.of GX.out)).mono (S' := fun b => b < W.heap.size) (fun b hb _ => hb)).keep (.of GX2.out)).mono (fun b _ hb => hSo b hb)
        have hp' : PsS S wc pa m := (((hp.keep (.of GX.out)).mono (S' := fun b => b < W.heap.size) (fun b hb _ => hb)).keep (.of GX2.out)).mono (fun b _ hb => hSo b hb)
        have q1 : RwS Any wc a1 xl := by
          obtain ⟨a', c', e, h⟩ := own_rw (S := Any) (l := xl) (hky ▸ o1) (fun _ _ => trivial) (by omega) hk0.2.1
          cases e
          exact h
        have q2 : RwS Any wc a2 yl := by
          obtain ⟨a', c', e, h⟩ := own_rw (S := Any) (l := yl) (hrz ▸ o2) (fun _ _ => trivial) (by omega) hr0.2.1
          cases e
          exact h
        have hky10 : ky ≤ 10 := by omega
        have hrz10 : rz ≤ 10 := by omega
        have hfew := he.few
        have hnn := he.n
        have he2 := he.act d (K := ⟨xa, xc, xl⟩) ⟨ya, yc, yl⟩ hf3
        obtain ⟨t1, ht1⟩ : ∃ t1, t1 = doT d ⟨xa, xc, xl⟩ ⟨ya, yc, yl⟩ t := ⟨_, rfl⟩
        obtain ⟨m1, hm1⟩ : ∃ m1, m1 = doP d ⟨xa, xc, xl⟩ ⟨ya, yc, yl⟩ m := ⟨_, rfl⟩
        obtain ⟨q', hq'⟩ : ∃ q', q' = m1.length := ⟨_, rfl⟩
        have hne2 : ∀ x ∈ m1, x.r.l.length ≠ 0 := by
          intro x hx
          rw [hm1] at hx
          rcases doP_mem hx with ⟨e, hd⟩ | hx
          · rw [e]; exact hf5 hd
          · exact hne x hx
        rw [← ht1, ← hm1] at he2
        have HD1 := Lib.hid (show ∀ W', wc.grownBy W' none → Calls Try.prog 12 #[.pointer p, .slice none 0 0, .agg #[.bool d, .slice a1 ky k1, .slice a2 rz k2]] W' (fun e w' => (∃ q v v1 v2, e = .returned (.tuple #[.pointer q, .slice v v1 v2]) ∧ TrAt S w' t1 q) ∧ W'.grownBy w' none) from fun W' hW => by
          have h := Do_any S Any t p none a1 a2 0 k1 k2 d [] xl yl W' (fun b hb => hSn b (Nat.le_trans hW.size hb)) (fun b _ => trivial) (ht'.keep (.of hW)) ⟨by simp, by simp, .inl rfl⟩ (Nat.le_refl _) (q1.keep (.of hW)) (q2.keep (.of hW)) hf3 (by simp) he.sort (by omega) (by simp)
          rw [← hky, ← hrz] at h
          refine h.mono ?_
          rintro e w' ⟨⟨q, a', c', rfl, h1, h2, h3⟩, hg'⟩
          exact ⟨⟨q, a', _, c', rfl, by rw [ht1]; exact h2⟩, hg'⟩)
        have HD2 := Lib.hid (show ∀ W', wc.grownBy W' none → Calls Try.prog 12 #[.pointer none, .slice pa q pc, .agg #[.bool d, .slice xa ky xc, .slice ya rz yc]] W' (fun e w' => (∃ v a' c', e = .returned (.tuple #[.pointer v, .slice a' q' c']) ∧ q' ≤ c' ∧ PsS S w' a' m1) ∧ W'.grownBy w' none) from fun W' hW => by
          have h := Do_any Any S .nil none pa xa ya pc xc yc d m xl yl W' (fun b _ => trivial) (fun b hb => hSn b (Nat.le_trans hW.size hb)) rfl (hp'.keep (.of hW)) hpc (act_rows hk0 hf1 (gW.trans (GX2.out.trans hW)) (fun b hb => hSo b (Nat.lt_of_lt_of_le hb gW.size))) (act_rows hr0 hf2 (gW.trans (GX2.out.trans hW)) (fun b hb => hSo b (Nat.lt_of_lt_of_le hb gW.size))) hf3 he.good Eq7.nil.sort (by simp [Tr.n]) (by omega)
          rw [← hky, ← hrz, hq, ← hm1, ← hq'] at h
          refine h.mono ?_
          rintro e w' ⟨⟨v, a', c', rfl, h1, h2, h3⟩, hg'⟩
          exact ⟨⟨v, a', c', rfl, by rw [hq', hm1]; exact h1, by rw [hm1]; exact h3⟩, hg'⟩)
        have HO := Lib.hid (And.intro o1 (And.intro o2 hdis))
        have HE := Lib.hid (And.intro he2 (And.intro hne2 (And.intro hq' (And.intro hg hS))))
        obtain ⟨x0, x1, x2⟩ := FX.out _ GX2.out
        clear hcut o1 o2 hdis hgx hq ht hp hpc he hne hg hk0 hr0 hky hrz hf1 hf2 hf3 hf5 hSn hSo gW ht' hp' q1 q2 hfew hnn he2 ht1 hm1 hq' hne2 hS HJ
        go_wp2_with fail
        refine (HD1.out _ (grown_reflT _ none)).mono ?_
        rintro e w3 ⟨⟨p1, v, v1, v2, rfl, ht3⟩, hg3⟩
        have T3 := Lib.hid ht3
        have G3 := Lib.hid hg3
        obtain ⟨y0, y1, y2⟩ := FX.out _ (GX2.out.trans G3.out)
        clear ht3 hg3 x0 x1 x2
        go_wp2_with fail
        refine (HD2.out _ G3.out).mono ?_
        rintro e w4 ⟨⟨v3, pa1, pc1, rfl, hc4, hp4⟩, hg4⟩
        have T4 := Lib.hid (And.intro (T3.out.keep (.of hg4)) hp4)
        have G4 := Lib.hid (G3.out.trans hg4)
        clear hp4 hg4 y0 y1 y2
        go_wp2_with fail
        have W1 := Lib.hid (Wreck.start (World.ownsRow.kept HO.out.1 G4.out (by cases (Value.slice a1 ky k1).ownBlock <;> simp)))
        have K1 : (0 : Int) ≤ ky := Int.natCast_nonneg _
        go_loopw [13, 69] (fun s13 s69 wv => ∃ i : Nat, s69 = .int .i64 i ∧ i ≤ ky ∧ Hid (Wreck a1 ky w4 wv)) (fun _ s69 _ => ky - (intOf s69).toNat)
        case atStart => exact ⟨0, rfl, by omega, W1⟩
        case round =>
          obtain ⟨i, rfl, hi, I⟩ := hrel
          by_cases hlt2 : i < ky
          · obtain ⟨g, rfl, hth⟩ := I.out.at hlt2
            have k3 : (i : Int) < ky := by omega
            have k2 : (0 : Int) ≤ (i : Int) := Int.natCast_nonneg _
            go_wp2_with (refine wpList_store_mid rfl 36 (.tmp 75) (.tmp 74) rfl g (i * 3) nine (by rfl) (by rfl) hth val_size3 nine_one ?_)
            go_roundw
            case rel => exact ⟨i + 1, by go_num, by omega, Lib.hid (I.out.step _ _)⟩
            case measure => simp [intOf]; omega
          · obtain rfl : ky = i := by omega
            generalize hwr : wr = wv at *
            clear hwr
            have W2 := Lib.hid (Wreck.start (wreck_keep HO.out.2.1 HO.out.2.2 G4.out I.out.1))
            have K2 : (0 : Int) ≤ rz := Int.natCast_nonneg _
            go_wp2_with fail
            go_loopw [14, 79] (fun s14 s79 wu => ∃ i : Nat, s79 = .int .i64 i ∧ i ≤ rz ∧ Hid (Wreck a2 rz wv wu)) (fun _ s79 _ => rz - (intOf s79).toNat)
            case atStart => exact ⟨0, rfl, by omega, W2⟩
            case round =>
              obtain ⟨i, rfl, hi2, I2⟩ := hrel
              by_cases hlt3 : i < rz
              · obtain ⟨g, rfl, hth⟩ := I2.out.at hlt3
                have k3 : (i : Int) < rz := by omega
                have k2 : (0 : Int) ≤ (i : Int) := Int.natCast_nonneg _
                go_wp2_with (refine wpList_store_mid rfl 36 (.tmp 85) (.tmp 84) rfl g (i * 3) nine (by rfl) (by rfl) hth val_size3 nine_one ?_)
                go_roundw
                case rel => exact ⟨i + 1, by go_num, by omega, Lib.hid (I2.out.step _ _)⟩
                case measure => simp [intOf]; omega
              · obtain rfl : rz = i := by omega
                have WE := Lib.hid (wreck_end GX2.out HO.out.1 HO.out.2.1 G4.out I.out.1 I2.out.1)
                generalize hwr : wr = w6 at *
                clear hwr
                have HA6 := Lib.hid (show TrAt Any w6 t1 p1 ∧ PsS Any w6 pa1 m1 ∧ W.grownBy w6 none from by
                  have hst : Stays S w4 w6 := by rw [HE.out.2.2.2.2]; exact WE.out.2
                  exact ⟨(T4.out.1.keep hst).mono (fun _ _ _ => trivial), (T4.out.2.keep hst).mono (fun _ _ _ => trivial), WE.out.1⟩)
                have gw6 : w.grownBy w6 none := HE.out.2.2.2.1.trans (GX.out.trans HA6.out.2.2)
                have HT1 := Lib.hid (show ∀ W', w6.grownBy W' none → Calls Try.prog 13 #[.pointer p1, .slice pa1 q' pc1, .slice ka m0 kc] W' (fun e w' => e = .returned (.bool true) ∧ W'.grownBy w' none) from fun W' hW => by
                  have h := Tells_any t1 p1 pa1 ka pc1 kc m1 key W' (HA6.out.1.keep (.of hW)) (HA6.out.2.1.keep (.of hW)) (by rw [← HE.out.2.2.1]; exact hc4) (HE.out.1.mono (by omega)) (HK.out.keep (below_grownT (gw6.trans hW))) (by rw [← Hm0.out]; omega)
                  rw [← Hm0.out, ← HE.out.2.2.1] at h
                  exact h)
                have HT2 := Lib.hid (show ∀ W', w6.grownBy W' none → Calls Try.prog 13 #[.pointer p1, .slice pa1 q' pc1, .slice xa ky xc] W' (fun e w' => e = .returned (.bool true) ∧ W'.grownBy w' none) from fun W' hW => by
                  have h := Tells_any t1 p1 pa1 xa pc1 xc m1 xl W' (HA6.out.1.keep (.of hW)) (HA6.out.2.1.keep (.of hW)) (by rw [← HE.out.2.2.1]; exact hc4) (HE.out.1.mono (by omega)) (HR.out.1.keep (below_grownT (gw6.trans hW))) (by have := HR.out.2.2.2.1; omega)
                  rw [← HR.out.2.2.2.1, ← HE.out.2.2.1] at h
                  exact h)
                have F6 := Lib.hid (fun W' (hW : w6.grownBy W' none) => FX.out W' (HA6.out.2.2.trans hW))
                have HRel := Lib.hid (fun W' (hW : w6.grownBy W' none) => show ∃ t m, m.length = q' ∧ TrAt Any W' t p1 ∧ PsS Any W' pa1 m ∧ m.length ≤ pc1 ∧ Eq7 t m (j + 1) ∧ (∀ x ∈ m, x.r.l.length ≠ 0) ∧ w.grownBy W' none from ⟨t1, m1, HE.out.2.2.1.symm, HA6.out.1.keep (.of hW), HA6.out.2.1.keep (.of hW), by rw [← HE.out.2.2.1]; exact hc4, HE.out.1, HE.out.2.1, gw6.trans hW⟩)
                clear gw6 WE W1 W2 I I2 T3 T4 G3 G4 HO HD1 HD2 HE HA6 HR HR2 GX GX2 FX HX
                go_upto_region 21 with fail
                go_cut [96] (fun s96 wx => ∃ b : Bool, s96 = .bool b ∧ Hid (w6.grownBy wx none))
                case first =>
                  go_wp2_with fail
                  all_goals
                    go_meet
                    exact ⟨_, rfl, Lib.hid (grown_reflT _ _)⟩
                case rest =>
                  obtain ⟨b96, rfl, G6⟩ := hcut
                  obtain ⟨y0, y1, y2⟩ := F6.out _ G6.out
                  cases b96
                  · go_wp2_with fail
                    go_roundw
                    case rel => exact ⟨p1, pa1, q', pc1, j + 1, rfl, rfl, by go_num, by omega, Lib.hid (HRel.out _ G6.out)⟩
                    case measure => simp [intOf]; omega
                  · go_wp2_with fail
                    refine (HT1.out _ G6.out).mono ?_
                    rintro e w7 ⟨rfl, hg7⟩
                    have G7 := Lib.hid (G6.out.trans hg7)
                    obtain ⟨z0, z1, z2⟩ := F6.out _ G7.out
                    clear hg7 y0 y1 y2
                    go_wp2_with fail
                    refine (HT2.out _ G7.out).mono ?_
                    rintro e w8 ⟨rfl, hg8⟩
                    have G8 := Lib.hid (G7.out.trans hg8)
                    clear hg8 z0 z1 z2
                    go_wp2_with fail
                    go_roundw
                    case rel => exact ⟨p1, pa1, q', pc1, j + 1, rfl, rfl, by go_num, by omega, Lib.hid (HRel.out _ G8.out)⟩
                    case measure => simp [intOf]; omega
    · obtain rfl : n = j := by omega
      obtain ⟨t, m, hq, ht, hp, hpc, he, hne, hg⟩ := I.out
      have hfew := he.few
      have hnn := he.n
      have hq200 : q ≤ 200 := by omega
      have HF1 := Lib.hid (show Calls Try.prog 14 #[.pointer p, .slice ka m0 kc, .int .i64 N] wr (fun e w' => (∃ (a2 : Ptr) (nd c2 : Nat), e = .returned (.slice a2 nd c2) ∧ nd ≤ 200 ∧ Hid (∃ done : List Rw, done.length = nd ∧ nd ≤ c2 ∧ RsAt w' a2 done ∧ (∀ x ∈ done, RwF (fun b => wr.heap.size ≤ b ∧ blk a2 ≠ some b) w' x ∧ x.l.length ≠ 0) ∧ done.map Rw.l = ((fromP key m).take N.toNat).map Rw.l)) ∧ wr.grownBy w' none) from by
        have h := from2_any ro_ord Any t p ka kc key N wr ht he.sort (by omega) (HK.out.keep (below_grownT hg)) (by rw [← Hm0.out]; omega)
        rw [← Hm0.out] at h
        refine h.mono ?_
        rintro e w' ⟨⟨vo, done, rfl, h1, h2, h3⟩, hg'⟩
        have hdl : done.length ≤ 200 := by
          have h4 := congrArg List.length h3
          rw [List.length_map, List.length_take, List.length_map] at h4
          have h5 : (fromL key t.toL).length ≤ t.toL.length := List.length_filter_le _ _
          have h6 : t.toL.length = m.length := by rw [he.same, List.length_map]
          omega
        obtain ⟨a2, c2, rfl, hc2, hrs⟩ := own_rs h1 (by omega) (fun x hx => (h2 x hx).1)
        refine ⟨⟨a2, done.length, c2, rfl, hdl, Lib.hid ⟨done, rfl, hc2, hrs, fun x hx => ⟨by have := h2 x hx; rwa [own_blk] at this, done_ne he.same hne h3 x hx⟩, ?_⟩⟩, hg'⟩
        rw [h3, he.same, ← fromP_rows, List.map_take])
      have HF2 := Lib.hid (show ∀ W', wr.grownBy W' none → Calls Try.prog 16 #[.slice pa q pc, .slice ka m0 kc, .int .i64 N] W' (fun e w' => (∃ (a3 : Ptr) (n3 c3 : Nat), e = .returned (.slice a3 n3 c3) ∧ Hid (((fromP key m).take N.toNat).length = n3 ∧ n3 ≤ c3 ∧ RsAt w' a3 ((fromP key m).take N.toNat))) ∧ W'.grownBy w' none) from fun W' hW => by
        have h := refFrom_any Any pa ka pc kc m key N W' (hp.keep (.of hW)) hpc (HK.out.keep (below_grownT (hg.trans hW))) Hgk.out.symm he.good
        rw [← Hm0.out, hq] at h
        refine h.mono ?_
        rintro e w' ⟨⟨vo, rfl, h1⟩, hg'⟩
        obtain ⟨a3, c3, rfl, hc3, hrs⟩ := own_rs (S := Any) h1 (by have := List.length_take_le N.toNat (fromP key m); have h2 := fromP_len key m; simp only [List.length_take] at *; omega) (fun x hx => by
          obtain ⟨y, hy, rfl⟩ := fromP_mem (List.mem_of_mem_take hx)
          exact (hp.2.1 y hy).2.keep (.of (hW.trans hg')))
        exact ⟨⟨a3, _, c3, rfl, Lib.hid ⟨rfl, hc3, hrs⟩⟩, hg'⟩)
      have HT := Lib.hid (show ∀ W', wr.grownBy W' none → Calls Try.prog 13 #[.pointer p, .slice pa q pc, .slice ka m0 kc] W' (fun e w' => e = .returned (.bool true) ∧ W'.grownBy w' none) from fun W' hW => by
        have h := Tells_any t p pa ka pc kc m key W' (ht.keep (.of hW)) (hp.keep (.of hW)) hpc (he.mono (by omega)) (HK.out.keep (below_grownT (hg.trans hW))) (by rw [← Hm0.out]; omega)
        rw [← Hm0.out, hq] at h
        exact h)
      have HG := Lib.hid hg
      clear I hq ht hp hpc he hne hg hfew hnn
      go_wp2_with fail
      refine HF1.out.mono ?_
      rintro e w1 ⟨⟨a2, nd, c2, rfl, hnd, D1⟩, hg1⟩
      have G1 := Lib.hid hg1
      clear hg1 HF1
      go_wp2_with fail
      refine (HF2.out _ G1.out).mono ?_
      rintro e w2 ⟨⟨a3, n3, c3, rfl, D2⟩, hg2⟩
      have HS := Lib.hid (show Calls Try.prog 15 #[.slice a2 nd c2, .slice a3 n3 c3] w2 (fun e w' => e = .returned (.bool true) ∧ w2.grownBy w' none) from by
        obtain ⟨done, hdl, hc2, hrs, _, hsame⟩ := D1.out
        obtain ⟨hl3, hc3, hrs3⟩ := D2.out
        have h := sameRows_any a2 a3 c2 c3 done ((fromP key m).take N.toNat) w2 (hrs.keep hg2) hrs3 (by omega) (by omega) hsame
        rw [hdl, hl3] at h
        exact h)
      have G2 := Lib.hid hg2
      clear hg2 HF2
      go_wp2_with fail
      refine HS.out.mono ?_
      rintro e w3 ⟨rfl, hg3⟩
      have G3 := Lib.hid (G2.out.trans hg3)
      clear hg3 HS
      go_wp2_with fail
      generalize hwr : wr = w0 at *
      clear hwr
      go_loopw [17, 124] (fun s17 s124 wv => ∃ i : Nat, s124 = .int .i64 i ∧ i ≤ nd ∧ Hid (Marred w0.heap.size (blk a2) w3 wv)) (fun _ s124 _ => nd - (intOf s124).toNat)
      case atStart => exact ⟨0, rfl, by omega, Lib.hid (Marred.refl _ _ _)⟩
      case round =>
        obtain ⟨i, rfl, hi, I⟩ := hrel
        by_cases hlt : i < nd
        · obtain ⟨done, hdl, hc2, hrs, hrw, _⟩ := D1.out
          have hid : i < done.length := by omega
          obtain ⟨⟨b, off, rfl, c0⟩, _⟩ := hrs.at hid
          obtain ⟨h1, h2⟩ := hrw (done.getD i default) (by simp [List.getD, hid])
          obtain ⟨b', off', ea, ⟨hb1, hb2⟩, hth⟩ := rw_there (h1.keep (.of G3.out)) h2
          have d0 := I.out.cell (G3.out.cell c0 (by simp))
          generalize done.getD i default = z at *
          obtain ⟨za, zc, zl⟩ := z
          obtain rfl : za = some ⟨b', off', none⟩ := ea
          obtain ⟨zn, hzn⟩ : ∃ zn, zn = zl.length := ⟨_, rfl⟩
          simp only [Rw.v] at d0 h2
          rw [← hzn] at d0 h2
          have ht3 := I.out.still _ _ _ hth
          have MM := Lib.hid (I.out.step hb1 hb2 off' nine.toList)
          have k3 : (i : Int) < nd := by omega
          have k2 : (0 : Int) ≤ (i : Int) := Int.natCast_nonneg _
          have k4 : (i : Int) ≤ c2 := by omega
          have k5 : (0 : Int) < zn := by omega
          clear c0 h1 hzn hth hb1 hb2 hrs hrw hid hdl
          go_wp2_with (refine wpList_store_mid rfl 36 (.tmp 130) (.tmp 129) rfl b' off' nine (by rfl) (by rfl) ht3 val_size3 nine_one ?_)
          go_roundw
          case rel => exact ⟨i + 1, by go_num, by omega, MM⟩
          case measure => simp [intOf]; omega
        · have GE := Lib.hid (I.out.grown (G1.out.trans G3.out))
          go_wp2_with fail
          refine (HT.out _ GE.out).mono ?_
          rintro e w9 ⟨rfl, hg9⟩
          have G9 := Lib.hid (HG.out.trans (GE.out.trans hg9))
          clear hg9
          go_wp2_with fail
          go_ret
          exact ⟨rfl, below_grownT G9.out⟩
end Go.Proofs.Ytlmoefiajioeoaa
