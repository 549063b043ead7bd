/- The journal's drop and Append. tree's Diff at trees of the same pairs. A tree and the document's list of pairs beside each other: what is done to one is done to the other. -/
import Derived.Test.YtnfpomjcofhppaaGreatDoorZb19
import Derived.Test.YtnfpomjcofhppaaGreatDoorZb17
import Derived.Test.YtnfpomjcofhppaaGreatDoorZb18
namespace Go.Proofs.YtnfpomjcofhppaaGreatDoor
open Go.RowKit

theorem cm_drop {l : List Cm} {k : Nat} (h : k < l.length) : l.drop k = l.getD k default :: l.drop (k + 1) := by
  rw [List.drop_eq_getElem_cons h]; simp [List.getD, h]
theorem JS.dropped {R : Nat → Prop} {w : World} {J g off cap m : Nat} {room en : Int} {cs : List Cm} {x : Cm} (h : JS R w J room en (some ⟨g, off, none⟩) (cap + 1) (x :: cs)) (hm : cs.length = m) (a' : Ptr) (ha : a' = if cap = 0 then some ⟨g, off, none⟩ else some ⟨g, off + 2, none⟩) (u v : Value) :
    JS R (((w.setCell ⟨g, off, none⟩ u).setCell ⟨g, off + 1, none⟩ v).setCell ⟨J, 2, none⟩ (.slice a' m cap)) J room en a' cap cs ∧ (∀ k, bk a' k ↔ bk (some ⟨g, off, none⟩ : Ptr) k) := by
  have hgJ : g ≠ J := fun e => h.neJ (by rw [bk_some]; exact e)
  have hbk : ∀ k, bk a' k ↔ bk (some ⟨g, off, none⟩ : Ptr) k := fun k => by rw [ha]; split <;> simp [bk]
  have hJM : ∀ b, JM R J a' b ↔ JM R J (some ⟨g, off, none⟩) b := fun b => by unfold JM; rw [hbk]
  have ho : Only (fun k => k = g ∨ k = J) w (((w.setCell ⟨g, off, none⟩ u).setCell ⟨g, off + 1, none⟩ v).setCell ⟨J, 2, none⟩ (.slice a' m cap)) := (((Only.refl _ w).set (.inl (.inl rfl)) _ _).set (.inl (.inl rfl)) _ _).set (.inl (.inr rfl)) _ _
  have hj := h.jn
  have hwin := h.win
  simp only [List.length_cons, List.flatMap_cons] at hj hwin
  rw [hm] at hj hwin
  refine ⟨⟨?_, ?_, fun y hy => ?_, fun e => h.neJ ((hbk J).1 e), h.rJ, fun k hk => h.ra k ((hbk k).1 hk), fun k hk => Nat.lt_of_lt_of_le (h.rl k hk) ho.size, fun i hi => ?_⟩, hbk⟩
  · rw [hm]
    refine Jn.setKept (n := m + 1) (cap := cap + 1) (a := some ⟨g, off, none⟩) ?_
    show (World.setCell _ _ _).heap[J]? = _
    rw [Below.heap_setCell _ _ _ _ (fun e => hgJ e.symm), Below.heap_setCell _ _ _ _ (fun e => hgJ e.symm)]
    exact hj
  · rw [hm]
    have h1 := Win.tail hwin (by rfl) a' (fun hc => by rw [ha, if_neg (by omega)]) (fun k hk => by have := (hbk k).1 hk; rw [bk_some] at this; exact this.symm)
    refine ((h1.far g off u (fun hc o e => ?_)).far g (off + 1) v (fun hc o e => ?_)).far J 2 _ (fun hc o e => ?_)
    · rw [ha, if_neg (by omega)] at e; cases e; omega
    · rw [ha, if_neg (by omega)] at e; cases e; omega
    · rw [ha, if_neg (by omega)] at e; cases e; exact absurd rfl hgJ
  · have h1 := h.at_ y (List.mem_cons_of_mem _ hy)
    have h2 := h1.keep (ho.stays (fun b hb _ e => hb (by
      rcases e with e | e
      · exact .inr (.inl (by rw [bk_some]; exact e.symm))
      · exact .inl e)))
    exact h2.mono (fun b _ hb e => hb ((hJM b).1 e))
  · have := h.vers (i + 1) (by simp; omega)
    simp only [List.length_cons, List.getD_cons_succ] at this
    rw [this]
    push_cast
    omega
set_option maxHeartbeats 3200000 in
theorem dropJ_any (R : Nat → Prop) (J : Nat) (w : World) (room en : Int) (a : Ptr) (cap : Nat) (cs : List Cm) (d : Int) (h : JS R w J room en a cap cs) (hd : d ≤ cs.length) (hn : cs.length ≤ 1000000) :
    Calls Tryz.prog 47 #[.pointer (some ⟨J, 0, none⟩), .int .i64 d] w fun e w' => e = .returned (.tuple #[]) ∧ (∃ a' cap', JS R w' J room en a' cap' (cs.drop d.toNat) ∧ (∀ k, bk a' k → bk a k)) ∧ Only (fun k => k = J ∨ bk a k) w w' := by
  have H := Lib.hid h
  clear h
  go_enter Tryz.func47, Tryz.ntmps47
  go_wp2_with fail
  go_loopw [5] (fun i wr => ∃ k : Nat, i = .int .i64 k ∧ k ≤ d.toNat ∧ Hid (∃ a1 cap1, JS R wr J room en a1 cap1 (cs.drop k) ∧ (∀ b, bk a1 b → bk a b) ∧ Only (fun b => b = J ∨ bk a b) w wr)) (fun i _ => d.toNat - (intOf i).toNat)
  case atStart => exact ⟨0, rfl, by omega, Lib.hid ⟨a, cap, H.out, fun _ h => h, Only.refl _ _⟩⟩
  case round =>
    obtain ⟨k, rfl, hk, I⟩ := hrel
    by_cases hlt : (k : Int) < d
    · obtain ⟨a1, cap1, hj, hbk, ho⟩ := I.out
      have hkl : k < cs.length := by omega
      rw [cm_drop hkl] at hj
      obtain ⟨m, hm⟩ : ∃ m, m = (cs.drop (k + 1)).length := ⟨_, rfl⟩
      have hml : m ≤ 1000000 := by rw [hm, List.length_drop]; omega
      have hjn := hj.jn
      have hw := hj.win
      simp only [List.length_cons] at hjn hw
      rw [← hm] at hjn hw
      obtain ⟨cap', rfl⟩ : ∃ c, cap1 = c + 1 := ⟨cap1 - 1, by have := hw.le; omega⟩
      obtain ⟨g, off, rfl, hcell, hroom, hfz⟩ : ∃ g off, a1 = some ⟨g, off, none⟩ ∧ (∀ j u, ((cs.getD k default :: cs.drop (k + 1)).flatMap Cm.c)[j]? = some u → wr.cell? ⟨g, off + j, none⟩ = some u) ∧ (∀ j, j < (cap' + 1) * 2 → (wr.cell? ⟨g, off + j, none⟩).isSome = true) ∧ ∀ o, wr.frozen? ⟨g, o, none⟩ = false := hw.mem.resolve_left (by omega)
      obtain ⟨c0, c1, c2, f0, f1, f2⟩ := hjn.cells
      have d0 := hcell 0 _ rfl
      have d1 := hcell 1 _ rfl
      simp only [Nat.add_zero] at d0
      have z0 := hfz off
      have z1 := hfz (off + 1)
      have hgJ : g ≠ J := fun e => hj.neJ (by rw [bk_some]; exact e)
      have D := Lib.hid (And.intro hj (And.intro hbk (And.intro ho hm)))
      have i1 : (0 : Int) < ((m + 1 : Nat) : Int) := by omega
      clear hj hbk ho hjn hw hcell hroom hfz I hm
      go_wp2_with fail
      go_roundw
      case rel =>
        obtain ⟨hj, hbk, ho, hm⟩ := D.out
        obtain ⟨h1, h2⟩ := hj.dropped hm.symm _ rfl (.int .i64 0) (.slice none 0 0)
        have hb2 : bk a g := hbk g (by rw [bk_some])
        exact ⟨k + 1, by go_num, by omega, Lib.hid ⟨_, cap', h1, fun b hb => hbk b ((h2 b).1 hb), ((ho.set (.inl (.inr hb2)) _ _).set (.inl (.inr hb2)) _ _).set (.inl (.inl rfl)) _ _⟩⟩
      case measure => simp [intOf]; omega
    · obtain rfl : k = d.toNat := by omega
      go_wp2_with fail
      go_end0
      obtain ⟨a1, cap1, hj, hbk, ho⟩ := I.out
      first | exact ⟨rfl, ⟨a1, cap1, hj, hbk⟩, ho⟩ | exact ⟨rfl, ⟨a1, ⟨cap1, hj⟩, hbk⟩, ho⟩
theorem JS.appended {R : Nat → Prop} {w W2 w4 wf : World} {J : Nat} {room en v : Int} {a a4 : Ptr} {cap cap4 n : Nat} {cs : List Cm} {x : Cm} (h : JS R w J room en a cap cs) (hn : cs.length = n) (hg : w.grownBy W2 none) (hx : CgS (fun b => w.heap.size ≤ b) W2 x.a x.l)
    (hwin : Win 2 w4 a4 cap4 (n + 1) (cs.flatMap Cm.c ++ Cm.c x)) (ho : Only (bk a) W2 w4) (hb : ∀ k, bk a4 k → bk a k ∨ W2.heap.size ≤ k) (hj : Jn J wf room v a4 (n + 1) cap4) (hf : Only (fun k => k = J) w4 wf) (hv : v = en + 1) (hxv : x.v = v) :
    JS R wf J room v a4 cap4 (cs ++ [x]) ∧ (∀ k, bk a4 k → bk a k ∨ w.heap.size ≤ k) := by
  have hJ := h.jn.lt
  have hJ2 : J < W2.heap.size := Nat.lt_of_lt_of_le hJ hg.size
  have hsz := hg.size
  have n4 : ¬ bk a4 J := fun e => by
    rcases hb J e with h1 | h1
    · exact h.neJ h1
    · omega
  have hlen : (cs ++ [x]).length = n + 1 := by simp [hn]
  have hS : ∀ y : Cm, CgS (fun b => ¬ JM R J a b ∧ ¬ JM R J a4 b) W2 y.a y.l → CgS (fun b => ¬ JM R J a4 b) wf y.a y.l := fun y hy =>
    ((hy.keep (ho.stays (fun b hs _ e => hs.1 (.inr (.inl e))))).keep (hf.stays (fun b hs _ e => hs.1 (.inl e)))).mono (fun b _ hs => hs.2)
  have hm : ∀ b, b < W2.heap.size → ¬ JM R J a b → ¬ JM R J a b ∧ ¬ JM R J a4 b := fun b hlt hs => ⟨hs, fun e => by
    rcases e with e | e | e
    · exact hs (.inl e)
    · rcases hb b e with h1 | h1
      · exact hs (.inr (.inl h1))
      · omega
    · exact hs (.inr (.inr e))⟩
  refine ⟨⟨by rw [hlen]; exact hj, ?_, fun y hy => ?_, n4, h.rJ, fun k hk e => ?_, fun k hk => Nat.lt_of_lt_of_le (h.rl k hk) (Nat.le_trans hsz (Nat.le_trans ho.size hf.size)), fun i hi => ?_⟩, fun k hk => (hb k hk).imp id (fun h => by omega)⟩
  · rw [hlen, List.flatMap_append]
    simp only [List.flatMap_cons, List.flatMap_nil, List.append_nil]
    exact hwin.keep hf (fun k hk e => n4 (e ▸ hk))
  · rw [List.mem_append, List.mem_singleton] at hy
    rcases hy with hy | rfl
    · exact hS y (((h.at_ y hy).keep (.of hg)).mono hm)
    · refine hS y (hx.mono (fun b hlt hs => hm b hlt (fun e => ?_)))
      rcases e with e | e | e
      · omega
      · have := h.win.lt b e; omega
      · have := h.rl b e; omega
  · rcases hb k hk with h1 | h1
    · exact h.ra k h1 e
    · have := h.rl k e; omega
  · rw [hlen] at hi ⊢
    rcases Nat.lt_or_ge i n with hlt | hge
    · have := h.vers i (by omega)
      rw [show (cs ++ [x]).getD i default = cs.getD i default by simp [List.getD, List.getElem?_append_left (show i < cs.length by omega)], this, hn, hv]
      push_cast; omega
    · obtain rfl : i = n := by omega
      rw [show (cs ++ [x]).getD i default = x by simp [List.getD, ← hn], hxv]
      push_cast; omega
theorem Only.one (J : Nat) (w : World) (i : Nat) (u : Value) : Only (fun k => k = J) w (w.setCell ⟨J, i, none⟩ u) := (Only.refl (fun k => k = J) w).set (.inl rfl) i u
abbrev cCm (v : Int) (a : Ptr) (n c : Nat) : Obj := .cells #[.int .i64 v, .slice a n c] 36
set_option maxHeartbeats 6400000 in
theorem appendJ_any (R S0 : Nat → Prop) (J : Nat) (w : World) (room en v : Int) (a va : Ptr) (cap vc : Nat) (cs : List Cm) (l : List Cg) (h : JS R w J room en a cap cs) (hl : CgS S0 w va l) (he : 0 ≤ en) (hv : v = en + 1) (hv2 : v ≤ 1099511627776) (hr : 1 ≤ room) (hr2 : room ≤ 1000) (hn : (cs.length : Int) ≤ room) :
    Calls Tryz.prog 26 #[.pointer (some ⟨J, 0, none⟩), .agg #[.int .i64 v, .slice va l.length vc]] w fun e w' => e = .returned (.int .i64 0) ∧ (∃ a' cap' x, x.v = v ∧ x.l.map Cg.p = l.map Cg.p ∧ JS R w' J room v a' cap' ((cs ++ [x]).drop (((cs.length + 1 : Nat) : Int) - room).toNat) ∧ (∀ k, bk a' k → bk a k ∨ w.heap.size ≤ k)) ∧ Only (fun k => k = J ∨ bk a k) w w' := by
  have hj := h.jn
  obtain ⟨c0, c1, c2, f0, f1, f2⟩ := hj.cells
  have hjl := hj.lt
  have e1 : IntKind.i64.wrap (en + 1) = en + 1 := by rw [IntKind.wrap_i64]; omega
  have hb : (v != en + 1) = false := by simp [hv]
  have hb2 : ¬ (1099511627776 : Int) < v := by omega
  obtain ⟨n, hnn⟩ : ∃ n, n = cs.length := ⟨_, rfl⟩
  obtain ⟨m, hm⟩ : ∃ m, m = l.length := ⟨_, rfl⟩
  rw [← hnn] at c2 hn ⊢
  rw [← hm]
  have HCp := Lib.hid (fun W (hW : w.grownBy W none) => copiedJ_any S0 va vc l v W (hl.keep (.of hW)))
  rw [← hm] at HCp
  have D := Lib.hid (And.intro h (And.intro hv (And.intro hr (And.intro hr2 (And.intro hn (And.intro hnn hm))))))
  have G0 := Lib.hid (World.grownBy_alloc w (cCm v va m vc) none)
  have X0 := Lib.hid (show (w.alloc (cCm v va m vc)).cell? ⟨w.heap.size, 0, none⟩ = some (.int .i64 v) ∧ (w.alloc (cCm v va m vc)).cell? ⟨w.heap.size, 1, none⟩ = some (.slice va m vc) from ⟨cell_of_row _ _ 0 _ _ _ (heap_alloc_new w _), cell_of_row _ _ 1 _ _ _ (heap_alloc_new w _)⟩)
  clear h hl hj he hv hv2 hr hr2 hn hnn hm
  go_enter Tryz.func26, Tryz.ntmps26
  go_wp2_with fail
  go_quiet (fail)
  go_wp2_with fail
  generalize hw0 : (w.alloc (cCm v va m vc)).drewN _ = w0
  have FX : w0.cell? ⟨w.heap.size, 0, none⟩ = some (.int .i64 v) ∧ w0.cell? ⟨w.heap.size, 1, none⟩ = some (.slice va m vc) ∧ w.grownBy w0 none ∧ w0.heap.size = w.heap.size + 1 := by
    subst hw0
    exact ⟨cell_of_row _ _ 0 _ _ _ (heap_alloc_new w (cCm v va m vc)), cell_of_row _ _ 1 _ _ _ (heap_alloc_new w (cCm v va m vc)), grown_drewNT (World.grownBy_alloc w _ none) _, by simp⟩
  clear hw0 e1 hb hb2
  obtain ⟨x0, x1, hg0, hs0⟩ := FX
  have G0 := Lib.hid hg0
  have c2' := hg0.cell c2 (by simp)
  have f2' : w0.frozen? ⟨J, 2, none⟩ = false := (World.frozen?_of_block (a := ⟨J, 2, none⟩) (hg0.block J hjl (by simp))).trans f2
  have hjl0 : J < w0.heap.size := by omega
  have X0 := Lib.hid (And.intro x0 (And.intro x1 c2'))
  have HK := Lib.hid (fun W (hW : w0.grownBy W none) => D.out.1.win.keepG (G0.out.trans hW))
  rw [← D.out.2.2.2.2.2.1] at HK
  have HN := Lib.hid (show n ≤ 1000000 from by have := D.out.2.2.2.1; have := D.out.2.2.2.2.1; omega)
  clear c0 c1 c2 f0 f1 f2 hg0
  go_cut [26] (fun s26 wx => ∃ a' cap', s26 = .slice a' (n + 1) cap' ∧ Hid (∃ x W2 w4, x.v = v ∧ x.l.map Cg.p = l.map Cg.p ∧ w.grownBy W2 none ∧ CgS (fun b => w.heap.size ≤ b) W2 x.a x.l ∧ Win 2 w4 a' cap' (n + 1) (cs.flatMap Cm.c ++ Cm.c x) ∧ Only (bk a) W2 w4 ∧ (∀ k, bk a' k → bk a k ∨ W2.heap.size ≤ k) ∧ Jn J wx room en a' (n + 1) cap' ∧ Only (fun k => k = J) w4 wx ∧ wx.cell? ⟨w.heap.size, 0, none⟩ = some (.int .i64 v)))
  case first =>
    go_region_law (first
      | (go_simp; go_at_call 46; (with_reducible refine (HCp.out _ (G0.out.trans (grown_drewT (grown_reflT w0 none)))).mono ?_); rintro e w2 ⟨⟨ca, cc, cl, rfl, hcl, hcc, hcp, hcg⟩, hg2⟩; have G2 := Lib.hid ((grown_drewT (grown_reflT w0 none)).trans hg2); have y2 := ((grown_drewT (grown_reflT w0 none)).trans hg2).cell c2' (by simp); have hjl2 := Nat.lt_of_lt_of_le hjl0 hg2.size; have Y2 := Lib.hid (And.intro hcl (And.intro hcc (And.intro hcp hcg))); clear hg2 hcl hcc hcp hcg)
      | (refine step_append_win (by rfl) (.tmp 22) (.tmp 25) cm_el (by rfl) (HK.out _ (G2.out.trans (World.grownBy_alloc _ _ none))) HN.out (by rfl) ⟨w2.heap.size, 0, none⟩ 1 (by rfl) [.int .i64 v, .slice ca m cc] rfl (World.news_of_block (heap_alloc_new w2 _)) (by intro u hu; simp only [List.mem_cons, List.not_mem_nil, or_false] at hu; rcases hu with rfl | rfl <;> rfl) ?_
         intro a' cap' w4 hk4 ho4 hb4
         have G3 := Lib.hid (G2.out.trans (World.grownBy_alloc w2 (cCm v ca m cc) none))
         have hnJ : ¬ bk a J := D.out.1.neJ
         have hJ4 := ho4.block J (Nat.lt_of_lt_of_le hjl0 G3.out.size) hnJ
         have y4 := (World.cell?_of_block (a := ⟨J, 2, none⟩) hJ4).trans (G3.out.cell c2' (by simp))
         have z4 := (World.frozen?_of_block (a := ⟨J, 2, none⟩) hJ4).trans ((World.frozen?_of_block (a := ⟨J, 2, none⟩) (G3.out.block J hjl0 (by simp))).trans f2')
         have hX4 := ho4.block w.heap.size (Nat.lt_of_lt_of_le (by omega) G3.out.size) (fun e => by have := D.out.1.win.lt _ e; omega)
         have E4 := Lib.hid (And.intro hk4 (And.intro ho4 (And.intro hb4 (And.intro hJ4 hX4))))
         clear hk4 ho4 hb4 hJ4 hX4 hnJ)
      | fail)
    all_goals
      go_wp2_with fail
      go_meet
      obtain ⟨hk4, ho4, hb4, hJ4, hX4⟩ := E4.out
      obtain ⟨hcl, hcc, hcp, hcg⟩ := Y2.out
      have hg5 := G0.out.trans G3.out
      have hj4 : Jn J w4 room en a n cap := by
        have hj := D.out.1.jn
        rw [← D.out.2.2.2.2.2.1] at hj
        exact hJ4.trans (hj.keep hg5 (by simp))
      refine ⟨a', cap', rfl, Lib.hid ⟨⟨v, ca, cc, cl⟩, _, w4, rfl, hcp, hg5, ?_, ?_, ho4, hb4, hj4.setKept, Only.one _ _ _ _, ?_⟩⟩
      · exact (hcg.keep (.of (World.grownBy_alloc w2 _ none))).mono (fun b _ h => Nat.le_trans G0.out.size (Nat.le_trans (grown_drewT (grown_reflT w0 none)).size h))
      · have : Cm.c ⟨v, ca, cc, cl⟩ = [.int .i64 v, .slice ca m cc] := by simp only [Cm.c]; rw [hcl]
        rw [this]; exact hk4
      · rw [World.cell?_setCell_other _ _ _ _ (by simp <;> omega)]
        exact (World.cell?_of_block (a := ⟨w.heap.size, 0, none⟩) hX4).trans (G3.out.cell X0.out.1 (by simp))
  case rest =>
  obtain ⟨a', cap', rfl, I⟩ := hcut
  obtain ⟨x, W2, w4, hxv, hxp, hg, hcg, hwin, ho, hb, hj, hoJ, hx⟩ := I.out
  obtain ⟨k0, k1, k2, q0, q1, q2⟩ := hj.cells
  have hj2 : Jn J (wc.setCell ⟨J, 1, none⟩ (.int .i64 v)) room v a' (n + 1) cap' := hj.setEnd
  obtain ⟨hJS, hbk⟩ := D.out.1.appended D.out.2.2.2.2.2.1.symm hg hcg hwin ho hb hj2 (hoJ.trans (Only.one J wc 1 _) (fun _ h => .inl h)) D.out.2.1 hxv
  have hO : Only (fun k => k = J ∨ bk a k) w (wc.setCell ⟨J, 1, none⟩ (.int .i64 v)) := ((Only.of_none (M := fun k => k = J ∨ bk a k) hg).trans ho (fun k h => .inl (.inr h))).trans (hoJ.trans (Only.one J wc 1 _) (fun _ h => .inl h)) (fun k h => .inl (.inl h))
  have hr2 := D.out.2.2.1
  have hr3 := D.out.2.2.2.1
  have hr4 := D.out.2.2.2.2.1
  have hnn := D.out.2.2.2.2.2.1
  have hjl5 : J < wc.heap.size := hj.lt
  have HD := Lib.hid (fun W (hW : (wc.setCell ⟨J, 1, none⟩ (.int .i64 v)).grownBy W none) => dropJ_any R J W room v a' cap' (cs ++ [x]) (((n + 1 : Nat) : Int) - room) (hJS.keepG hW) (by rw [List.length_append, ← hnn]; simp; omega) (by rw [List.length_append, ← hnn]; simp; omega))
  have e2 : IntKind.i64.wrap (((n : Int) + 1) - room) = (n : Int) + 1 - room := by rw [IntKind.wrap_i64]; omega
  have e3 : ((n + 1 : Nat) : Int) - room = (n : Int) + 1 - room := by omega
  rw [e3] at HD
  have Z := Lib.hid (And.intro hxv (And.intro hxp (And.intro hbk hO)))
  obtain ⟨m0, _, m2, _⟩ := hj2.cells
  clear hj I hj2 x0 x1 c2' f2' HK HN X0 hr2 hr3 hr4 hxv hxp hg hcg hwin ho hb hoJ hJS hbk hO hnn
  go_wp2_with fail
  clear hx k0 k1 k2 q0 q1 q2
  generalize wc.setCell ⟨J, 1, none⟩ (.int .i64 v) = w5 at *
  go_region_with (go_at_call 47; (with_reducible refine (HD.out _ (by first | exact grown_drewT (grown_reflT _ _) | exact grown_reflT _ _)).mono ?_); rintro e w6 ⟨rfl, hj6, hb6⟩; have H6 := Lib.hid (And.intro hj6 hb6); clear hj6 hb6)
  all_goals
    go_wp2_with fail
    go_ret
    obtain ⟨⟨a6, cap6, hj6, hb6⟩, ho6⟩ := H6.out
    obtain ⟨hxv, hxp, hbk, hO⟩ := Z.out
    refine ⟨rfl, ⟨a6, cap6, x, hxv, hxp, by rw [e3]; exact hj6, fun k hk => hbk k (hb6 k hk)⟩, (hO.drew).trans ho6 (fun k hk => ?_)⟩
    rcases hk with hk | hk
    · exact .inl (.inl hk)
    · exact (hbk k hk).imp .inr id
end Go.Proofs.YtnfpomjcofhppaaGreatDoor
namespace Go.Proofs.YtnfpomjcofhppaaGreatDoor
open Go.RowKit

set_option maxRecDepth 100000 in
set_option maxHeartbeats 6400000 in
theorem walkB_any (B : Nat) (t : Tre) (p : Ptr) (w : World) (hB : B ≤ w.heap.size) (ht : TrAt (fun b => b < B) w t p) (hs : Tr.Sorted rowsOrd t.toL) (hn : t.n ≤ 500000000) :
    Calls Tryz.prog 70 #[.pointer p, .slice none 0 0] w fun e w' => (∃ v xs, e = .returned (walkF (w.heap.size + 1) (w.heap.size + 1 + 1)) ∧ Wlk (fun b => b < B) B w' w.heap.size (w.heap.size + 1) (w.heap.size + 1 + 1) none 0 [] v xs ∧ remS [] xs = t.toL ∧ (∀ g, v.ownBlock = some g → w.heap.size + 3 ≤ g)) ∧ w.grownBy w' none := by
  have g3 := ((World.grownBy_alloc w (.cells #[.slice none 0 0] 55) none).trans (World.grownBy_alloc _ (.cells #[.slice none 0 0] 192) none)).trans (World.grownBy_alloc _ (.cells #[.func (.func 84) #[] #[.pointer (some ⟨w.heap.size, 0, none⟩), .pointer (some ⟨w.heap.size + 1, 0, none⟩)]] 193) none)
  have h0 := start_walk w none 0 [] ⟨by simp, by simp, .inl rfl⟩ (by simp)
  have W0 : Wlk (fun b => b < B) B (((w.alloc (.cells #[.slice none 0 0] 55)).alloc (.cells #[.slice none 0 0] 192)).alloc (.cells #[.func (.func 84) #[] #[.pointer (some ⟨w.heap.size, 0, none⟩), .pointer (some ⟨w.heap.size + 1, 0, none⟩)]] 193)) w.heap.size (w.heap.size + 1) (w.heap.size + 1 + 1) none 0 [] (.slice none 0 0) [] :=
    ⟨h0.path, World.ownsRow_nil _ _ _ _, by omega, h0.kbox, ⟨by simp, by simp, .inl rfl⟩, h0.dbox, h0.kp_pp, h0.dp_pp, h0.v_pp, h0.v_kp, h0.v_dp, by simp, fun b hb => hb, Nat.le_trans hB g3.size⟩
  have HD := Lib.hid (down_any ro_ord (fun b => b < B) B w.heap.size (w.heap.size + 1) (w.heap.size + 1 + 1) none 0 [] (.slice none 0 0) [] t p _ W0 (ht.keep (.of g3)) hs ⟨by simp; omega, hn⟩)
  have G3 := Lib.hid g3
  clear W0 g3 ht hs h0 hB
  go_enter Tryz.func70, Tryz.ntmps70
  go_wp2_with fail
  refine HD.out.mono ?_
  rintro e w4 ⟨rfl, ⟨v, xs, hw, hg, hr, hl⟩, ho⟩
  have D := Lib.hid (And.intro hw (And.intro hr hg))
  have G4 := Lib.hid (only_grown G3.out ho (fun b hb => by
    rcases hb with rfl | hb
    · omega
    · simp [Value.ownBlock] at hb))
  clear hw hg hr hl ho
  go_wp2_with fail
  go_ret
  refine ⟨⟨v, xs, rfl, D.out.1, by have := D.out.2.1; simpa [remS, from_nil] using this, fun g hg => ?_⟩, G4.out⟩
  rcases D.out.2.2 g hg with h | h
  · simp [Value.ownBlock] at h
  · simpa using h
/-- Two walks apart. -/
structure Two (B k1 p1 d1 k2 p2 d2 : Nat) (w : World) (v1 : Value) (xs1 : List (Ptr × Tre)) (v2 : Value) (xs2 : List (Ptr × Tre)) : Prop where
  w1 : Wlk (fun b => b < B) B w k1 p1 d1 none 0 [] v1 xs1
  w2 : Wlk (fun b => b < B) B w k2 p2 d2 none 0 [] v2 xs2
  a1 : p1 ≠ k2 ∧ p1 ≠ p2 ∧ p1 ≠ d2
  a2 : p2 ≠ k1 ∧ p2 ≠ p1 ∧ p2 ≠ d1
  b1 : v1.ownBlock ≠ some k2 ∧ v1.ownBlock ≠ some p2 ∧ v1.ownBlock ≠ some d2
  b2 : v2.ownBlock ≠ some k1 ∧ v2.ownBlock ≠ some p1 ∧ v2.ownBlock ≠ some d1
  vv : ∀ g, v1.ownBlock = some g → v2.ownBlock ≠ some g
theorem Two.turn {B k1 p1 d1 k2 p2 d2 : Nat} {w : World} {v1 v2 : Value} {xs1 xs2 : List (Ptr × Tre)} (h : Two B k1 p1 d1 k2 p2 d2 w v1 xs1 v2 xs2) : Two B k2 p2 d2 k1 p1 d1 w v2 xs2 v1 xs1 :=
  ⟨h.w2, h.w1, h.a2, h.a1, h.b2, h.b1, fun g h2 h1 => h.vv g h1 h2⟩
theorem Two.grown {B k1 p1 d1 k2 p2 d2 : Nat} {w w' : World} {v1 v2 : Value} {xs1 xs2 : List (Ptr × Tre)} (h : Two B k1 p1 d1 k2 p2 d2 w v1 xs1 v2 xs2) (hg : w.grownBy w' none) : Two B k1 p1 d1 k2 p2 d2 w' v1 xs1 v2 xs2 :=
  ⟨h.w1.grown hg, h.w2.grown hg, h.a1, h.a2, h.b1, h.b2, h.vv⟩
/-- The first one goes on. -/
theorem Two.next {B k1 p1 d1 k2 p2 d2 : Nat} {w w' : World} {v1 v1' v2 : Value} {xs1 xs1' xs2 : List (Ptr × Tre)} (h : Two B k1 p1 d1 k2 p2 d2 w v1 xs1 v2 xs2) (hw : Wlk (fun b => b < B) B w' k1 p1 d1 none 0 [] v1' xs1') (hg : ∀ g, v1'.ownBlock = some g → v1.ownBlock = some g ∨ w.heap.size ≤ g) (ho : Only (Wlk.M p1 v1) w w') : Two B k1 p1 d1 k2 p2 d2 w' v1' xs1' v2 xs2 := by
  obtain ⟨l1, l2, l3⟩ := h.w2.lt
  have hv2 : ∀ g, v2.ownBlock = some g → g < w.heap.size := fun g hg => (World.ownsRow.lt h.w2.own g hg).2
  refine ⟨hw, h.w2.keep ho (fun b hb => ?_), h.a1, h.a2, ⟨fun e => ?_, fun e => ?_, fun e => ?_⟩, h.b2, fun g h1 h2 => ?_⟩
  · rcases hb with rfl | hb
    · exact ⟨h.w1.bp, h.a1.1, h.a1.2.1, h.a1.2.2, h.b2.2.1⟩
    · exact ⟨(World.ownsRow.lt h.w1.own b hb).1, fun e => h.b1.1 (by rw [hb, e]), fun e => h.b1.2.1 (by rw [hb, e]), fun e => h.b1.2.2 (by rw [hb, e]), h.vv b hb⟩
  · rcases hg _ e with q | q
    · exact h.b1.1 q
    · omega
  · rcases hg _ e with q | q
    · exact h.b1.2.1 q
    · omega
  · rcases hg _ e with q | q
    · exact h.b1.2.2 q
    · omega
  · rcases hg g h1 with q | q
    · exact h.vv g q h2
    · have := hv2 g h2; omega
theorem Two.only {B k1 p1 d1 k2 p2 d2 : Nat} {w : World} {v1 v2 : Value} {xs1 xs2 : List (Ptr × Tre)} (h : Two B k1 p1 d1 k2 p2 d2 w v1 xs1 v2 xs2) : ∀ b, Wlk.M p1 v1 b → B ≤ b := fun b hb => by
  rcases hb with rfl | hb
  · exact h.w1.bp
  · exact (World.ownsRow.lt h.w1.own b hb).1
theorem PairAt.keep {B : Nat} {w w' : World} {p : Ptr} {k r : List Vl} {M : Nat → Prop} (h : PairAt (fun b => b < B) w p k r) (ho : Only M w w') (hM : ∀ b, M b → B ≤ b) : PairAt (fun b => b < B) w' p k r := by
  obtain ⟨b, ka, kc, va, vc, e, hb, hlt, c0, c1, h1, h2⟩ := h
  have hst : Stays (fun b => b < B) w w' := ho.stays (fun b hb _ hm => by have := hM b hm; omega)
  have hn : ¬ M b := fun hm => by have := hM b hm; omega
  exact ⟨b, ka, kc, va, vc, e, hb, Nat.lt_of_lt_of_le hlt ho.size, ho.cell c0 hn, ho.cell c1 hn, h1.keep hst, h2.keep hst⟩
/-- Where the two walks stand. -/
def DSt (w : World) (B k1 p1 d1 k2 p2 d2 : Nat) (px py : Value) (L : List (List Vl × List Vl)) (W : World) : Prop :=
  ∃ v1 xs1 v2 xs2, Two B k1 p1 d1 k2 p2 d2 W v1 xs1 v2 xs2 ∧ w.grownBy W none ∧ L.length ≤ 100000000 ∧ match L with
    | [] => px = .pointer none ∧ py = .pointer none
    | (k, r) :: rest => (∃ p, px = .pointer p ∧ PairAt (fun b => b < B) W p k r) ∧ (∃ p, py = .pointer p ∧ PairAt (fun b => b < B) W p k r) ∧ remS [] xs1 = rest ∧ remS [] xs2 = rest
theorem least_ex (P : Nat → Prop) : ∀ n, P n → ∃ m, P m ∧ ∀ q, P q → m ≤ q := by
  intro n
  induction n using Nat.strongRecOn with
  | _ n ih =>
    intro hn
    by_cases h : ∃ q, q < n ∧ P q
    · obtain ⟨q, hq, hp⟩ := h
      exact ih q hq hp
    · exact ⟨n, hn, fun q hq => Classical.byContradiction fun hl => h ⟨q, by omega, hq⟩⟩
set_option maxHeartbeats 1600000 in
theorem vsame_any (a a' : Option Addr) (cap cap' : Nat) (l : List Vl) (w : World) (h : RowAt w a l) (h' : RowAt w a' l) :
    Calls Tryz.prog 66 #[.slice a l.length cap, .slice a' l.length cap'] w fun e w' => e = .returned (.bool true) ∧ w.grownBy w' none := by
  have HE := Lib.hid ((equal_any a a' cap cap' l l w h h').mono fun e w' h => And.intro h.1 (grown_belowT h.2 none))
  rw [show (rowsOrd l l == 0) = true by simp [(ro_zero l l).2 rfl]] at HE
  clear h h'
  generalize l.length = m at *
  go_enter Tryz.func66, Tryz.ntmps66
  go_wp2_with fail
  refine HE.out.mono ?_
  rintro e w2 ⟨rfl, hg⟩
  have G := Lib.hid hg
  clear hg
  go_wp2_with fail
  go_ret
  exact ⟨rfl, G.out⟩
end Go.Proofs.YtnfpomjcofhppaaGreatDoor
namespace Go.Proofs.YtnfpomjcofhppaaGreatDoor
open Go.RowKit

theorem delP_p (k : List Vl) (l : List Pw) : (delP k l).map Pw.p = Tr.delL rowsOrd k (l.map Pw.p) := by
  induction l with
  | nil => rfl
  | cons x l ih =>
    unfold delP Tr.delL at *
    by_cases h : rowsOrd x.k.l k = 0
    · simp [Pw.p, h] at ih ⊢
      exact ih
    · simp [Pw.p, h] at ih ⊢
      exact ih
theorem insP_p (x : Pw) : ∀ l : List Pw, (insP x l).map Pw.p = Tr.ins rowsOrd x.k.l x.r.l (l.map Pw.p)
  | [] => rfl
  | y :: l => by
    simp only [insP, List.map_cons, Tr.ins]
    by_cases h : rowsOrd x.k.l y.k.l < 0
    · rw [if_pos h, if_pos (by exact h)]; rfl
    · rw [if_neg h, if_neg (by exact h), List.map_cons, insP_p x l]
def doT (d : Bool) (K R : Rw) (t : Tre) : Tre := if d then Tr.del rowsOrd K.l t else Tr.put rowsOrd K.l R.l t
def doP (d : Bool) (K R : Rw) (l : List Pw) : List Pw := if d then delP K.l l else insP ⟨K, R⟩ (delP K.l l)
/-- The tree and the list hold the same. -/
structure Eq7 (t : Tre) (l : List Pw) (j : Nat) : Prop where
  ok : Tr.ok t
  sort : Tr.Sorted rowsOrd t.toL
  same : t.toL = l.map Pw.p
  good : ∀ x ∈ l, x.k.l.all Vl.good = true
  few : l.length ≤ j
theorem Eq7.n {t : Tre} {l : List Pw} {j : Nat} (h : Eq7 t l j) : t.n = l.length := by rw [Tr.n_toL, h.same, List.length_map]
theorem Eq7.nil : Eq7 .nil [] 0 := ⟨trivial, by simp [Tr.toL, Tr.Sorted], rfl, by simp, Nat.le_refl _⟩
theorem Eq7.mono {t : Tre} {l : List Pw} {j k : Nat} (h : Eq7 t l j) (hk : j ≤ k) : Eq7 t l k := ⟨h.ok, h.sort, h.same, h.good, Nat.le_trans h.few hk⟩
theorem doP_len (d : Bool) (K R : Rw) (l : List Pw) : (doP d K R l).length ≤ l.length + 1 := by
  unfold doP
  split
  · exact Nat.le_succ_of_le (delP_len _ _)
  · rw [insP_len]; exact Nat.succ_le_succ (delP_len _ _)
theorem doP_mem {d : Bool} {K R : Rw} {l : List Pw} {x : Pw} (h : x ∈ doP d K R l) : x = ⟨K, R⟩ ∧ d = false ∨ x ∈ l := by
  unfold doP at h
  split at h
  · exact .inr (delP_mem h)
  · rename_i hd
    rcases insP_mem h with h | h
    · exact .inl ⟨h, by simpa using hd⟩
    · exact .inr (delP_mem h)
theorem Eq7.act {t : Tre} {l : List Pw} {j : Nat} (h : Eq7 t l j) (d : Bool) {K : Rw} (R : Rw) (hg : K.l.all Vl.good = true) : Eq7 (doT d K R t) (doP d K R l) (j + 1) := by
  refine ⟨?_, ?_, ?_, fun x hx => ?_, Nat.le_trans (doP_len d K R l) (by have := h.few; omega)⟩
  · unfold doT; split
    · exact (Tr.del_ok rowsOrd t K.l h.ok).1
    · exact (Tr.put_ok rowsOrd K.l R.l t h.ok).1
  · unfold doT; split
    · rw [Tr.del_toL ro_ord t K.l h.sort]; exact Tr.delL_sorted h.sort
    · rw [Tr.put_toL ro_ord K.l R.l t h.sort]; exact Tr.putL_sorted ro_ord h.sort
  · unfold doT doP; split
    · rw [Tr.del_toL ro_ord t K.l h.sort, delP_p, h.same]
    · rw [Tr.put_toL ro_ord K.l R.l t h.sort, insP_p, delP_p, h.same]; rfl
  · rcases doP_mem hx with ⟨e, _⟩ | h'
    · rw [e]; exact hg
    · exact h.good x h'
theorem look_none {key : List Vl} {l : List Pw} (h : ∀ x ∈ l, rowsOrd x.k.l key ≠ 0) : lookL key (l.map Pw.p) = none := by
  unfold lookL
  rw [List.find?_eq_none.2 (fun x hx e => ?_)]
  · rfl
  · rw [List.mem_map] at hx
    obtain ⟨y, hy, rfl⟩ := hx
    exact h y hy (by simpa [Pw.p] using e)
theorem look_hit {key : List Vl} : ∀ {l : List Pw} {j : Nat}, j < l.length → (∀ x ∈ l.take j, rowsOrd x.k.l key ≠ 0) → rowsOrd (l.getD j default).k.l key = 0 → lookL key (l.map Pw.p) = some (l.getD j default).r.l
  | [], j, h, _, _ => by simp at h
  | x :: l, 0, _, _, h0 => by
    have h0' : rowsOrd x.k.l key = 0 := by simpa using h0
    simp [lookL, Pw.p, h0']
  | x :: l, j + 1, h, hn, h0 => by
    have hx : rowsOrd x.k.l key ≠ 0 := hn x (by simp)
    have ih := look_hit (key := key) (l := l) (j := j) (by simpa using h) (fun y hy => hn y (by simp [hy])) (by simpa using h0)
    have e : lookL key ((x :: l).map Pw.p) = lookL key (l.map Pw.p) := by
      unfold lookL
      rw [List.map_cons, List.find?_cons_of_neg (by simpa [Pw.p] using hx)]
    rw [e, ih]
    simp
/-- The rows from a key on. -/
def fromP (key : List Vl) (l : List Pw) : List Rw := (l.filter fun x => !decide (rowsOrd x.k.l key < 0)).map Pw.r
theorem fromP_step {key : List Vl} {l : List Pw} {j : Nat} (h : j < l.length) : fromP key (l.take (j + 1)) = fromP key (l.take j) ++ (if rowsOrd (l.getD j default).k.l key < 0 then [] else [(l.getD j default).r]) := by
  rw [take_at h]
  unfold fromP
  rw [List.filter_append, List.map_append]
  congr 1
  generalize l.getD j default = y
  by_cases hz : rowsOrd y.k.l key < 0
  · rw [if_pos hz]; simp [hz]
  · rw [if_neg hz]; simp [hz]
theorem fromP_rows {key : List Vl} {l : List Pw} : (fromP key l).map Rw.l = (fromL key (l.map Pw.p)).map Prod.snd := by
  induction l with
  | nil => rfl
  | cons x l ih =>
    unfold fromP fromL at *
    by_cases hz : rowsOrd x.k.l key < 0
    · simp [Pw.p, hz] at ih ⊢
      exact ih
    · simp [Pw.p, hz] at ih ⊢
      exact ih
theorem fromP_mem {key : List Vl} {l : List Pw} {x : Rw} (h : x ∈ fromP key l) : ∃ y ∈ l, x = y.r := by
  unfold fromP at h
  rw [List.mem_map] at h
  obtain ⟨y, hy, rfl⟩ := h
  exact ⟨y, (List.mem_filter.1 hy).1, rfl⟩
theorem fromP_len (key : List Vl) (l : List Pw) : (fromP key l).length ≤ l.length := by
  unfold fromP
  rw [List.length_map]
  exact List.length_filter_le _ _
end Go.Proofs.YtnfpomjcofhppaaGreatDoor
