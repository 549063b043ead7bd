/- The draft's do: one operation. -/
import Derived.Test.YtnfpomjcofhppaaGreatDoorZb29
import Derived.Test.YtnfpomjcofhppaaGreatDoorZb30
namespace Go.Proofs.YtnfpomjcofhppaaGreatDoor
open Go.RowKit

theorem dC_tree (ca : Ptr) (n cc : Nat) (ver : Int) (ps : Nat → Ptr) (cha : Ptr) (chn chc : Nat) (spa : Ptr) (spn spc i : Nat) (hi : i < 6) : (dC ca n cc ver ps cha chn chc spa spn spc)[2 + i]? = some (.pointer (ps i)) := by
  match i, hi with
  | 0, _ => rfl
  | 1, _ => rfl
  | 2, _ => rfl
  | 3, _ => rfl
  | 4, _ => rfl
  | 5, _ => rfl
theorem dC_set (ca : Ptr) (n cc : Nat) (ver : Int) (ps : Nat → Ptr) (cha : Ptr) (chn chc : Nat) (spa : Ptr) (spn spc i : Nat) (hi : i < 6) (q : Ptr) : (dC ca n cc ver ps cha chn chc spa spn spc).setIfInBounds (2 + i) (.pointer q) = dC ca n cc ver (fun j => if j = i then q else ps j) cha chn chc spa spn spc := by
  match i, hi with
  | 0, _ => rfl
  | 1, _ => rfl
  | 2, _ => rfl
  | 3, _ => rfl
  | 4, _ => rfl
  | 5, _ => rfl
/-- With another tree. -/
def Dm.tree (d : Dm) (i : Nat) (q : Ptr) (t : Tre) : Dm := { d with ps := fun j => if j = i then q else d.ps j, tr := setT d.tr i t }
theorem DAt.setTree {R : Nat → Prop} {w w1 : World} {D : Nat} {d : Dm} (h : DAt R w D d) (hg : w.grownBy w1 none) {i : Nat} (hi : i < 6) {q : Ptr} {t : Tre} (ht : TrAt (fun b => ¬ d.M R D b) w1 t q) :
    DAt R (w1.setCell ⟨D, 2 + i, none⟩ (.pointer q)) D (d.tree i q t) ∧ Only (fun k => k = D) w (w1.setCell ⟨D, 2 + i, none⟩ (.pointer q)) := by
  have h1 := h.keepG hg
  have ho : Only (fun k => k = D) w1 (w1.setCell ⟨D, 2 + i, none⟩ (.pointer q)) := (Only.refl (fun k => k = D) w1).set (.inl rfl) _ _
  have how := h1.own
  refine ⟨h1.step (d' := d.tree i q t) (ho.mono (fun k _ hk => .inl hk)) (fun k e => .inl e) (fun k e => .inl e) rfl rfl ?_ (fun j hj => ?_) (own_only h1.och ho (fun g hg e => by have := how.1 g ((bk_own _ _ _ _).1 hg); omega)) (fun _ hx => .inl hx) (own_only h1.osp ho (fun g hg e => by have := how.2 g ((bk_own _ _ _ _).1 hg); omega)) (fun _ hx => .inl hx), (Only.of_none hg).trans ho (fun _ hk => .inl hk)⟩
  · have e := h1.blk
    have e2 := dC_set d.ca d.ts.length d.cc d.ver d.ps d.cha d.ch.length d.chc d.spa d.sp.length d.spc i hi q
    simp only [World.setCell, Array.getElem?_modify, e, if_true, Option.map_some, e2]
    rfl
  · by_cases hji : j = i
    · refine .inr ?_
      subst hji
      have e1 : (d.tree j q t).tr j = t := by simp [Dm.tree, setT]
      have e2 : (d.tree j q t).ps j = q := by simp [Dm.tree]
      rw [e1, e2]
      exact ht.keep (ho.stays (fun b hb _ e => hb (.inl e)))
    · exact .inl ⟨by simp [Dm.tree, setT, hji], by simp [Dm.tree, hji]⟩
/-- What an operation leaves. -/
structure Next (R : Nat → Prop) (D : Nat) (d d' : Dm) (w w' : World) : Prop where
  at_ : DAt R w' D d'
  ts : d'.ts = d.ts
  ca : d'.ca = d.ca
  cc : d'.cc = d.cc
  ver : d'.ver = d.ver
  ch : d'.ch.length ≤ d.ch.length + 1
  sp : d'.sp.length ≤ d.sp.length + 1
  only : Only (fun k => k = D ∨ bk d.cha k ∨ bk d.spa k) w w'
  bc : ∀ k, bk d'.cha k → bk d.cha k ∨ w.heap.size ≤ k
  bs : ∀ k, bk d'.spa k → bk d.spa k ∨ w.heap.size ≤ k
def Did (R : Nat → Prop) (D : Nat) (d : Dm) (m : Except Int Ms) (w : World) (e : Ending) (w' : World) : Prop :=
  (∃ c, m = .error c ∧ e = .returned (.iface 87 (.int .i64 c)) ∧ Only (fun k => k = D ∨ bk d.cha k ∨ bk d.spa k) w w')
  ∨ (∃ d', m = .ok d'.s ∧ e = .returned .nilIface ∧ Next R D d d' w w')
theorem keyM_len {t : Tb} {o : Om} {key : List Vl} (h : keyM t o = some key) (hk : o.k ≠ 2) : o.r.l.length = t.l.length := by
  unfold keyM at h
  rw [if_neg hk] at h
  split at h
  · next hf => exact hf.len
  · cases h
theorem claimM_ok {ts : List Tb} {sp : List (Int × List Vl)} {o : Om} {i : Nat} {key : List Vl} (h : claimM ts sp o = .ok (i, key)) : keyM (ts.getD i default) o = some key ∧ (o.k = 1 ∨ o.k = 2) := by
  unfold claimM at h
  split at h
  · cases h
  · next hk =>
    refine ⟨?_, by omega⟩
    split at h
    · cases h
    · next j hj =>
      split at h
      · cases h
      · next k2 hk2 =>
        split at h
        · cases h
        · cases h
          exact hk2
theorem doM_A {ts : List Tb} {s : Ms} {o : Om} {i : Nat} {key : List Vl} (h : claimM ts s.sp o = .ok (i, key)) (hk : o.k = 2) (hl : lookL key (s.tr i).toL = none) : doM ts s o = .error 22 := by
  unfold doM; rw [h]; simp [hl, hk]
theorem doM_B {ts : List Tb} {s : Ms} {o : Om} {i : Nat} {key r : List Vl} (h : claimM ts s.sp o = .ok (i, key)) (hk : o.k = 2) (hl : lookL key (s.tr i).toL = some r) : doM ts s o = .ok ⟨setT s.tr i (Tr.del rowsOrd key (s.tr i)), s.ch ++ [((ts.getD i default).n, r, [])], s.sp ++ [((i : Int), key)]⟩ := by
  unfold doM; rw [h]; simp [hl, hk]
theorem doM_C {ts : List Tb} {s : Ms} {o : Om} {i : Nat} {key r : List Vl} (h : claimM ts s.sp o = .ok (i, key)) (hk : o.k ≠ 2) (hl : lookL key (s.tr i).toL = some r) (hr : r = o.r.l) : doM ts s o = .ok ⟨s.tr, s.ch, s.sp ++ [((i : Int), key)]⟩ := by
  unfold doM; rw [h]; simp [hl, hk, hr]
theorem doM_E {ts : List Tb} {s : Ms} {o : Om} {i : Nat} {key : List Vl} {lk : Option (List Vl)} (h : claimM ts s.sp o = .ok (i, key)) (hk : o.k ≠ 2) (hl : lookL key (s.tr i).toL = lk) (hr : lk.getD [] ≠ o.r.l) : doM ts s o = .ok ⟨setT s.tr i (Tr.put rowsOrd key o.r.l (s.tr i)), s.ch ++ [((ts.getD i default).n, lk.getD [], o.r.l)], s.sp ++ [((i : Int), key)]⟩ := by
  unfold doM; rw [h]
  cases lk with
  | none => simp [hl, hk]
  | some r =>
    have hr' : r ≠ o.r.l := by simpa using hr
    simp [hl, hk, hr']
theorem next_end {R : Nat → Prop} {w w1 w2 wx w9 : World} {D : Nat} {d d1 d3 : Dm} {x : Spt} {spa : Ptr} {spc : Nat} (hde : d1 = { d with spa := spa, spc := spc, sp := d.sp ++ [x] }) (hg1 : w.grownBy w1 none) (ho1 : Only (fun k => k = D ∨ bk d.spa k) w1 w2) (hb1 : ∀ k, bk spa k → bk d.spa k ∨ w1.heap.size ≤ k)
    (ho2 : Only (fun k => k = D) w2 wx) (ho3 : Only (fun k => k = D ∨ bk d.cha k) wx w9) (hat : DAt R w9 D d3) (hts : d3.ts = d.ts) (hca : d3.ca = d.ca) (hcc : d3.cc = d.cc) (hver : d3.ver = d.ver) (hch : d3.ch.length ≤ d.ch.length + 1) (hsp : d3.sp = d1.sp) (hspa : d3.spa = spa) (hb3 : ∀ k, bk d3.cha k → bk d.cha k ∨ wx.heap.size ≤ k) : Next R D d d3 w w9 := by
  have s1 := hg1.size
  have s2 := ho1.size
  have s3 := ho2.size
  refine ⟨hat, hts, hca, hcc, hver, hch, by rw [hsp, hde]; simp, ?_, fun k hk => (hb3 k hk).imp id (fun h => by omega), fun k hk => (hb1 k (by rw [← hspa]; exact hk)).imp id (fun h => by omega)⟩
  refine (((Only.of_none (M := fun k => k = D ∨ bk d.cha k ∨ bk d.spa k) hg1).trans ho1 (fun k hk => .inl (hk.imp id .inr))).trans ho2 (fun k hk => .inl (.inl hk))).trans ho3 (fun k hk => .inl (hk.imp id .inl))
theorem slice_nil_row (w : World) : RowAt w none [] := ⟨by simp, by simp, .inl rfl⟩
set_option maxRecDepth 100000 in
set_option maxHeartbeats 12800000 in
theorem do_any (R : Nat → Prop) (D : Nat) (d : Dm) (o : Om) (w : World) (h : DAt R w D d) (hc : CatOk d.ts) (hcc : d.ts.length ≤ d.cc) (hl : d.sp.length ≤ 500) (hlc : d.ch.length ≤ 500) (ht : ∀ i, i < 6 → Tr.Sorted rowsOrd (d.tr i).toL ∧ (d.tr i).n ≤ 100000) (hr : RwS (fun b => ¬ d.M R D b) w o.r.a o.r.l) (hrc : o.r.l.length ≤ o.r.cap) :
    Calls Tryz.prog 44 #[.pointer (some ⟨D, 0, none⟩), o.v] w (Did R D d (doM d.ts d.s o) w) := by
  have HCl := Lib.hid (fun W (hW : w.grownBy W none) => claim_any R D d o W (h.keepG hW) hc hcc (by omega) (hr.keep (.of hW)) hrc)
  have HD := Lib.hid h
  have HC := Lib.hid hc
  have HL := Lib.hid (And.intro hcc (And.intro hl (And.intro hlc (And.intro ht (And.intro hr hrc)))))
  have hlt := h.lt
  obtain ⟨dm, hdm⟩ : ∃ dm, dm = doM d.ts d.s o := ⟨_, rfl⟩
  rw [← hdm]
  have HM := Lib.hid hdm
  clear h hc hcc hl hlc ht hr hrc hdm
  obtain ⟨ok, on, ⟨ra, rc, rl⟩⟩ := o
  simp only [Om.v] at HCl ⊢
  obtain ⟨q, hq⟩ : ∃ q, q = rl.length := ⟨_, rfl⟩
  rw [← hq] at HCl ⊢
  have Hq := Lib.hid hq
  clear hq
  have A1 := heap_alloc_new w (cOp ok on ra q rc)
  have g1 := World.grownBy_alloc w (cOp ok on ra q rc) none
  have x0 : (w.alloc (cOp ok on ra q rc)).cell? ⟨w.heap.size, 0, none⟩ = some (.int .i64 ok) := cell_of_row _ _ 0 _ _ _ A1
  have x1 : (w.alloc (cOp ok on ra q rc)).cell? ⟨w.heap.size, 1, none⟩ = some (.string on) := cell_of_row _ _ 1 _ _ _ A1
  have x2 : (w.alloc (cOp ok on ra q rc)).cell? ⟨w.heap.size, 2, none⟩ = some (.slice ra q rc) := cell_of_row _ _ 2 _ _ _ A1
  have hs1 : w.heap.size < (w.alloc (cOp ok on ra q rc)).heap.size := by simp
  have G1 := Lib.hid g1
  have HB1 := Lib.hid A1
  clear A1 g1
  go_enter Tryz.func44, Tryz.ntmps44
  go_upto_region 1 with fail
  generalize w.alloc (.cells #[.int .i64 ok, .string on, .slice ra q rc] 70) = w1 at *
  go_wp2_with fail
  refine (HCl.out _ G1.out).mono ?_
  rintro e w2 hcl
  rcases hcl with ⟨c, hcm, rfl, hg2⟩ | ⟨i, key, ka, kc, spa, spc, hcm, hi, rfl, hd1, ho1, hb1⟩
  · have HE := Lib.hid (show dm = .error c from HM.out.trans (by unfold doM; rw [show claimM d.ts d.s.sp _ = _ from hcm]))
    have G2 := Lib.hid (G1.out.trans hg2)
    clear hcm hg2 HCl HM x0 x1 x2
    go_wp2_with fail
    go_ret
    exact .inl ⟨c, HE.out, rfl, .of_none (G2.out.trans (World.grownBy_alloc w2 _ none))⟩
  · obtain ⟨d1, hde⟩ : ∃ d1 : Dm, d1 = { d with spa := spa, spc := spc, sp := d.sp ++ [⟨i, ⟨ka, kc, key⟩⟩] } := ⟨_, rfl⟩
    rw [← hde] at hd1
    have hsix : i < 6 := by have := HC.out.six; omega
    have hgD : D < w.heap.size := hlt
    have hx : w2.heap[w.heap.size]? = w1.heap[w.heap.size]? := ho1.block w.heap.size hs1 (fun e => by
      rcases e with e | e
      · omega
      · have := HD.out.Mlt w.heap.size (.inr (.inr (.inl e))); omega)
    have x0 := (World.cell?_of_block (a := ⟨w.heap.size, 0, none⟩) hx).trans x0
    have x2 := (World.cell?_of_block (a := ⟨w.heap.size, 2, none⟩) hx).trans x2
    have hw2l : w.heap.size < w2.heap.size := Nat.lt_of_lt_of_le hs1 ho1.size
    have hD2 := hd1.lt
    have hblk := hd1.blk
    have c2i := (cell_of_row _ _ (2 + i) _ _ _ hblk).trans (dC_tree d1.ca d1.ts.length d1.cc d1.ver d1.ps d1.cha d1.ch.length d1.chc d1.spa d1.sp.length d1.spc i hsix)
    have f2i := froz_of hblk (2 + i)
    have hrow2 : RwS (fun b => ¬ d1.M R D b) w2 ra rl := by
      have h1 : RwS (fun b => ¬ d.M R D b ∧ ¬ d1.M R D b) w1 ra rl := ((HL.out.2.2.2.2.1.mono (S' := fun b => ¬ d.M R D b ∧ b < w.heap.size) (fun b hb h => ⟨h, hb⟩)).keep (.of G1.out)).mono (fun b _ hs => ⟨hs.1, fun e => by
        rw [hde] at e
        rcases e with e | e | e | e
        · exact hs.1 (.inl e)
        · exact hs.1 (.inr (.inl e))
        · rcases hb1 b e with e | e
          · exact hs.1 (.inr (.inr (.inl e)))
          · have := hs.2; omega
        · exact hs.1 (.inr (.inr (.inr e)))⟩)
      exact (h1.keep (ho1.stays (fun b hs _ e => hs.1 (e.imp id (fun e => .inr (.inl e)))))).mono (fun b _ hs => hs.2)
    have hkrow : RwS (fun b => ¬ d1.M R D b) w2 ka key := by
      have := hd1.rsp ⟨i, ⟨ka, kc, key⟩⟩ (by rw [hde]; simp)
      exact this
    have ht1 := hd1.tre i hsix
    have htr : d1.tr i = d.tr i := by rw [hde]
    have hps : d1.ps i = d.ps i := by rw [hde]
    obtain ⟨kn, hkn⟩ : ∃ kn, kn = key.length := ⟨_, rfl⟩
    rw [← hkn]
    have g5 := World.grownBy_alloc w2 (cSp i ka kn kc) none
    have A5 := heap_alloc_new w2 (cSp i ka kn kc)
    have F5 := Lib.hid (fun W (hW : (w2.alloc (cSp i ka kn kc)).grownBy W none) => show (W.cell? ⟨w2.heap.size, 0, none⟩ = some (.int .i64 i) ∧ W.cell? ⟨w2.heap.size, 1, none⟩ = some (.slice ka kn kc)) ∧ (W.cell? ⟨w.heap.size, 0, none⟩ = some (.int .i64 ok) ∧ W.cell? ⟨w.heap.size, 2, none⟩ = some (.slice ra q rc)) ∧ W.cell? ⟨D, 2 + i, none⟩ = some (.pointer (d1.ps i)) ∧ W.frozen? ⟨D, 2 + i, none⟩ = false from ⟨⟨hW.cell (cell_of_row _ _ 0 _ _ _ A5) (by simp), hW.cell (cell_of_row _ _ 1 _ _ _ A5) (by simp)⟩, ⟨hW.cell (g5.cell x0 (by simp)) (by simp), hW.cell (g5.cell x2 (by simp)) (by simp)⟩, hW.cell (g5.cell c2i (by simp)) (by simp), (World.frozen?_of_block (a := ⟨D, 2 + i, none⟩) ((g5.trans hW).block D hD2 (by simp))).trans f2i⟩)
    obtain ⟨lk, hlk⟩ : ∃ lk, lk = lookL key (d1.tr i).toL := ⟨_, rfl⟩
    obtain ⟨r, hr⟩ : ∃ r, r = lk.getD [] := ⟨_, rfl⟩
    obtain ⟨rn, hrn⟩ : ∃ rn, rn = r.length := ⟨_, rfl⟩
    obtain ⟨bb, hbb⟩ : ∃ bb, bb = lk.isSome := ⟨_, rfl⟩
    have HT := Lib.hid (show Tr.Sorted rowsOrd (d1.tr i).toL ∧ (d1.tr i).n ≤ 100000 by rw [htr]; exact HL.out.2.2.2.1 i hsix)
    have HG := Lib.hid (fun W (hW : (w2.alloc (cSp i ka kn kc)).grownBy W none) => show Calls Tryz.prog 63 #[.pointer (d1.ps i), .slice ka kn kc] W fun e w' => (∃ a c, e = .returned (.tuple #[.slice a rn c, .bool bb]) ∧ RwS (fun b => ¬ d1.M R D b) w' a r) ∧ W.grownBy w' none by
      have hg := g5.trans hW
      rw [hkn]
      refine (Get_any _ (d1.tr i) (d1.ps i) ka kc key W (ht1.keep (.of hg)) HT.out.1 (by have := HT.out.2; omega) (hkrow.keep (.of hg)).row hkrow.1).mono ?_
      rintro e w' ⟨he, hg'⟩
      refine ⟨?_, hg'⟩
      rcases he with ⟨a, c, r', rfl, hrw, hl⟩ | ⟨rfl, hl⟩
      · rw [hl] at hlk
        subst hlk
        simp at hr hbb
        subst hr
        rw [hrn, hbb]
        exact ⟨a, c, rfl, hrw.mono (fun b _ hb e => by have := (hd1.keepG hg).Mlt b e; omega)⟩
      · rw [hl] at hlk
        subst hlk
        simp at hr hbb
        subst hr
        rw [hrn, hbb]
        exact ⟨none, 0, rfl, by simp, by simp, .inl rfl⟩)
    have Hall := Lib.hid (And.intro hcm (And.intro hi (And.intro hd1 (And.intro ho1 (And.intro hb1 (And.intro hde (And.intro hrow2 (And.intro hkrow (And.intro hkn (And.intro hlk (And.intro hr (And.intro hrn hbb))))))))))))
    have G5 := Lib.hid g5
    clear HCl hcm hd1 ho1 hb1 hx x0 x1 x2 hblk c2i f2i hrow2 hkrow ht1 htr hps hkn g5 A5 hlk hr hrn hbb hde
    go_upto_region 4 with fail
    generalize w2.alloc (.cells #[.int .i64 i, .slice ka kn kc] 165) = w5 at *
    obtain ⟨⟨y0, y1⟩, ⟨x0, x2⟩, c2i, f2i⟩ := F5.out w5 (grown_reflT _ _)
    have i1 : (i : Int) < 6 := by omega
    have i2 : ¬ (i : Int) < 0 := by omega
    have C5 := Lib.hid (grown_drewT (grown_reflT w5 none))
    go_cut [7, 8] (fun s7 s8 wx => ∃ a c, s7 = .slice a rn c ∧ s8 = .bool bb ∧ Hid (w5.grownBy wx none ∧ RwS (fun b => ¬ d1.M R D b) wx a r))
    case first =>
      go_region_with (go_at_call 63; (with_reducible refine (HG.out _ (by first | exact C5.out | exact grown_reflT _ _)).mono ?_); rintro e w6 ⟨⟨a6, c6, rfl, hrw6⟩, hg6⟩; have G6 := Lib.hid (And.intro (C5.out.trans hg6) hrw6); clear hg6 hrw6)
      all_goals
        go_wp2_with fail
        go_meet
        exact ⟨a6, c6, rfl, rfl, G6⟩
    case rest =>
    obtain ⟨wa, wcap, rfl, rfl, E6⟩ := hcut
    clear y0 y1 x0 x2 c2i f2i HG
    obtain ⟨⟨y0, y1⟩, ⟨x0, x2⟩, c2i, f2i⟩ := F5.out _ E6.out.1
    by_cases hk2 : ok = 2
    · subst hk2
      cases bb with
      | false =>
        have HE := Lib.hid (show dm = .error 22 from HM.out.trans (doM_A (s := d.s) Hall.out.1 rfl (by
          obtain ⟨_, _, _, _, _, hde, _, _, _, hlk, _, _, hbb⟩ := Hall.out
          have e : d1.tr = d.tr := by rw [hde]
          rw [e] at hlk
          cases lk with
          | none => exact hlk.symm
          | some _ => simp at hbb)))
        clear y0 y1 c2i f2i F5
        go_wp2_with fail
        go_ret
        obtain ⟨_, _, _, ho1, _, _⟩ := Hall.out
        refine .inl ⟨22, HE.out, rfl, ?_⟩
        exact (((Only.of_none (M := fun k => k = D ∨ bk d.cha k ∨ bk d.spa k) G1.out).trans ho1 (fun k hk => .inl (hk.imp id .inr))).trans (Only.of_none (M := fun _ => False) (G5.out.trans E6.out.1)) (fun _ h => h.elim))
      | true =>
        have hgc := G5.out.trans E6.out.1
        have HDl := Lib.hid (fun W (hW : wc.grownBy W none) => show Calls Tryz.prog 64 #[.pointer (d1.ps i), .slice ka kn kc] W fun e w' => (∃ p, e = .returned (.pointer p) ∧ TrAt (fun b => ¬ d1.M R D b) w' (Tr.del rowsOrd key (d1.tr i)) p) ∧ W.grownBy w' none by
          obtain ⟨_, _, hd1, _, _, _, _, hkrow, hkn, _⟩ := Hall.out
          have hg := hgc.trans hW
          rw [hkn]
          exact Makes.calls (delete_any _ (d1.tr i) key ka kc (d1.ps i) W (fun b hb e => by have := (hd1.keepG hg).Mlt b e; omega) ((hd1.tre i (by omega)).keep (.of hg)) (hkrow.keep (.of hg)).row HT.out.1 (by have := HT.out.2; omega)))
        have C6 := Lib.hid (grown_drewT (grown_reflT wc none))
        have F6 := Lib.hid (fun W (hW : wc.grownBy W none) => F5.out W (E6.out.1.trans hW))
        go_upto_region 8 with fail
        go_cut [58] (fun s58 wx => ∃ p, s58 = .pointer p ∧ Hid (∃ w6, wc.grownBy w6 none ∧ TrAt (fun b => ¬ d1.M R D b) w6 (Tr.del rowsOrd key (d1.tr i)) p ∧ wx = w6.setCell ⟨D, 2 + i, none⟩ (.pointer p)))
        case first =>
          have FS := Lib.hid (fun W (hW : wc.grownBy W none) => show W.cell? ⟨w.heap.size, 2, none⟩ = some (.slice ra q rc) ∧ W.cell? ⟨w2.heap.size, 0, none⟩ = some (.int .i64 i) ∧ W.cell? ⟨w2.heap.size, 1, none⟩ = some (.slice ka kn kc) from ⟨(F6.out W hW).2.1.2, (F6.out W hW).1.1, (F6.out W hW).1.2⟩)
          refine wp_region_held_drew (S := (fun W => W.cell? ⟨w.heap.size, 2, none⟩ = some (.slice ra q rc) ∧ W.cell? ⟨w2.heap.size, 0, none⟩ = some (.int .i64 i) ∧ W.cell? ⟨w2.heap.size, 1, none⟩ = some (.slice ka kn kc))) (by kernel_rfl) (FS.out _ C6.out) (fun hHeld => ?_)
          refine wpAnyH_take (i := 0) (v := ?vd0) rfl (by kernel_rfl) (by kernel_rfl) (by kernel_rfl) (fun _ _ _ h => h) (Or.inl ⟨by rfl, ?yd0⟩) (by assumption) ?rd0
          case yd0 => (intro w hSw; (try dsimp only at hSw); go_simp; try with_reducible rfl)
          try simp only [Act.put, List.setIfInBounds_toArray]
          refine wpAnyH_take (i := 1) (v := ?vd1) rfl (by kernel_rfl) (by kernel_rfl) (by kernel_rfl) (fun _ _ _ h => h) (Or.inl ⟨by rfl, ?yd1⟩) (by assumption) ?rd1
          case yd1 => (intro w hSw; (try dsimp only at hSw); go_simp; try with_reducible rfl)
          try simp only [Act.put]
          refine wpAnyH_take (i := 2) (v := ?vd2) rfl (by kernel_rfl) (by kernel_rfl) (by kernel_rfl) (fun _ _ _ h => h) (Or.inl ⟨by rfl, ?yd2⟩) (by assumption) ?rd2
          case yd2 => (intro w hSw; (try dsimp only at hSw); go_simp; try with_reducible rfl)
          try simp only [Act.put]
          refine wpAnyH_take (i := 3) (v := ?vd3) rfl (by kernel_rfl) (by kernel_rfl) (by kernel_rfl) (fun _ _ _ h => h) (Or.inl ⟨by rfl, ?yd3⟩) (by assumption) ?rd3
          case yd3 => (intro w hSw; (try dsimp only at hSw); go_simp; try with_reducible rfl)
          try simp only [Act.put]
          refine wpAnyH_take (i := 4) (v := ?vd4) rfl (by kernel_rfl) (by kernel_rfl) (by kernel_rfl) (fun _ _ _ h => h) (Or.inl ⟨by rfl, ?yd4⟩) (by assumption) ?rd4
          case yd4 => (intro w hSw; (try dsimp only at hSw); go_simp; try with_reducible rfl)
          try simp only [Act.put]
          refine wpAnyH_take (i := 5) (v := ?vd5) rfl (by kernel_rfl) (by kernel_rfl) (by kernel_rfl) (fun _ _ _ h => h) (Or.inl ⟨by rfl, ?yd5⟩) (by assumption) ?rd5
          case yd5 => (intro w hSw; (try dsimp only at hSw); go_simp; try with_reducible rfl)
          try simp only [Act.put]
          refine wpAnyH_take (i := 6) (v := ?vd6) rfl (by kernel_rfl) (by kernel_rfl) (by kernel_rfl) (fun _ _ _ h => h) (Or.inl ⟨by rfl, ?yd6⟩) (by assumption) ?rd6
          case yd6 => (intro w hSw; (try dsimp only at hSw); go_simp; try with_reducible rfl)
          try simp only [Act.put]
          refine wpAnyH_take (i := 7) (v := ?vd7) rfl (by kernel_rfl) (by kernel_rfl) (by kernel_rfl) (fun _ _ _ h => h) (Or.inl ⟨by rfl, ?yd7⟩) (by assumption) ?rd7
          case yd7 => (intro w hSw; (try dsimp only at hSw); go_simp; try with_reducible rfl)
          try simp only [Act.put]
          refine wpAnyH_take (i := 8) (v := ?vd8) rfl (by kernel_rfl) (by kernel_rfl) (by kernel_rfl) (fun _ _ _ h => h) (Or.inl ⟨by rfl, ?yd8⟩) (by assumption) ?rd8
          case yd8 => (intro w hSw; (try dsimp only at hSw); go_simp; try with_reducible rfl)
          try simp only [Act.put]
          refine wpAnyH_take (i := 9) (v := ?vd9) rfl (by kernel_rfl) (by kernel_rfl) (by kernel_rfl) (fun _ _ _ h => h) (Or.inl ⟨by rfl, ?yd9⟩) (by assumption) ?rd9
          case yd9 => (intro w hSw; (try dsimp only at hSw); go_simp; try with_reducible rfl)
          try simp only [Act.put]
          refine wpAnyH_take (i := 11) (v := ?vd11) rfl (by kernel_rfl) (by kernel_rfl) (by kernel_rfl) (fun _ _ _ h => h) (Or.inl ⟨by rfl, ?yd11⟩) (by assumption) ?rd11
          case yd11 => (intro w hSw; (try dsimp only at hSw); go_simp; try with_reducible rfl)
          try simp only [Act.put]
          refine wpAnyH_take (i := 12) (v := ?vd12) rfl (by kernel_rfl) (by kernel_rfl) (by kernel_rfl) (fun _ _ _ h => h) (Or.inl ⟨by rfl, ?yd12⟩) (by assumption) ?rd12
          case yd12 => (intro w hSw; (try dsimp only at hSw); go_simp; try with_reducible rfl)
          try simp only [Act.put]
          refine wpAnyH_take (i := 14) (v := ?vd14) rfl (by kernel_rfl) (by kernel_rfl) (by kernel_rfl) (fun _ _ _ h => h) (Or.inl ⟨by rfl, ?yd14⟩) (by assumption) ?rd14
          case yd14 => (intro w hSw; (try dsimp only at hSw); go_simp; try with_reducible rfl)
          try simp only [Act.put]
          refine wpAnyH_take (i := 15) (v := ?vd15) rfl (by kernel_rfl) (by kernel_rfl) (by kernel_rfl) (fun _ _ _ h => h) (Or.inl ⟨by rfl, ?yd15⟩) (by assumption) ?rd15
          case yd15 => (intro w hSw; (try dsimp only at hSw); go_simp; try with_reducible rfl)
          try simp only [Act.put]
          refine wpAnyH_take (i := 16) (v := ?vd16) rfl (by kernel_rfl) (by kernel_rfl) (by kernel_rfl) (fun _ _ _ h => h) (Or.inl ⟨by rfl, ?yd16⟩) (by assumption) ?rd16
          case yd16 => (intro w hSw; (try dsimp only at hSw); go_simp; try with_reducible rfl)
          try simp only [Act.put]
          refine wpAnyH_ready (rs := [10]) (by kernel_rfl) (by simp) ?_
          refine AllReadyH.cons rfl (fun K' hK => ?_) AllReadyH.nil
          go_simp
          refine hK.out _ _ (FS.out _ C6.out) (fun hHeld => ?_)
          clear hK K'
          try simp only [Act.put, List.setIfInBounds_toArray, List.set_cons_zero, List.set_cons_succ]
          refine wpAnyH_ready (rs := [13]) (by kernel_rfl) (by simp) ?_
          refine AllReadyH.cons rfl (fun K' hK => ?_) AllReadyH.nil
          go_simp
          go_at_call 64
          refine (HDl.out _ C6.out).mono ?_
          rintro e w6 ⟨⟨p6, rfl, ht6⟩, hg6⟩
          have G6 := Lib.hid (And.intro (C6.out.trans hg6) ht6)
          obtain ⟨_, _, v2, v3⟩ := F6.out _ (C6.out.trans hg6)
          clear hg6 ht6
          refine hK.out _ _ (FS.out _ G6.out.1) (fun hHeld => ?_)
          clear hK K'
          try simp only [Act.put, List.setIfInBounds_toArray, List.set_cons_zero, List.set_cons_succ]
          refine wpAnyH_take (i := 17) (v := ?vd17) rfl (by kernel_rfl) (by kernel_rfl) (by kernel_rfl) (fun _ _ _ h => h) (Or.inl ⟨by rfl, ?yd17⟩) (by assumption) ?rd17
          case yd17 => (intro w hSw; (try dsimp only at hSw); go_simp; try with_reducible rfl)
          try simp only [Act.put, List.setIfInBounds_toArray]
          refine wpAnyH_ready (rs := [18]) (by kernel_rfl) (by simp) ?_
          refine AllReadyH.cons rfl (fun K' hK => ?_) AllReadyH.nil
          go_simp
          refine hK.out _ _ (three_set (FS.out _ G6.out.1) (by omega) (by omega) _ _) (fun hHeld => ?_)
          clear hK K'
          try simp only [Act.put, List.setIfInBounds_toArray, List.set_cons_zero, List.set_cons_succ]
          refine wpAnyH_done (by kernel_rfl) ?_ _
          go_wp2_with fail
          go_meet
          exact ⟨p6, rfl, Lib.hid ⟨w6, G6.out.1, G6.out.2, rfl⟩⟩
        case rest =>
        obtain ⟨p, rfl, E8⟩ := hcut
        rename World => wx
        obtain ⟨hd2, ho2, q0, q1, hro⟩ : DAt R wx D (d1.tree i p (Tr.del rowsOrd key (d1.tr i))) ∧ Only (fun k => k = D) w2 wx ∧ wx.cell? ⟨w2.heap.size, 0, none⟩ = some (.int .i64 i) ∧ wx.cell? ⟨w2.heap.size, 1, none⟩ = some (.slice ka kn kc) ∧ RwS (fun b => ¬ d1.M R D b) wx wa r := by
          obtain ⟨w6, hg6, ht6, hwx⟩ := E8.out
          obtain ⟨_, _, hd1, _⟩ := Hall.out
          obtain ⟨r1, r2⟩ := hd1.setTree (hgc.trans hg6) (by omega) ht6
          have hwl : D < w2.heap.size := hd1.lt
          rw [← hwx] at r1 r2
          obtain ⟨⟨v0, v1⟩, _⟩ := F6.out w6 hg6
          have hoo : Only (fun k => k = D) w6 wx := by rw [hwx]; exact (Only.refl (fun k => k = D) w6).set (.inl rfl) _ _
          exact ⟨r1, r2, hoo.cell v0 (by omega), hoo.cell v1 (by omega), (E6.out.2.keep (.of hg6)).keep (hoo.stays (fun b hb _ e => hb (.inl e)))⟩
        have HCh := Lib.hid (change_any R D (d1.tree i p (Tr.del rowsOrd key (d1.tr i))) i ka kn kc ⟨wa, wcap, r⟩ ⟨none, 0, []⟩ wx hd2 (by
          obtain ⟨_, hi, _, _, _, hde, _⟩ := Hall.out
          rw [hde]; exact hi) (by
          obtain ⟨_, hi, _, _, _, hde, _⟩ := Hall.out
          rw [hde]; exact HL.out.1) (by
          obtain ⟨_, hi, _, _, _, hde, _⟩ := Hall.out
          rw [hde]; have := HL.out.2.2.1; simp only [Dm.tree]; omega) hro ⟨by simp, by simp, .inl rfl⟩)
        simp only [Rw.v, List.length_nil] at HCh
        have hrn : List.length r = rn := by obtain ⟨_, _, _, _, _, _, _, _, _, _, _, hrn, _⟩ := Hall.out; exact hrn.symm
        rw [hrn] at HCh
        have Z := Lib.hid ho2
        clear hd2 ho2 hro E8 F6 HDl hrn c2i f2i y0 y1 x0 x2
        go_wp2_with fail
        refine HCh.out.mono ?_
        rintro e w9 ⟨rfl, cha, chc, hd3, ho3, hb3⟩
        have Z3 := Lib.hid (And.intro hd3 (And.intro ho3 hb3))
        clear hd3 ho3 hb3
        go_wp2_with fail
        go_ret
        obtain ⟨hcm, hi, hd1, ho1, hb1, hde, _, _, _, hlk, hr, _, hbb⟩ := Hall.out
        obtain ⟨hd3, ho3, hb3⟩ := Z3.out
        refine .inr ⟨_, HM.out.trans ?_, rfl, next_end (d1 := d1) hde G1.out ho1 hb1 Z.out (by
          subst hde; exact ho3) hd3 (by subst hde; rfl) (by subst hde; rfl) (by subst hde; rfl) (by subst hde; rfl) (by subst hde; simp [Dm.tree]) (by subst hde; rfl) (by subst hde; rfl) (by subst hde; exact hb3)⟩
        subst hde
        have hlk2 : lookL key (d.s.tr i).toL = some r := by
          cases lk with
          | none => simp at hbb
          | some _ => simp at hr; subst hr; exact hlk.symm
        rw [doM_B (s := d.s) hcm rfl hlk2]
        simp [Dm.s, Dm.tree, Cg.p, Spt.p]
    · have hk2' : (ok == 2) = false := by simpa using hk2
      have Hk2 := Lib.hid hk2
      clear hk2
      have hgc := G5.out.trans E6.out.1
      have Hgc := Lib.hid hgc
      obtain ⟨bs, hbs⟩ : ∃ bs, bs = (rowsOrd r rl == 0) := ⟨_, rfl⟩
      have HS := Lib.hid (show Calls Tryz.prog 66 #[.slice wa rn wcap, .slice ra q rc] wc fun e w' => e = .returned (.bool bs) ∧ wc.grownBy w' none by
        obtain ⟨_, _, _, _, _, _, hrow2, _, _, _, _, hrn, _⟩ := Hall.out
        rw [hrn, Hq.out, hbs]
        exact valSame_any wa ra wcap rc r rl wc E6.out.2.row (hrow2.keep (.of hgc)).row)
      have Hbs := Lib.hid hbs
      clear hbs hgc
      go_upto_region 10 with fail
      go_cut [67] (fun s67 wx => s67 = .bool (!bs) ∧ Hid (wc.grownBy wx none))
      case first =>
        go_wp2_with fail
        refine HS.out.mono ?_
        rintro e w6 ⟨rfl, hg6⟩
        have G6 := Lib.hid hg6
        clear hg6
        go_wp2_with fail
        go_meet
        exact ⟨rfl, G6⟩
      case rest =>
      obtain ⟨rfl, E7⟩ := hcut
      rename World => wy
      have hne : rl ≠ [] := by
        obtain ⟨hcm, hi, _⟩ := Hall.out
        have h1 := keyM_len (claimM_ok hcm).1 Hk2.out
        have h2 := HC.out.tab i hi
        intro e
        rw [e] at h1
        have h3 : (0 : Nat) = (d.ts.getD i default).l.length := h1
        omega
      have F6 := Lib.hid (fun W (hW : wy.grownBy W none) => F5.out W (E6.out.1.trans (E7.out.trans hW)))
      have hgy := Hgc.out.trans E7.out
      clear y0 y1 x0 x2 c2i f2i
      obtain ⟨⟨y0, y1⟩, ⟨x0, x2⟩, c2i, f2i⟩ := F6.out wy (grown_reflT _ _)
      cases bs with
      | true =>
        have hrr : r = rl := (ro_zero _ _).1 (by simpa using Hbs.out.symm)
        clear y0 y1 x0 x2 c2i f2i F5 F6
        go_wp2_with fail
        go_ret
        obtain ⟨hcm, hi, hd1, ho1, hb1, hde, _, _, _, hlk, hr, _, hbb⟩ := Hall.out
        refine .inr ⟨d1, HM.out.trans ?_, rfl, next_end (d1 := d1) hde G1.out ho1 hb1 (Only.of_none (M := fun k => k = D) hgy) (Only.refl _ _) (hd1.keepG hgy) (by subst hde; rfl) (by subst hde; rfl) (by subst hde; rfl) (by subst hde; rfl) (by subst hde; simp) rfl (by subst hde; rfl) (fun k hk => .inl (by subst hde; exact hk))⟩
        subst hde
        have hlk2 : lookL key (d.s.tr i).toL = some r := by
          cases lk with
          | none => simp at hr; rw [hr] at hrr; exact absurd hrr.symm hne
          | some _ => simp at hr; subst hr; exact hlk.symm
        rw [doM_C (s := d.s) hcm Hk2.out hlk2 hrr]
        simp [Dm.s, Spt.p]
      | false =>
        have hrr : r ≠ rl := fun e => by
          have := Hbs.out
          rw [(ro_zero r rl).2 e] at this
          simp at this
        have HPt := Lib.hid (fun W (hW : wy.grownBy W none) => show Calls Tryz.prog 67 #[.pointer (d1.ps i), .slice ka kn kc, .slice ra q rc] W fun e w' => (∃ p, e = .returned (.pointer p) ∧ TrAt (fun b => ¬ d1.M R D b) w' (Tr.put rowsOrd key rl (d1.tr i)) p) ∧ W.grownBy w' none by
          obtain ⟨_, _, hd1, _, _, _, hrow2, hkrow, hkn, _⟩ := Hall.out
          have hg := hgy.trans hW
          rw [hkn, Hq.out]
          exact Makes.calls (Put_any _ (d1.tr i) (d1.ps i) ka ra kc rc key rl W (fun b hb e => by have := (hd1.keepG hg).Mlt b e; omega) ((hd1.tre i (by omega)).keep (.of hg)) (hkrow.keep (.of hg)).row (hrow2.keep (.of hg)).row hkrow.1 hrow2.1 (by have := HT.out.2; omega)))
        have C6 := Lib.hid (grown_drewT (grown_reflT wy none))
        have Hgy := Lib.hid (And.intro hgy hrr)
        have Hne := Lib.hid hne
        clear hgy hrr hne F5 HS
        go_upto_region 11 with fail
        go_cut [88] (fun s88 wx => ∃ p, s88 = .pointer p ∧ Hid (∃ w6, wy.grownBy w6 none ∧ TrAt (fun b => ¬ d1.M R D b) w6 (Tr.put rowsOrd key rl (d1.tr i)) p ∧ wx = w6.setCell ⟨D, 2 + i, none⟩ (.pointer p)))
        case first =>
          have FS := Lib.hid (fun W (hW : wy.grownBy W none) => show W.cell? ⟨w.heap.size, 2, none⟩ = some (.slice ra q rc) ∧ W.cell? ⟨w2.heap.size, 0, none⟩ = some (.int .i64 i) ∧ W.cell? ⟨w2.heap.size, 1, none⟩ = some (.slice ka kn kc) from ⟨(F6.out W hW).2.1.2, (F6.out W hW).1.1, (F6.out W hW).1.2⟩)
          refine wp_region_held_drew (S := (fun W => W.cell? ⟨w.heap.size, 2, none⟩ = some (.slice ra q rc) ∧ W.cell? ⟨w2.heap.size, 0, none⟩ = some (.int .i64 i) ∧ W.cell? ⟨w2.heap.size, 1, none⟩ = some (.slice ka kn kc))) (by kernel_rfl) (FS.out _ C6.out) (fun hHeld => ?_)
          refine wpAnyH_take (i := 0) (v := ?vb0) rfl (by kernel_rfl) (by kernel_rfl) (by kernel_rfl) (fun _ _ _ h => h) (Or.inl ⟨by rfl, ?yb0⟩) (by assumption) ?rb0
          case yb0 => (intro w hSw; (try dsimp only at hSw); go_simp; try with_reducible rfl)
          try simp only [Act.put, List.setIfInBounds_toArray]
          refine wpAnyH_take (i := 1) (v := ?vb1) rfl (by kernel_rfl) (by kernel_rfl) (by kernel_rfl) (fun _ _ _ h => h) (Or.inl ⟨by rfl, ?yb1⟩) (by assumption) ?rb1
          case yb1 => (intro w hSw; (try dsimp only at hSw); go_simp; try with_reducible rfl)
          try simp only [Act.put]
          refine wpAnyH_take (i := 2) (v := ?vb2) rfl (by kernel_rfl) (by kernel_rfl) (by kernel_rfl) (fun _ _ _ h => h) (Or.inl ⟨by rfl, ?yb2⟩) (by assumption) ?rb2
          case yb2 => (intro w hSw; (try dsimp only at hSw); go_simp; try with_reducible rfl)
          try simp only [Act.put]
          refine wpAnyH_take (i := 3) (v := ?vb3) rfl (by kernel_rfl) (by kernel_rfl) (by kernel_rfl) (fun _ _ _ h => h) (Or.inl ⟨by rfl, ?yb3⟩) (by assumption) ?rb3
          case yb3 => (intro w hSw; (try dsimp only at hSw); go_simp; try with_reducible rfl)
          try simp only [Act.put]
          refine wpAnyH_take (i := 4) (v := ?vb4) rfl (by kernel_rfl) (by kernel_rfl) (by kernel_rfl) (fun _ _ _ h => h) (Or.inl ⟨by rfl, ?yb4⟩) (by assumption) ?rb4
          case yb4 => (intro w hSw; (try dsimp only at hSw); go_simp; try with_reducible rfl)
          try simp only [Act.put]
          refine wpAnyH_take (i := 5) (v := ?vb5) rfl (by kernel_rfl) (by kernel_rfl) (by kernel_rfl) (fun _ _ _ h => h) (Or.inl ⟨by rfl, ?yb5⟩) (by assumption) ?rb5
          case yb5 => (intro w hSw; (try dsimp only at hSw); go_simp; try with_reducible rfl)
          try simp only [Act.put]
          refine wpAnyH_take (i := 6) (v := ?vb6) rfl (by kernel_rfl) (by kernel_rfl) (by kernel_rfl) (fun _ _ _ h => h) (Or.inl ⟨by rfl, ?yb6⟩) (by assumption) ?rb6
          case yb6 => (intro w hSw; (try dsimp only at hSw); go_simp; try with_reducible rfl)
          try simp only [Act.put]
          refine wpAnyH_take (i := 7) (v := ?vb7) rfl (by kernel_rfl) (by kernel_rfl) (by kernel_rfl) (fun _ _ _ h => h) (Or.inl ⟨by rfl, ?yb7⟩) (by assumption) ?rb7
          case yb7 => (intro w hSw; (try dsimp only at hSw); go_simp; try with_reducible rfl)
          try simp only [Act.put]
          refine wpAnyH_take (i := 8) (v := ?vb8) rfl (by kernel_rfl) (by kernel_rfl) (by kernel_rfl) (fun _ _ _ h => h) (Or.inl ⟨by rfl, ?yb8⟩) (by assumption) ?rb8
          case yb8 => (intro w hSw; (try dsimp only at hSw); go_simp; try with_reducible rfl)
          try simp only [Act.put]
          refine wpAnyH_take (i := 9) (v := ?vb9) rfl (by kernel_rfl) (by kernel_rfl) (by kernel_rfl) (fun _ _ _ h => h) (Or.inl ⟨by rfl, ?yb9⟩) (by assumption) ?rb9
          case yb9 => (intro w hSw; (try dsimp only at hSw); go_simp; try with_reducible rfl)
          try simp only [Act.put]
          refine wpAnyH_take (i := 11) (v := ?vb11) rfl (by kernel_rfl) (by kernel_rfl) (by kernel_rfl) (fun _ _ _ h => h) (Or.inl ⟨by rfl, ?yb11⟩) (by assumption) ?rb11
          case yb11 => (intro w hSw; (try dsimp only at hSw); go_simp; try with_reducible rfl)
          try simp only [Act.put]
          refine wpAnyH_take (i := 12) (v := ?vb12) rfl (by kernel_rfl) (by kernel_rfl) (by kernel_rfl) (fun _ _ _ h => h) (Or.inl ⟨by rfl, ?yb12⟩) (by assumption) ?rb12
          case yb12 => (intro w hSw; (try dsimp only at hSw); go_simp; try with_reducible rfl)
          try simp only [Act.put]
          refine wpAnyH_take (i := 13) (v := ?vb13) rfl (by kernel_rfl) (by kernel_rfl) (by kernel_rfl) (fun _ _ _ h => h) (Or.inl ⟨by rfl, ?yb13⟩) (by assumption) ?rb13
          case yb13 => (intro w hSw; (try dsimp only at hSw); go_simp; try with_reducible rfl)
          try simp only [Act.put]
          refine wpAnyH_take (i := 14) (v := ?vb14) rfl (by kernel_rfl) (by kernel_rfl) (by kernel_rfl) (fun _ _ _ h => h) (Or.inl ⟨by rfl, ?yb14⟩) (by assumption) ?rb14
          case yb14 => (intro w hSw; (try dsimp only at hSw); go_simp; try with_reducible rfl)
          try simp only [Act.put]
          refine wpAnyH_take (i := 16) (v := ?vb16) rfl (by kernel_rfl) (by kernel_rfl) (by kernel_rfl) (fun _ _ _ h => h) (Or.inl ⟨by rfl, ?yb16⟩) (by assumption) ?rb16
          case yb16 => (intro w hSw; (try dsimp only at hSw); go_simp; try with_reducible rfl)
          try simp only [Act.put]
          refine wpAnyH_take (i := 17) (v := ?vb17) rfl (by kernel_rfl) (by kernel_rfl) (by kernel_rfl) (fun _ _ _ h => h) (Or.inl ⟨by rfl, ?yb17⟩) (by assumption) ?rb17
          case yb17 => (intro w hSw; (try dsimp only at hSw); go_simp; try with_reducible rfl)
          try simp only [Act.put]
          refine wpAnyH_take (i := 18) (v := ?vb18) rfl (by kernel_rfl) (by kernel_rfl) (by kernel_rfl) (fun _ _ _ h => h) (Or.inl ⟨by rfl, ?yb18⟩) (by assumption) ?rb18
          case yb18 => (intro w hSw; (try dsimp only at hSw); go_simp; try with_reducible rfl)
          try simp only [Act.put]
          refine wpAnyH_ready (rs := [10]) (by kernel_rfl) (by simp) ?_
          refine AllReadyH.cons rfl (fun K' hK => ?_) AllReadyH.nil
          go_simp
          refine hK.out _ _ (FS.out _ C6.out) (fun hHeld => ?_)
          clear hK K'
          try simp only [Act.put, List.setIfInBounds_toArray, List.set_cons_zero, List.set_cons_succ]
          refine wpAnyH_ready (rs := [15]) (by kernel_rfl) (by simp) ?_
          refine AllReadyH.cons rfl (fun K' hK => ?_) AllReadyH.nil
          go_simp
          go_at_call 67
          refine (HPt.out _ C6.out).mono ?_
          rintro e w6 ⟨⟨p6, rfl, ht6⟩, hg6⟩
          have G6 := Lib.hid (And.intro (C6.out.trans hg6) ht6)
          obtain ⟨_, _, v2, v3⟩ := F6.out _ (C6.out.trans hg6)
          clear hg6 ht6
          refine hK.out _ _ (FS.out _ G6.out.1) (fun hHeld => ?_)
          clear hK K'
          try simp only [Act.put, List.setIfInBounds_toArray, List.set_cons_zero, List.set_cons_succ]
          refine wpAnyH_take (i := 19) (v := ?vb19) rfl (by kernel_rfl) (by kernel_rfl) (by kernel_rfl) (fun _ _ _ h => h) (Or.inl ⟨by rfl, ?yb19⟩) (by assumption) ?rb19
          case yb19 => (intro w hSw; (try dsimp only at hSw); go_simp; try with_reducible rfl)
          try simp only [Act.put, List.setIfInBounds_toArray]
          refine wpAnyH_ready (rs := [20]) (by kernel_rfl) (by simp) ?_
          refine AllReadyH.cons rfl (fun K' hK => ?_) AllReadyH.nil
          go_simp
          refine hK.out _ _ (three_set (FS.out _ G6.out.1) (by omega) (by omega) _ _) (fun hHeld => ?_)
          clear hK K'
          try simp only [Act.put, List.setIfInBounds_toArray, List.set_cons_zero, List.set_cons_succ]
          refine wpAnyH_done (by kernel_rfl) ?_ _
          go_wp2_with fail
          go_meet
          exact ⟨p6, rfl, Lib.hid ⟨w6, G6.out.1, G6.out.2, rfl⟩⟩
        case rest =>
        obtain ⟨p, rfl, E8⟩ := hcut
        rename World => wx
        obtain ⟨hgy, hrr⟩ := Hgy.out
        obtain ⟨hd2, ho2, q0, q1, q2, hro, hrr2⟩ : DAt R wx D (d1.tree i p (Tr.put rowsOrd key rl (d1.tr i))) ∧ Only (fun k => k = D) w2 wx ∧ wx.cell? ⟨w2.heap.size, 0, none⟩ = some (.int .i64 i) ∧ wx.cell? ⟨w2.heap.size, 1, none⟩ = some (.slice ka kn kc) ∧ wx.cell? ⟨w.heap.size, 2, none⟩ = some (.slice ra q rc) ∧ RwS (fun b => ¬ d1.M R D b) wx wa r ∧ RwS (fun b => ¬ d1.M R D b) wx ra rl := by
          obtain ⟨w6, hg6, ht6, hwx⟩ := E8.out
          obtain ⟨_, _, hd1, _, _, _, hrow2, _⟩ := Hall.out
          obtain ⟨r1, r2⟩ := hd1.setTree (hgy.trans hg6) (by omega) ht6
          have hwl : D < w2.heap.size := hd1.lt
          rw [← hwx] at r1 r2
          obtain ⟨⟨v0, v1⟩, ⟨_, v2⟩, _⟩ := F6.out w6 hg6
          have hoo : Only (fun k => k = D) w6 wx := by rw [hwx]; exact (Only.refl (fun k => k = D) w6).set (.inl rfl) _ _
          exact ⟨r1, r2, hoo.cell v0 (by omega), hoo.cell v1 (by omega), hoo.cell v2 (by omega), (E6.out.2.keep (.of (E7.out.trans hg6))).keep (hoo.stays (fun b hb _ e => hb (.inl e))), (hrow2.keep (.of (hgy.trans hg6))).keep (hoo.stays (fun b hb _ e => hb (.inl e)))⟩
        have HCln := Lib.hid (fun W (hW : wx.grownBy W none) => show Calls Tryz.prog 68 #[.slice ra q rc] W fun e w' => (∃ a' cap', e = .returned (.slice a' q cap') ∧ RwS (fun b => ¬ d1.M R D b) w' a' rl) ∧ W.grownBy w' none by
          rw [Hq.out]
          refine (clone_any (fun b => ¬ (d1.tree i p (Tr.put rowsOrd key rl (d1.tr i))).M R D b) ra rc rl W (hrr2.keep (.of hW)).row hrr2.1 (fun b hb e => by have := (hd2.keepG hW).Mlt b e; omega)).mono ?_
          rintro e w' ⟨⟨a', c', rfl, _, hrw⟩, hg⟩
          exact ⟨⟨a', c', rfl, hrw⟩, hg⟩)
        have HCh := Lib.hid (fun W (hW : wx.grownBy W none) a' c' (hrw : RwS (fun b => ¬ d1.M R D b) W a' rl) => change_any R D (d1.tree i p (Tr.put rowsOrd key rl (d1.tr i))) i ka kn kc ⟨wa, wcap, r⟩ ⟨a', c', rl⟩ W (hd2.keepG hW) (by
          obtain ⟨_, hi, _, _, _, hde, _⟩ := Hall.out
          rw [hde]; exact hi) (by
          obtain ⟨_, hi, _, _, _, hde, _⟩ := Hall.out
          rw [hde]; exact HL.out.1) (by
          obtain ⟨_, hi, _, _, _, hde, _⟩ := Hall.out
          rw [hde]; have := HL.out.2.2.1; simp only [Dm.tree]; omega) (hro.keep (.of hW)) hrw)
        simp only [Rw.v] at HCh
        have hrn : List.length r = rn := by obtain ⟨_, _, _, _, _, _, _, _, _, _, _, hrn, _⟩ := Hall.out; exact hrn.symm
        rw [hrn, ← Hq.out] at HCh
        have Z := Lib.hid (And.intro ho2 hrr)
        clear hd2 ho2 hro hrr2 E8 F6 HPt hrn c2i f2i y0 y1 x0 x2 hrr
        have C9 := Lib.hid (grown_drewT (grown_reflT wx none))
        have FX := Lib.hid (fun W (hW : wx.grownBy W none) => show W.cell? ⟨w2.heap.size, 0, none⟩ = some (.int .i64 i) ∧ W.cell? ⟨w2.heap.size, 1, none⟩ = some (.slice ka kn kc) ∧ W.cell? ⟨w.heap.size, 2, none⟩ = some (.slice ra q rc) from ⟨hW.cell q0 (by simp), hW.cell q1 (by simp), hW.cell q2 (by simp)⟩)
        go_wp2_with fail
        go_region_with (first
          | (go_at_call 68; (with_reducible refine (HCln.out _ (by first | exact C9.out | exact grown_reflT _ _)).mono ?_); rintro e w7 ⟨⟨a7, c7, rfl, hrw7⟩, hg7⟩; have G7 := Lib.hid (C9.out.trans hg7); have HCh7 := Lib.hid (HCh.out _ (C9.out.trans hg7) a7 c7 hrw7); obtain ⟨v0, v1, v2⟩ := FX.out _ (C9.out.trans hg7); clear hg7 hrw7)
          | (go_at_call 65; (with_reducible refine HCh7.out.mono ?_); rintro e w9 ⟨rfl, cha, chc, hd3, ho3, hb3⟩; have Z3 := Lib.hid (And.intro hd3 (And.intro ho3 hb3)); clear hd3 ho3 hb3))
        all_goals
          go_wp2_with fail
          go_ret
          obtain ⟨hcm, hi, hd1, ho1, hb1, hde, _, _, _, hlk, hr, _, hbb⟩ := Hall.out
          obtain ⟨hd3, ho3, hb3⟩ := Z3.out
          refine .inr ⟨_, HM.out.trans ?_, rfl, next_end (d1 := d1) hde G1.out ho1 hb1 Z.out.1 ((Only.of_none G7.out).trans (by subst hde; exact ho3) (fun k hk => .inl hk)) hd3 (by subst hde; rfl) (by subst hde; rfl) (by subst hde; rfl) (by subst hde; rfl) (by subst hde; simp [Dm.tree]) (by subst hde; rfl) (by subst hde; rfl) (fun k hk => (hb3 k hk).imp (fun h => by subst hde; exact h) (fun h => Nat.le_trans G7.out.size h))⟩
          subst hde
          rw [doM_E (s := d.s) hcm Hk2.out hlk.symm (by rw [← hr]; exact Z.out.2)]
          simp [Dm.s, Dm.tree, Cg.p, Spt.p, hr]
end Go.Proofs.YtnfpomjcofhppaaGreatDoor
