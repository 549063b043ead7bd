/- The draft's change. -/
import Derived.Test.YtnfpomjcofhppaaGreatDoorZb28
namespace Go.Proofs.YtnfpomjcofhppaaGreatDoor
open Go.RowKit

theorem froz_of9 {w : World} {b : Nat} {cs : Array Value} {T : TypeId} (h : w.heap[b]? = some (.cells cs T (0, 0))) (o : Nat) : w.frozen? ⟨b, o, none⟩ = false := by simp [World.frozen?, h]
theorem DAt.changed {R : Nat → Prop} {w W2 w4 wf : World} {D : Nat} {d : Dm} {N : ByteArray} {cha : Ptr} {chc : Nat} {o n : Rw} (h : DAt R w D d) (hg : w.grownBy W2 none) (ho : RwS (fun b => ¬ d.M R D b) w o.a o.l) (hn : RwS (fun b => ¬ d.M R D b) w n.a n.l)
    (h4 : W2.grownBy w4 (Value.slice d.cha d.ch.length d.chc).ownBlock) (hb4 : ∀ k, bk cha k → bk d.cha k ∨ W2.heap.size ≤ k)
    (hD : wf.heap[D]? = some (.cells (dC d.ca d.ts.length d.cc d.ver d.ps cha (d.ch.length + 1) chc d.spa d.sp.length d.spc) 86 (0, 0))) (hf : Only (fun k => k = D) w4 wf) (hof : wf.ownsRow (D + 1) 59 3 (.slice cha (d.ch.length + 1) chc) (d.ch.length + 1) (d.ch.flatMap Cg.c ++ [.string N, o.v, n.v])) :
    DAt R wf D { d with cha := cha, chc := chc, ch := d.ch ++ [⟨N, o, n⟩] } ∧ Only (fun k => k = D ∨ bk d.cha k) w wf ∧ ∀ k, bk cha k → bk d.cha k ∨ w.heap.size ≤ k := by
  have hsz := hg.size
  have ho1 : Only (fun k => k = D ∨ bk d.cha k) w wf := ((Only.of_none hg).grown h4 (fun j hj => .inl (.inr ((bk_own _ _ _ _).1 hj)))).trans hf (fun k hk => .inl (.inl hk))
  have hbk : ∀ k, bk cha k → bk d.cha k ∨ w.heap.size ≤ k := fun k hk => (hb4 k hk).imp id (fun e => by omega)
  have hap := h.apart
  have hown' := h.own
  have ho2 : Only (fun k => k = D ∨ bk d.cha k ∨ bk d.spa k) w wf := ho1.mono (fun k _ hk => hk.imp id .inl)
  obtain ⟨m1, m2⟩ := h.move (d' := { d with cha := cha, chc := chc, ch := d.ch ++ [⟨N, o, n⟩] }) ho2 hbk (fun k e => .inl e)
  refine ⟨h.step ho2 hbk (fun k e => .inl e) rfl rfl (by simpa using hD) (fun _ _ => .inl ⟨rfl, rfl⟩) (by simpa [Cg.c] using hof) (fun x hx => ?_) ?_ (fun _ hx => .inl hx), ho1, hbk⟩
  · simp only [List.mem_append, List.mem_singleton] at hx
    rcases hx with hx | rfl
    · exact .inl hx
    · exact .inr ⟨((ho.mono m1).keep m2).mono (fun b _ hb => hb.2), ((hn.mono m1).keep m2).mono (fun b _ hb => hb.2)⟩
  · refine own_only h.osp ho1 (fun g hg e => ?_)
    have hgc := (bk_own _ _ _ _).1 hg
    rcases e with e | e
    · have := hown'.2 g hgc; omega
    · exact hap g e hgc
def Changed (R : Nat → Prop) (D : Nat) (d : Dm) (N : ByteArray) (o n : Rw) (w : World) (e : Ending) (w' : World) : Prop :=
  e = .returned (.tuple #[]) ∧ ∃ cha chc, DAt R w' D { d with cha := cha, chc := chc, ch := d.ch ++ [⟨N, o, n⟩] } ∧ Only (fun k => k = D ∨ bk d.cha k) w w' ∧ ∀ k, bk cha k → bk d.cha k ∨ w.heap.size ≤ k
abbrev cCg (N : ByteArray) (o n : Value) : Obj := .cells #[.string N, o, n] 59
set_option maxRecDepth 100000 in
set_option maxHeartbeats 12800000 in
theorem change_any (R : Nat → Prop) (D : Nat) (d : Dm) (i : Nat) (ka : Ptr) (kn kc : Nat) (o n : Rw) (w : World) (h : DAt R w D d) (hi : i < d.ts.length) (hcc : d.ts.length ≤ d.cc) (hl : d.ch.length ≤ 1000) (ho : RwS (fun b => ¬ d.M R D b) w o.a o.l) (hn : RwS (fun b => ¬ d.M R D b) w n.a n.l) :
    Calls Tryz.prog 65 #[.pointer (some ⟨D, 0, none⟩), .agg #[.int .i64 i, .slice ka kn kc], o.v, n.v] w (Changed R D d (d.ts.getD i default).n o n w) := by
  have HD := Lib.hid h
  have HN := Lib.hid (And.intro ho hn)
  have hlt := h.lt
  have hblk := h.blk
  unfold dC at hblk
  obtain ⟨tb, toff, hta, htl, t0, _, _⟩ := h.cat.at hi
  obtain ⟨N, hN⟩ : ∃ N, N = (d.ts.getD i default).n := ⟨_, rfl⟩
  rw [← hN] at t0 ⊢
  obtain ⟨nt, hnt⟩ : ∃ n, n = d.ts.length := ⟨_, rfl⟩
  obtain ⟨ns, hns⟩ : ∃ n, n = d.sp.length := ⟨_, rfl⟩
  obtain ⟨nc, hnc⟩ : ∃ n, n = d.ch.length := ⟨_, rfl⟩
  rw [← hnt, ← hns, ← hnc, hta] at hblk
  have c0 : w.cell? ⟨D, 0, none⟩ = some (.slice (some ⟨tb, toff, none⟩) nt d.cc) := cell_of_row _ _ 0 _ _ _ hblk
  have c8 : w.cell? ⟨D, 8, none⟩ = some (.slice d.cha nc d.chc) := cell_of_row _ _ 8 _ _ _ hblk
  have f8 := froz_of9 hblk 8
  have HO : Hid (∀ W, w.grownBy W none → W.ownsRow (D + 1) 59 3 (.slice d.cha nc d.chc) nc (d.ch.flatMap Cg.c)) := Lib.hid fun W hW => by
    have := (h.keepG hW).och
    rw [← hnc] at this
    exact this
  have Hnb := Lib.hid (fun k (hk : (Value.slice d.cha nc d.chc).ownBlock = some k) => show k < w.heap.size ∧ D < k from ⟨(World.ownsRow.lt h.och k ((bk_own _ _ _ _).2 ((bk_own _ _ _ _).1 hk))).2, h.own.1 k ((bk_own _ _ _ _).1 hk)⟩)
  obtain ⟨oa, oc, ol⟩ := o
  obtain ⟨na, nnc, nl⟩ := n
  simp only [Rw.v]
  obtain ⟨q1, hq1⟩ : ∃ q, q = ol.length := ⟨_, rfl⟩
  obtain ⟨q2, hq2⟩ : ∃ q, q = nl.length := ⟨_, rfl⟩
  have i1 : (i : Int) < nt := by omega
  have i2 : (i : Int) ≤ d.cc := by omega
  have i3 : ¬ (i : Int) < 0 := by omega
  have hnc2 : nc ≤ 1000 := by omega
  have Hl := Lib.hid (And.intro hnt (And.intro hns (And.intro hnc (And.intro hq1 (And.intro hq2 hta)))))
  rw [← hq1, ← hq2]
  have A1 := heap_alloc_new w (cSp i ka kn kc)
  have g1 := World.grownBy_alloc w (cSp i ka kn kc) none
  have q0 : (w.alloc (cSp i ka kn kc)).cell? ⟨w.heap.size, 0, none⟩ = some (.int .i64 i) := cell_of_row _ _ 0 _ _ _ A1
  have c0' := g1.cell c0 (by simp)
  have c8' := g1.cell c8 (by simp)
  have t0' := g1.cell t0 (by simp)
  have f8' := (World.frozen?_of_block (a := ⟨D, 8, none⟩) (g1.block D hlt (by simp))).trans f8
  have hs1 : w.heap.size < (w.alloc (cSp i ka kn kc)).heap.size := by simp
  have G1 := Lib.hid g1
  clear h hi hcc hl ho hn hblk hta hN hnt hns hnc c0 c8 t0 f8 hq1 hq2 A1 g1
  go_enter Tryz.func65, Tryz.ntmps65
  go_upto_region 1 with fail
  generalize w.alloc (.cells #[.int .i64 i, .slice ka kn kc] 165) = w1 at *
  obtain ⟨i0, hi0, hz0, hz1, hz2⟩ := info_partsT cg_info
  have c8a := fun o => (World.grownBy_alloc w1 o none).cell c8' (by simp)
  have hD1 : D + 1 ≤ w1.heap.size := by omega
  go_region_law (first
      | (refine step_append_lies _ (by rfl) (.tmp 12) (.tmp 26) 34 (by rfl) (D + 1) 59 i0 (.agg #[.string ⟨#[]⟩, .slice none 0 0, .slice none 0 0]) 3 64 Tryz.underlying34 hi0 hz0 hz1 hz2 rfl (by decide) (.slice d.cha nc d.chc) nc (d.ch.flatMap Cg.c) (by rfl) (HO.out _ (G1.out.trans (grown_drewT (World.grownBy_alloc w1 (cCg N (.slice oa q1 oc) (.slice na q2 nnc)) none)))) ⟨w1.heap.size, 0, none⟩ 1 1 [.string N, .slice oa q1 oc, .slice na q2 nnc] (by rfl) rfl (World.news_of_block (heap_alloc_new w1 (cCg N (.slice oa q1 oc) (.slice na q2 nnc)))) (by intro u hu; simp only [List.mem_cons, List.not_mem_nil, or_false] at hu; rcases hu with rfl | rfl | rfl <;> rfl) (by decide) (by unfold maxLen; omega) (by omega) (Nat.le_trans hD1 (grown_drewT (World.grownBy_alloc w1 (cCg N (.slice oa q1 oc) (.slice na q2 nnc)) none)).size) _ rfl ?_
         intro g4 cp4 w4 hown4 hgrow4 hat4 hlt4
         have HG := Lib.hid (grown_drewT (World.grownBy_alloc w1 (cCg N (.slice oa q1 oc) (.slice na q2 nnc)) none))
         have hDn : (Value.slice d.cha nc d.chc).ownBlock ≠ some D := fun e => by have := (Hnb.out D e).2; omega
         have d9' := (World.cell?_of_block (a := ⟨D, 8, none⟩) (hgrow4.block D (Nat.lt_of_lt_of_le hD1 HG.out.size) (fun e => hDn e.symm))).trans (HG.out.cell c8' (by simp))
         have e9' := (World.frozen?_of_block (a := ⟨D, 8, none⟩) (hgrow4.block D (Nat.lt_of_lt_of_le hD1 HG.out.size) (fun e => hDn e.symm))).trans ((World.frozen?_of_block (a := ⟨D, 8, none⟩) (HG.out.block D hD1 (by simp))).trans f8')
         have E4 := Lib.hid (And.intro hown4 (And.intro hgrow4 (And.intro hat4 hlt4)))
         clear hown4 hgrow4 hat4 hlt4 hDn)
      | fail)
  all_goals
    go_wp2_with fail
    go_end0
    obtain ⟨hown, h24, hat4, hlt4⟩ := E4.out
    obtain ⟨hnt, hns, hnc, hq1, hq2, hta⟩ := Hl.out
    obtain ⟨wc, hwc⟩ : ∃ wc, wc = w4.setCell ⟨D, 8, none⟩ (.slice (some ⟨g4, 0, none⟩) (nc + 1) cp4) := ⟨_, rfl⟩
    have hb4 : ∀ k, bk (some ⟨g4, 0, none⟩ : Ptr) k → bk d.cha k ∨ ((w1.alloc (cCg N (.slice oa q1 oc) (.slice na q2 nnc))).drew).heap.size ≤ k := fun k hk => by
      rw [bk_some] at hk
      subst hk
      exact hat4.imp (fun e => (bk_own _ _ _ _).1 e) (fun e => Nat.le_of_eq e.symm)
    have hgw := G1.out.trans HG.out
    rw [hnc] at hown h24 hwc
    have hD4 : w4.heap[D]? = w.heap[D]? := (h24.block D (Nat.lt_of_lt_of_le hlt hgw.size) (fun e => by
      rw [← hnc] at e
      have := (Hnb.out D e.symm).2; omega)).trans (hgw.block D hlt (by simp))
    have hblk := HD.out.blk
    have hDc : wc.heap[D]? = some (.cells (dC d.ca d.ts.length d.cc d.ver d.ps (some ⟨g4, 0, none⟩) (d.ch.length + 1) cp4 d.spa d.sp.length d.spc) 86 (0, 0)) := by
      rw [hwc]
      simp [World.setCell, Array.getElem?_modify, hD4, hblk, dC]
    have hf : Only (fun k => k = D) w4 wc := by rw [hwc]; exact (Only.refl (fun k => k = D) w4).set (.inl rfl) _ _
    rw [hq1, hq2] at hown
    have hfin := HD.out.changed (N := N) (o := ⟨oa, oc, ol⟩) (n := ⟨na, nnc, nl⟩) hgw HN.out.1 HN.out.2 h24 hb4 hDc hf (own_only hown hf (fun g hg e => by
      have h1 := (World.ownsRow.lt hown g hg).1
      omega))
    rw [hwc] at hfin
    rw [← hnc] at hfin
    exact ⟨rfl, some ⟨g4, 0, none⟩, cp4, hfin⟩
end Go.Proofs.YtnfpomjcofhppaaGreatDoor
