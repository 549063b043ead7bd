/- The store's Commit. -/
import Derived.Test.YtnfpomjcofhppaaGreatDoorZb34
import Derived.Test.YtnfpomjcofhppaaGreatDoorZb09
namespace Go.Proofs.YtnfpomjcofhppaaGreatDoor
open Go.RowKit

def Sn.p (x : Sn) : Int × (Nat → Tre) := (x.v, x.tr)
/-- What Commit leaves. -/
structure Went (B : Nat) (s s' : Stm) (ms : Ms) (w w' : World) : Prop where
  at_ : SAt B w' s'
  b : s'.b = s.b
  ts : s'.ts = s.ts
  v : s'.v = s.v + 1
  cs : s'.cs.map Cm.p = ((s.cs.map Cm.p) ++ [(s.v + 1, ms.ch)]).drop (s.cs.length + 1 - 32)
  sn : s'.sn.map Sn.p = ((s.sn.map Sn.p) ++ [(s.v + 1, ms.tr)]).drop (s.cs.length + 1 - 32)
  only : Only s.M w w'
  M : ∀ k, s'.M k → s.M k ∨ w.heap.size ≤ k
def Committed (B : Nat) (s : Stm) (m : Except Int Ms) (w : World) (e : Ending) (w' : World) : Prop :=
  (∃ c, m = .error c ∧ e = .returned (.tuple #[.agg #[.int .i64 0, .slice none 0 0], .int .i64 c]) ∧ w.grownBy w' none)
  ∨ (∃ ms s' a cap cl, m = .ok ms ∧ e = .returned (.tuple #[.agg #[.int .i64 (s.v + 1), .slice a cl.length cap], .int .i64 0]) ∧ CgS (fun b => ¬ s'.M b) w' a cl ∧ cl.map Cg.p = ms.ch ∧ cl.length ≤ cap ∧ Went B s s' ms w w')
/-- The draft at its start. -/
def Stm.draft (s : Stm) : Dm := ⟨s.ca, s.cc, s.top.v, s.top.ps, none, 0, none, 0, s.ts, s.top.tr, [], []⟩
theorem SAt.draftAt {B : Nat} {w w2 : World} {s : Stm} {R : Nat → Prop} (h : SAt B w s) (hg2 : w.grownBy w2 none) (hR : ∀ k, R k → s.M k ∨ w.heap.size ≤ k) (hRl : ∀ k, R k → k < w2.heap.size) : DAt R (w2.alloc (.cells (dC s.ca s.ts.length s.cc s.top.v s.top.ps none 0 0 none 0 0) 86)) w2.heap.size s.draft := by
  have hg := hg2.trans (World.grownBy_alloc w2 (.cells (dC s.ca s.ts.length s.cc s.top.v s.top.ps none 0 0 none 0 0) 86) none)
  have hsz := hg2.size
  have hm : ∀ b, b < w.heap.size → ¬ s.M b → ¬ s.draft.M R w2.heap.size b := fun b hb hn e => by
    rcases e with e | e | e | e
    · omega
    · simp [Stm.draft, bk] at e
    · simp [Stm.draft, bk] at e
    · rcases hR b e with e | e
      · exact hn e
      · omega
  refine ⟨heap_alloc_new _ _, (h.cat.mono hm).keep (.of hg), fun i hi => ((h.tre _ h.topMem i hi).mono hm).keep (.of hg), World.ownsRow_nil _ _ _ _, by simp [Stm.draft], World.ownsRow_nil _ _ _ _, by simp [Stm.draft], hRl⟩
theorem drop_flat (ca : Ptr) (n cc : Nat) : ∀ (k : Nat) (l : List Sn), (l.flatMap (snC ca n cc)).drop (k * 8) = (l.drop k).flatMap (snC ca n cc)
  | 0, l => by simp
  | k + 1, [] => by simp
  | k + 1, x :: l => by
    rw [List.flatMap_cons, List.drop_succ_cons, ← drop_flat ca n cc k l, show (k + 1) * 8 = 8 + k * 8 by omega, ← List.drop_drop]
    congr 1
theorem SAt.topV {B : Nat} {w : World} {s : Stm} (h : SAt B w s) : s.top.v = s.v := by
  have hk := h.kept
  have := h.vers (s.sn.length - 1) (by omega)
  unfold Stm.top
  rw [this, hk]
  push_cast
  omega
/-- The store behind a commit. -/
theorem SAt.next {B : Nat} {w w7 w8 w9 wf : World} {s : Stm} {ja' sa' : Ptr} {jc' sc' : Nat} {x : Sn} {y : Cm} (h : SAt B w s) (hB : B ≤ w.heap.size) (hv : s.v < 100000) (hg7 : w.grownBy w7 none)
    (hxv : x.v = s.v + 1) (htr : ∀ i, i < 6 → TrAt (fun b => ¬ (s.M b ∨ b = w.heap.size)) w7 (x.tr i) (x.ps i)) (htk : TrsOk x.tr 200)
    (hj8 : JS (fun k => s.R k ∨ k = w.heap.size) w8 s.J 32 (s.v + 1) ja' jc' ((s.cs ++ [y]).drop (s.cs.length + 1 - 32))) (hbj : ∀ k, bk ja' k → bk s.ja k ∨ w7.heap.size ≤ k) (ho8 : Only (fun k => k = s.J ∨ bk s.ja k) w7 w8)
    (hw9 : Win 8 w9 sa' sc' (((s.cs ++ [y]).drop (s.cs.length + 1 - 32)).length + 1) ((s.sn.flatMap (snC s.ca s.ts.length s.cc) ++ snC s.ca s.ts.length s.cc x).drop ((s.sn.length - ((s.cs ++ [y]).drop (s.cs.length + 1 - 32)).length) * 8)))
    (hb9 : w9.heap[s.b]? = some (.cells #[.pointer (some ⟨s.J, 0, none⟩), .slice sa' (((s.cs ++ [y]).drop (s.cs.length + 1 - 32)).length + 1) sc'] 96 (0, 0))) (hbs : ∀ k, bk sa' k → bk s.sa k ∨ w8.heap.size ≤ k) (ho9 : Only (fun k => k = s.b ∨ bk s.sa k) w8 w9) (hf : Only (fun k => k = w.heap.size) w9 wf) (hw7 : w.heap.size < w7.heap.size) :
    SAt B wf { s with ja := ja', jc := jc', sa := sa', sc := sc', v := s.v + 1, cs := (s.cs ++ [y]).drop (s.cs.length + 1 - 32), sn := (s.sn ++ [x]).drop (s.cs.length + 1 - 32) } ∧ Only s.M w wf ∧ (∀ k, Stm.M { s with ja := ja', jc := jc', sa := sa', sc := sc', v := s.v + 1, cs := (s.cs ++ [y]).drop (s.cs.length + 1 - 32), sn := (s.sn ++ [x]).drop (s.cs.length + 1 - 32) } k → s.M k ∨ w7.heap.size ≤ k) := by
  have hk := h.kept
  have hfew := h.few
  have s7 := hg7.size
  have s8 := ho8.size
  have s9 := ho9.size
  have hlt := h.lt
  have hcl : ((s.cs ++ [y]).drop (s.cs.length + 1 - 32)).length = s.cs.length + 1 - (s.cs.length + 1 - 32) := by simp
  have hdd : s.sn.length - ((s.cs ++ [y]).drop (s.cs.length + 1 - 32)).length = s.cs.length + 1 - 32 := by rw [hcl, hk]; omega
  have hsl : ((s.sn ++ [x]).drop (s.cs.length + 1 - 32)).length = ((s.cs ++ [y]).drop (s.cs.length + 1 - 32)).length + 1 := by rw [hcl]; simp; omega
  obtain ⟨s', hs'⟩ : ∃ s' : Stm, s' = { s with ja := ja', jc := jc', sa := sa', sc := sc', v := s.v + 1, cs := (s.cs ++ [y]).drop (s.cs.length + 1 - 32), sn := (s.sn ++ [x]).drop (s.cs.length + 1 - 32) } := ⟨_, rfl⟩
  have hM : ∀ k, s'.M k → s.M k ∨ w7.heap.size ≤ k := fun k e => by
    rw [hs'] at e
    rcases e with e | e | e | e
    · exact .inl (.inl e)
    · exact (hbj k e).imp (fun e => .inr (.inl e)) id
    · exact .inl (.inr (.inr (.inl e)))
    · exact (hbs k e).imp (fun e => .inr (.inr (.inr e))) (fun e => by omega)
  have hO : Only s.M w wf := (((Only.of_none (M := s.M) hg7).trans ho8 (fun k e => .inl (e.imp id .inl))).trans ho9 (fun k e => .inl (.inr (.inr e)))).trans hf (fun k e => .inr (Nat.le_of_eq e.symm))
  have hO7 : Only (fun k => s.M k ∨ k = w.heap.size) w7 wf := ((ho8.mono (M' := fun k => s.M k ∨ k = w.heap.size) (fun k _ e => .inl (e.imp id .inl))).trans ho9 (fun k e => .inl (.inl (.inr (.inr e))))).trans hf (fun k e => .inl (.inr e))
  have hm : ∀ b, b < w7.heap.size → ¬ (s.M b ∨ b = w.heap.size) → ¬ (s.M b ∨ b = w.heap.size) ∧ ¬ s'.M b := fun b hb hn => ⟨hn, fun e => by
    rcases hM b e with e | e
    · exact hn (.inl e)
    · omega⟩
  have hst : Stays (fun b => ¬ (s.M b ∨ b = w.heap.size) ∧ ¬ s'.M b) w7 wf := hO7.stays (fun b hb _ e => hb.1 e)
  have hm0 : ∀ b, b < w.heap.size → ¬ s.M b → ¬ (s.M b ∨ b = w.heap.size) := fun b hb hn e => by
    rcases e with e | e
    · exact hn e
    · omega
  have hbw : s.b < w.heap.size := hlt s.b (.inr (.inr (.inl rfl)))
  have hsb : ∀ k, bk s.sa k → k < w.heap.size := fun k e => hlt k (.inr (.inr (.inr e)))
  have ho89 : Only (fun k => k = s.b ∨ bk s.sa k ∨ k = w.heap.size) w8 wf := (ho9.mono (M' := fun k => k = s.b ∨ bk s.sa k ∨ k = w.heap.size) (fun k _ e => e.imp id .inl)).trans hf (fun k e => .inl (.inr (.inr e)))
  rw [← hs']
  refine ⟨⟨?_, ?_, ?_, ?_, ?_, ?_, ?_, ?_, ?_, ?_, ?_, ?_, ?_, ?_, ?_⟩, hO, hM⟩
  · rw [hs']
    simp only
    rw [hsl]
    exact (hf.block s.b (by omega) (by omega)).trans hb9
  · have hj := hj8.step (R' := s'.R) (w' := wf) ho89 (fun k _ e => by
      rcases e with e | e | e
      · exact .inl (.inl e)
      · exact .inl (.inr e)
      · exact .inr e) (fun k e => by
      rw [hs'] at e
      rcases e with e | e
      · exact .inl (.inl (.inl e))
      · exact (hbs k e).imp (fun e => .inl (.inr e)) id) (fun k e => by
      rw [hs'] at e
      have := hf.size
      rcases e with e | e
      · have e' : k = s.b := e
        omega
      · have := hw9.lt k e; omega)
    rw [hs'] at hj ⊢
    exact hj
  · have h1 := hw9.keep hf (fun k hk e => by
      rcases hbs k hk with h2 | h2
      · have := hsb k h2; omega
      · omega)
    rw [hdd] at h1
    rw [hs']
    simp only
    rw [hsl, ← drop_flat, List.flatMap_append]
    simp only [List.flatMap_cons, List.flatMap_nil, List.append_nil]
    exact h1
  · have h1 := (((h.cat.mono hm0).keep (.of hg7)).mono hm).keep hst
    rw [hs'] at h1 ⊢
    exact h1.mono (fun b _ hb => hb.2)
  · intro y' hy' i hi
    have hmem : y' ∈ s.sn ++ [x] := by
      rw [hs'] at hy'
      exact List.mem_of_mem_drop hy'
    rw [List.mem_append, List.mem_singleton] at hmem
    rcases hmem with hmem | rfl
    · exact ((((((h.tre y' hmem i hi).mono hm0).keep (.of hg7)).mono hm).keep hst)).mono (fun b _ hb => hb.2)
    · exact (((htr i hi).mono hm).keep hst).mono (fun b _ hb => hb.2)
  · rw [hs']; simp only; rw [hcl]; omega
  · rw [hs']; simp only; rw [hsl]
  · intro i hi
    rw [hs'] at hi ⊢
    simp only at hi ⊢
    rw [hsl, hcl] at hi
    rw [hcl]
    have e : ((s.sn ++ [x]).drop (s.cs.length + 1 - 32)).getD i default = (s.sn ++ [x]).getD (s.cs.length + 1 - 32 + i) default := by simp [List.getD, List.getElem?_drop]
    rw [e]
    rcases Nat.lt_or_ge (s.cs.length + 1 - 32 + i) s.sn.length with h1 | h1
    · rw [show (s.sn ++ [x]).getD (s.cs.length + 1 - 32 + i) default = s.sn.getD (s.cs.length + 1 - 32 + i) default by rw [List.getD_eq_getElem?_getD, List.getD_eq_getElem?_getD, List.getElem?_append_left h1], h.vers _ h1]
      omega
    · rw [show s.cs.length + 1 - 32 + i = s.sn.length by omega]
      rw [show (s.sn ++ [x]).getD s.sn.length default = x by simp [List.getD], hxv]
      omega
  · rw [hs']; exact h.ok
  · rw [hs']; exact h.hcc
  · intro y' hy'
    have hmem : y' ∈ s.sn ++ [x] := by
      rw [hs'] at hy'
      exact List.mem_of_mem_drop hy'
    rw [List.mem_append, List.mem_singleton] at hmem
    rcases hmem with hmem | rfl
    · exact h.trs y' hmem
    · exact htk
  · rw [hs']
    intro e
    rcases hbs s.b e with e | e
    · exact h.nsb e
    · omega
  · intro k e
    rcases hM k e with e | e
    · exact h.low k e
    · omega
  · rw [hs']; simp only; have := h.v0; omega
  · rw [hs']; simp only; omega
set_option maxRecDepth 100000 in
set_option maxHeartbeats 12800000 in
theorem commit_any (B G : Nat) (s : Stm) (oa : Ptr) (oc : Nat) (l : List Om) (w : World) (h : SAt B w s) (hE : ErrT G w) (ho : OpS (fun k => ¬ s.M k) w oa l) (hoc : l.length ≤ oc) (hv : s.v < 100000) (hB : B ≤ w.heap.size) :
    Calls Tryz.prog 7 #[.pointer (some ⟨s.b, 0, none⟩), .slice oa l.length oc] w (Committed B s (commitM s.ts s.top.tr l) w) := by
  have HS := Lib.hid h
  have HLa := Lib.hid (fun W (hW : w.grownBy W none) => last_any B s W (h.keepG hW))
  have HA := Lib.hid (fun W (hW : w.grownBy W none) (hlt : w.heap.size < W.heap.size) W2 (hW2 : (W.alloc (.cells (dC s.ca s.ts.length s.cc s.top.v s.top.ps none 0 0 none 0 0) 86)).grownBy W2 none) => all_any (fun k => s.M k ∨ k = w.heap.size) W.heap.size s.draft oa oc 200 l W2 ((h.draftAt hW (fun k e => e.imp id (fun e => Nat.le_of_eq e.symm)) (fun k e => by
    rcases e with e | e
    · have := h.lt k e; omega
    · omega)).keepG hW2) h.ok h.hcc ⟨⟨rfl, rfl⟩, rfl, rfl⟩ (h.trs _ h.topMem) (by omega) (((ho.mono (S' := fun b => ¬ (s.M b ∨ b = w.heap.size) ∧ b < W.heap.size) (fun b hb hs => ⟨fun e => by
      rcases e with e | e
      · exact hs e
      · omega, by omega⟩)).keep (.of ((hW.trans (World.grownBy_alloc W _ none)).trans hW2)))) hoc)
  have HEr := Lib.hid hE
  obtain ⟨cm, hcm⟩ : ∃ cm, cm = commitM s.ts s.top.tr l := ⟨_, rfl⟩
  have HM := Lib.hid hcm
  have hds : s.draft.ts = s.ts ∧ s.draft.tr = s.top.tr := ⟨rfl, rfl⟩
  rw [hds.1, hds.2, ← hcm] at HA
  rw [← hcm]
  obtain ⟨n, hn⟩ : ∃ n, n = l.length := ⟨_, rfl⟩
  rw [← hn] at HA ⊢
  have hbl : s.b < w.heap.size := h.lt s.b (.inr (.inr (.inl rfl)))
  have Hv := Lib.hid (And.intro hv (And.intro hB hbl))
  clear h hE ho hoc hv hB hcm hds hn
  unfold snV at HLa
  generalize htn : s.ts.length = tn at *
  have Htn := Lib.hid htn
  clear htn
  have g1 := World.grownBy_alloc w (cCm 0 none 0 0) none
  have A1 := heap_alloc_new w (cCm 0 none 0 0)
  have G1 := Lib.hid g1
  have HA1 := Lib.hid A1
  clear g1 A1
  go_enter Tryz.func7, Tryz.ntmps7
  go_upto_region 1 with fail
  generalize hw1 : w.alloc (.cells #[.int .i64 0, .slice none 0 0] 36) = w1 at *
  clear hw1
  go_wp2_with fail
  refine (HLa.out _ G1.out).mono ?_
  rintro e w2 ⟨rfl, hg2⟩
  have G2 := Lib.hid (G1.out.trans hg2)
  have A2 := Lib.hid ((hg2.block w.heap.size (Array.getElem?_eq_some_iff.1 HA1.out).1 (by simp)).trans HA1.out)
  clear hg2 HLa
  have hlt2 : w.heap.size < w2.heap.size := (Array.getElem?_eq_some_iff.1 A2.out).1
  have HAll := Lib.hid (HA.out w2 G2.out hlt2 ((w2.alloc (.cells (dC s.ca tn s.cc s.top.v s.top.ps none 0 0 none 0 0) 86)).alloc (.cells #[.int .i64 0] 87)) (World.grownBy_alloc _ _ _))
  have GW := Lib.hid ((World.grownBy_alloc w2 (.cells (dC s.ca tn s.cc s.top.v s.top.ps none 0 0 none 0 0) 86) none).trans (World.grownBy_alloc _ (.cells #[.int .i64 0] 87) none))
  have HX := Lib.hid (show ((w2.alloc (.cells (dC s.ca tn s.cc s.top.v s.top.ps none 0 0 none 0 0) 86)).alloc (.cells #[.int .i64 0] 87)).heap[w2.heap.size + 1]? = some (.cells #[.int .i64 0] 87) by
    have := heap_alloc_new (w2.alloc (.cells (dC s.ca tn s.cc s.top.v s.top.ps none 0 0 none 0 0) 86)) (.cells #[.int .i64 0] 87)
    simpa using this)
  have HX4 := Lib.hid (show w2.heap.size + 1 < ((w2.alloc (.cells (dC s.ca tn s.cc s.top.v s.top.ps none 0 0 none 0 0) 86)).alloc (.cells #[.int .i64 0] 87)).heap.size by simp)
  clear HA
  unfold dC at HAll GW HX HX4
  go_upto_region 3 with fail
  generalize hw4 : (w2.alloc (.cells #[.slice s.ca tn s.cc, .int .i64 s.top.v, .pointer (s.top.ps 0), .pointer (s.top.ps 1), .pointer (s.top.ps 2), .pointer (s.top.ps 3), .pointer (s.top.ps 4), .pointer (s.top.ps 5), .slice none 0 0, .slice none 0 0] 86)).alloc (.cells #[.int .i64 0] 87) = w4 at *
  clear hw4
  have A4 := Lib.hid ((GW.out.block w.heap.size hlt2 (by simp)).trans A2.out)
  have G4 := Lib.hid (G2.out.trans GW.out)
  go_wp2_with fail
  refine HAll.out.mono ?_
  rintro e w5 ⟨ho5, hres⟩
  have hg5 : w.grownBy w5 none := only_grown G4.out ho5 (fun b hb => by omega)
  have hX5 : w5.heap[w2.heap.size + 1]? = some (.cells #[.int .i64 0] 87) := (ho5.block _ HX4.out (by omega)).trans HX.out
  have hA5 : w5.heap[w.heap.size]? = some (cCm 0 none 0 0) := (ho5.block _ (by have := GW.out.size; omega) (by omega)).trans A4.out
  have x0 : w5.cell? ⟨w2.heap.size + 1, 0, none⟩ = some (.int .i64 0) := cell_of_row _ _ 0 _ _ _ hX5
  have xf := froz_of hX5 0
  have G5 := Lib.hid hg5
  have A5 := Lib.hid (And.intro hA5 hX5)
  have HE5 := Lib.hid (HEr.out.grown hg5)
  rcases hres with ⟨c, hce, hres⟩ | ⟨d', hok, rfl, hat, hts, hca, hcc, hver, hch⟩
  · have HC := Lib.hid hce
    have fin : ∀ (w6 w7 : World), w5.grownBy w6 none → w7 = w6.setCell ⟨w2.heap.size + 1, 0, none⟩ (.int .i64 c) → w.grownBy w7 none ∧ w7.cell? ⟨w2.heap.size + 1, 0, none⟩ = some (.int .i64 c) ∧ w7.heap[w.heap.size]? = some (cCm 0 none 0 0) := fun w6 w7 h6 h7 => by
      subst h7
      refine ⟨grown_cell9 (hg5.trans h6) (by omega) 0 _, World.cell?_setCell_same' _ _ _ (by rw [h6.cell x0 (by simp)]; rfl), ?_⟩
      rw [Below.heap_setCell _ _ _ _ (show w.heap.size ≠ w2.heap.size + 1 by omega)]
      exact (h6.block w.heap.size (Array.getElem?_eq_some_iff.1 hA5).1 (by simp)).trans hA5
    have HF := Lib.hid fin
    rcases hres with rfl | ⟨N, pl, rfl⟩
    · have HAs := Lib.hid (as_hitR c (w2.heap.size + 1) G _ w5 HE5.out x0 xf)
      clear ho5 hg5 hX5 hA5 x0 xf fin hce
      go_wp2_with fail
      refine HAs.out.mono ?_
      rintro e w7 ⟨rfl, w6, hg6, hw7⟩
      obtain ⟨r1, r2, r3⟩ := HF.out w6 w7 hg6 hw7
      have y0 := cell_of_row _ _ 0 _ _ _ r3
      have y1 := cell_of_row _ _ 1 _ _ _ r3
      have z0 := froz_of r3 0
      have z1 := froz_of r3 1
      simp at y0 y1
      have R1 := Lib.hid r1
      clear r1 r3 hw7 hg6
      go_wp2_with fail
      go_region_law fail
      all_goals
        go_wp2_with fail
        refine bodyPost_ret (v := .tuple #[.agg #[.int .i64 0, .slice none 0 0], .int .i64 c]) (by simp [results, Tryz.results7, go_sem, y0, y1]) rfl ?_
        exact .inl ⟨c, HC.out, rfl, grown_drewT (grown_cell9 (grown_cell9 R1.out (Nat.le_refl _) _ _) (Nat.le_refl _) _ _)⟩
    · have HAs := Lib.hid (as_wrapR N pl c (w2.heap.size + 1) G _ w5 HE5.out x0 xf)
      clear ho5 hg5 hX5 hA5 x0 xf fin hce
      go_wp2_with fail
      refine HAs.out.mono ?_
      rintro e w7 ⟨rfl, w6, hg6, hw7⟩
      obtain ⟨r1, r2, r3⟩ := HF.out w6 w7 hg6 hw7
      have y0 := cell_of_row _ _ 0 _ _ _ r3
      have y1 := cell_of_row _ _ 1 _ _ _ r3
      have z0 := froz_of r3 0
      have z1 := froz_of r3 1
      simp at y0 y1
      have R1 := Lib.hid r1
      clear r1 r3 hw7 hg6
      go_wp2_with fail
      go_region_law fail
      all_goals
        go_wp2_with fail
        refine bodyPost_ret (v := .tuple #[.agg #[.int .i64 0, .slice none 0 0], .int .i64 c]) (by simp [results, Tryz.results7, go_sem, y0, y1]) rfl ?_
        exact .inl ⟨c, HC.out, rfl, grown_drewT (grown_cell9 (grown_cell9 R1.out (Nat.le_refl _) _ _) (Nat.le_refl _) _ _)⟩
  · have HO5 := Lib.hid ho5
    have HN := Lib.hid (fun W => as_nil 92 (.pointer (some ⟨w2.heap.size + 1, 0, none⟩)) W)
    have htv := HS.out.topV
    have hblk : w5.heap[w2.heap.size]? = some (.cells (dC s.ca tn s.cc s.v d'.ps d'.cha d'.ch.length d'.chc d'.spa d'.sp.length d'.spc) 86 (0, 0)) := by
      have hb := hat.blk
      rw [hts, hca, hcc, hver] at hb
      rw [← Htn.out, ← htv]
      exact hb
    obtain ⟨dn, hdn⟩ : ∃ dn, dn = d'.ch.length := ⟨_, rfl⟩
    rw [← hdn] at hblk
    have c1 := cell_of_row _ _ 1 _ _ _ hblk
    have c8 := cell_of_row _ _ 8 _ _ _ hblk
    have f1 := froz_of hblk 1
    simp [dC] at c1 c8
    have i1 : IntKind.i64.wrap (s.v + 1) = s.v + 1 := by
      have := HS.out.v0
      have := Hv.out.1
      rw [IntKind.wrap_i64]; omega
    have HB := Lib.hid hblk
    have Hdn := Lib.hid hdn
    have HAt := Lib.hid hat
    have HOk := Lib.hid (And.intro hok (And.intro hts (And.intro hca (And.intro hcc (And.intro hver hch)))))
    obtain ⟨w6, hw6⟩ : ∃ w6, w6 = (w5.setCell ⟨w2.heap.size, 1, none⟩ (.int .i64 (s.v + 1))).alloc (.cells #[.int .i64 (s.v + 1), .slice d'.cha dn d'.chc] 36) := ⟨_, rfl⟩
    have hD5 : w2.heap.size < w5.heap.size := hat.lt
    have O56 : Only (fun k => k = w2.heap.size) w5 w6 := by
      rw [hw6]
      exact (Only.one _ w5 1 _).trans (M' := fun _ => False) (Only.of_none (World.grownBy_alloc _ _ none)) (fun _ h => h.elim)
    have hg6 : w.grownBy w6 none := only_grown G4.out (ho5.trans O56 (fun _ e => .inl e)) (fun b (hb : b = w2.heap.size) => by omega)
    have hbx : w6.heap[w5.heap.size]? = some (.cells #[.int .i64 (s.v + 1), .slice d'.cha dn d'.chc] 36) := by
      rw [hw6]
      have := heap_alloc_new (w5.setCell ⟨w2.heap.size, 1, none⟩ (.int .i64 (s.v + 1))) (.cells #[.int .i64 (s.v + 1), .slice d'.cha dn d'.chc] 36)
      simpa using this
    have hbD : w6.heap[w2.heap.size]? = some (.cells (dC s.ca tn s.cc (s.v + 1) d'.ps d'.cha dn d'.chc d'.spa d'.sp.length d'.spc) 86 (0, 0)) := by
      rw [hw6]
      refine ((World.grownBy_alloc _ _ none).block _ (by simpa using hD5) (by simp)).trans ?_
      simp [World.setCell, Array.getElem?_modify, hblk, dC]
    have hbR : w6.heap[w.heap.size]? = some (cCm 0 none 0 0) := (O56.block _ (by omega) (fun e => by have e' : w.heap.size = w2.heap.size := e; omega)).trans A5.out.1
    have hs6 : w5.heap.size < w6.heap.size := by rw [hw6]; simp
    have hlt := HS.out.lt
    have hJ6 : JS (fun k => s.R k ∨ k = w.heap.size) w6 s.J 32 s.v s.ja s.jc s.cs := HS.out.jou.step (M := fun _ => False) (.of_none hg6) (fun _ _ e => e.elim) (fun k e => e.imp id (fun e => Nat.le_of_eq e.symm)) (fun k e => by
      rcases e with e | e
      · have := hlt k (.inr (.inr e)); omega
      · omega)
    obtain ⟨a6, cap6, e6, hle6, hC5⟩ := own_cg (S := fun b => ¬ (s.M b ∨ b = w.heap.size ∨ b = w2.heap.size)) hat.och (fun b hb e => by
      rcases e with e | e | e
      · have := hlt b e; omega
      · omega
      · omega) (by omega) (fun x hx => by
      have hm : ∀ b, b < w5.heap.size → ¬ d'.M (fun k => s.M k ∨ k = w.heap.size) w2.heap.size b → ¬ (s.M b ∨ b = w.heap.size ∨ b = w2.heap.size) := fun b _ hb e => by
        rcases e with e | e | e
        · exact hb (.inr (.inr (.inr (.inl e))))
        · exact hb (.inr (.inr (.inr (.inr e))))
        · exact hb (.inl e)
      exact ⟨(hat.rch x hx).1.mono hm, (hat.rch x hx).2.mono hm⟩)
    obtain ⟨rfl, rfl⟩ : d'.cha = a6 ∧ d'.chc = cap6 := by
      simp only [Value.slice.injEq] at e6
      exact ⟨e6.1, e6.2.2⟩
    have hC6 := hC5.keep (O56.stays (fun b hb _ e => hb (.inr (.inr e))))
    have hv0 := HS.out.v0
    have HAp := Lib.hid (fun W (hW : w6.grownBy W none) => appendJ_any (fun k => s.R k ∨ k = w.heap.size) (fun b => ¬ (s.M b ∨ b = w.heap.size ∨ b = w2.heap.size)) s.J W 32 s.v (s.v + 1) s.ja d'.cha s.jc d'.chc s.cs d'.ch (hJ6.keepG hW) (hC6.keep (.of hW)) hv0 rfl (by have := Hv.out.1; omega) (by omega) (by omega) (by have := HS.out.few; omega))
    rw [← hdn] at HAp
    have B6 := Lib.hid (And.intro hbx (And.intro hbD (And.intro hbR (And.intro hg6 (And.intro O56 hs6)))))
    have HC6 := Lib.hid (And.intro hC6 hle6)
    have b0 : w6.cell? ⟨s.b, 0, none⟩ = some (.pointer (some ⟨s.J, 0, none⟩)) := hg6.cell (cell_of_row _ _ 0 _ _ _ HS.out.blk) (by simp)
    have t0 := cell_of_row _ _ 0 _ _ _ hbx
    have t1 := cell_of_row _ _ 1 _ _ _ hbx
    simp at t0 t1
    have HW6 := Lib.hid hw6
    clear ho5 hg5 hX5 hA5 x0 xf HEr hok hts hca hcc hver hch hat hblk hdn htv hbx hbD hbR hs6 hlt hJ6 hC5 hC6 e6 hle6 hv0 hg6 O56 hw6
    go_wp2_with fail
    refine (HN.out _).mono ?_
    rintro e w7 ⟨rfl, rfl⟩
    go_upto_region 7 with fail
    rw [← HW6.out]
    clear c1 c8 f1 HW6 HN
    go_region_with (go_at_call 26; (with_reducible refine (HAp.out _ (by first | exact grown_drewT (grown_reflT _ _) | exact grown_reflT _ _)).mono ?_); rintro e w8 ⟨rfl, hx8, ho8⟩; have E8 := Lib.hid (And.intro hx8 ((Only.of_none (by first | exact grown_drewT (grown_reflT w6 none) | exact grown_reflT w6 none)).trans ho8 (fun _ e => .inl e))); clear hx8 ho8)
    all_goals
      obtain ⟨⟨ja', jc', y, hyv, hyp, hj8, hbj⟩, ho8⟩ := E8.out
      obtain ⟨hbx, hbD, hbR, hg6, O56, hs6⟩ := B6.out
      have hD5 : w2.heap.size < w5.heap.size := HAt.out.lt
      have hlt := HS.out.lt
      rw [show (((s.cs.length + 1 : Nat) : Int) - 32).toNat = s.cs.length + 1 - 32 by omega] at hj8
      have hnM : ∀ k, w.heap.size ≤ k → ¬ (k = s.J ∨ bk s.ja k) := fun k hk e => by
        have := hlt k (e.imp id .inl); omega
      have hbx8 := (ho8.block w5.heap.size hs6 (hnM _ (by omega))).trans hbx
      have hbD8 := (ho8.block w2.heap.size (by omega) (hnM _ (by omega))).trans hbD
      have hbR8 := (ho8.block w.heap.size (by omega) (hnM _ (Nat.le_refl _))).trans hbR
      have hbb8 := (ho8.block s.b (by omega) (fun e => by
        rcases e with e | e
        · exact HS.out.bJ.1 e
        · exact HS.out.jou.ra _ e (.inl rfl))).trans ((hg6.block s.b hbl (by simp)).trans HS.out.blk)
      have hwin8 := (HS.out.win.keepG hg6).keep ho8 (fun k hk e => by
        rcases e with e | e
        · exact HS.out.bJ.2 (e ▸ hk)
        · exact HS.out.jou.ra _ e (.inr hk))
      have hcl : ((s.cs ++ [y]).drop (s.cs.length + 1 - 32)).length = s.cs.length + 1 - (s.cs.length + 1 - 32) := by simp
      have hkp := HS.out.kept
      have hfw := HS.out.few
      have hv0 := HS.out.v0
      have HKp := Lib.hid (keep_any s.b s.J s.sa ja' s.ca s.sn.length s.sc ((s.cs ++ [y]).drop (s.cs.length + 1 - 32)).length jc' tn s.cc 32 (s.v + 1) ⟨s.v + 1, d'.ps, d'.tr⟩ (s.sn.flatMap (snC s.ca s.ts.length s.cc)) w8 hbb8 hj8.jn hwin8 (fun u hu => by
        rw [List.mem_flatMap] at hu
        obtain ⟨z, _, hz⟩ := hu
        exact sn_one _ _ _ _ u hz) (by omega) (by have := Hv.out.1; omega) (by omega) (by omega) (by omega) HS.out.bJ.1 HS.out.nsb HS.out.bJ.2)
      have q0 := cell_of_row _ _ 0 _ _ _ hbD8
      have q1 := cell_of_row _ _ 1 _ _ _ hbD8
      have q2 := cell_of_row _ _ 2 _ _ _ hbD8
      have q3 := cell_of_row _ _ 3 _ _ _ hbD8
      have q4 := cell_of_row _ _ 4 _ _ _ hbD8
      have q5 := cell_of_row _ _ 5 _ _ _ hbD8
      have q6 := cell_of_row _ _ 6 _ _ _ hbD8
      have q7 := cell_of_row _ _ 7 _ _ _ hbD8
      simp [dC] at q0 q1 q2 q3 q4 q5 q6 q7
      have s8 := ho8.size
      have Z := Lib.hid (And.intro hyv (And.intro hyp (And.intro hj8 (And.intro hbj (And.intro ho8 (And.intro hbx8 hbR8))))))
      clear hyv hyp hj8 hbj ho8 hbx8 hbR8 hbD8 hbb8 hwin8 hcl hkp hfw hv0 hbx hbD hbR hg6 O56 t0 t1 b0 hnM E8
      go_wp2_with fail
      refine HKp.out.mono ?_
      rintro e w9 ⟨rfl, ⟨sa', sc', hw9, hb9, hbs⟩, ho9⟩
      obtain ⟨hyv, hyp, hj8, hbj, ho8, hbx8, hbR8⟩ := Z.out
      have hnS : ∀ k, w.heap.size ≤ k → ¬ (k = s.b ∨ bk s.sa k) := fun k hk e => by
        rcases e with e | e
        · omega
        · have := hlt k (.inr (.inr (.inr e))); omega
      have hbx9 := (ho9.block w5.heap.size (by omega) (hnS _ (by omega))).trans hbx8
      have hbR9 := (ho9.block w.heap.size (by omega) (hnS _ (Nat.le_refl _))).trans hbR8
      have t0 := cell_of_row _ _ 0 _ _ _ hbx9
      have t1 := cell_of_row _ _ 1 _ _ _ hbx9
      have y0 := cell_of_row _ _ 0 _ _ _ hbR9
      have y1 := cell_of_row _ _ 1 _ _ _ hbR9
      have z0 := froz_of hbR9 0
      have z1 := froz_of hbR9 1
      simp at t0 t1 y0 y1
      have Z9 := Lib.hid (And.intro hw9 (And.intro hb9 (And.intro hbs ho9)))
      clear hw9 hb9 hbs ho9 hbx9 hbR9 hyv hyp hj8 hbj ho8 hbx8 hbR8 hnS q0 q1 q2 q3 q4 q5 q6 q7 HKp
      go_wp2_with fail
      refine bodyPost_ret (v := .tuple #[.agg #[.int .i64 (s.v + 1), .slice d'.cha dn d'.chc], .int .i64 0]) (by simp [results, Tryz.results7, go_sem, y0, y1]) rfl ?_
      obtain ⟨wf, hwf⟩ : ∃ wf, wf = (w9.setCell ⟨w.heap.size, 0, none⟩ (.int .i64 (s.v + 1))).setCell ⟨w.heap.size, 1, none⟩ (.slice d'.cha dn d'.chc) := ⟨_, rfl⟩
      rw [← hwf]
      have hf : Only (fun k => k = w.heap.size) w9 wf := by
        rw [hwf]
        exact (Only.one _ w9 0 _).trans (Only.one _ _ 1 _) (fun _ e => .inl e)
      clear hwf y0 y1 z0 z1 t0 t1
      obtain ⟨hbx, hbD, hbR, hg6, O56, _⟩ := B6.out
      obtain ⟨hyv, hyp, hj8, hbj, ho8, hbx8, hbR8⟩ := Z.out
      obtain ⟨hw9, hb9, hbs, ho9⟩ := Z9.out
      obtain ⟨hok, hts, hca, hcc, hver, hch⟩ := HOk.out
      rw [← Htn.out] at hw9
      have htre : ∀ i, i < 6 → TrAt (fun b => ¬ (s.M b ∨ b = w.heap.size)) w6 (d'.tr i) (d'.ps i) := fun i hi => ((HAt.out.tre i hi).keep (O56.stays (fun b hb _ e => hb (.inl e)))).mono (fun b _ hb e => hb (.inr (.inr (.inr e))))
      have hmc : commitM s.ts s.top.tr l = .ok d'.s := HM.out.symm.trans hok
      have hnx := SAt.next (x := ⟨s.v + 1, d'.ps, d'.tr⟩) (y := y) HS.out Hv.out.2.1 Hv.out.1 hg6 rfl htre (commitM_trs (HS.out.trs _ HS.out.topMem) hmc) hj8 hbj ho8 hw9 hb9 hbs ho9 hf (by omega)
      obtain ⟨s', hs'⟩ : ∃ s' : Stm, s' = { s with ja := ja', jc := jc', sa := sa', sc := sc', v := s.v + 1, cs := (s.cs ++ [y]).drop (s.cs.length + 1 - 32), sn := (s.sn ++ [(⟨s.v + 1, d'.ps, d'.tr⟩ : Sn)]).drop (s.cs.length + 1 - 32) } := ⟨_, rfl⟩
      rw [← hs'] at hnx
      obtain ⟨n1, n2, n3⟩ := hnx
      obtain ⟨hC6, hle6⟩ := HC6.out
      have O6f : Only (fun k => s.M k ∨ k = w.heap.size) w6 wf := ((ho8.mono (M' := fun k => s.M k ∨ k = w.heap.size) (fun k _ e => .inl (e.imp id .inl))).trans ho9 (fun k e => .inl (.inl (.inr (.inr e))))).trans hf (fun k e => .inl (.inr e))
      have hC7 : CgS (fun b => ¬ (s.M b ∨ b = w.heap.size ∨ b = w2.heap.size) ∧ ¬ s'.M b) w6 d'.cha d'.ch := hC6.mono (fun b hb hn => ⟨hn, fun e => by
        rcases n3 b e with e | e
        · exact hn (.inl e)
        · omega⟩)
      have hCf : CgS (fun b => ¬ s'.M b) wf d'.cha d'.ch := (hC7.keep (O6f.stays (fun b hb _ e => hb.1 (e.imp id .inl)))).mono (fun b _ hb => hb.2)
      have hyy : Cm.p y = (s.v + 1, d'.s.ch) := by
        unfold Cm.p Dm.s
        rw [hyv, hyp]
      refine .inr ⟨d'.s, s', d'.cha, d'.chc, d'.ch, hok, by rw [← Hdn.out], hCf, rfl, hle6, ⟨n1, by rw [hs'], by rw [hs'], by rw [hs'], ?_, ?_, n2, fun k e => (n3 k e).imp id (fun e => by have := hg6.size; omega)⟩⟩
      · rw [hs']
        simp only [List.map_drop, List.map_append, List.map_cons, List.map_nil, hyy]
      · rw [hs']
        simp only [List.map_drop, List.map_append, List.map_cons, List.map_nil]
        rfl
end Go.Proofs.YtnfpomjcofhppaaGreatDoor
