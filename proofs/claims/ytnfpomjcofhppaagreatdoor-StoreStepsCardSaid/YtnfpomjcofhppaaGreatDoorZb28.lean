/- What TreePlays writes into the rows that From gave. Mathematics: what is found in a tree behind a put or a delete, and how many are there; commits on the document's example. The draft's claim. -/
import Derived.Test.YtnfpomjcofhppaaGreatDoorZb27
import Derived.Deep.Upon
import Derived.Test.YtnfpomjcofhppaaGreatDoorZb21
import Derived.Test.YtnfpomjcofhppaaGreatDoorZb09
import Derived.Test.YtnfpomjcofhppaaGreatDoorZb18
import Derived.Deep.AppendLies
namespace Go.Proofs.YtnfpomjcofhppaaGreatDoor
open Go.RowKit

/-- Blocks below B and one more stay; what is there stays there. -/
structure Marred (B : Nat) (g : Option Nat) (w wv : World) : Prop where
  os : wv.os = w.os
  tape : wv.tape = w.tape
  output : wv.output = w.output
  size : w.heap.size ≤ wv.heap.size
  block : ∀ b, b < w.heap.size → (b < B ∨ g = some b) → wv.heap[b]? = w.heap[b]?
  still : ∀ b o n, w.there b o n → wv.there b o n
theorem Marred.refl (B : Nat) (g : Option Nat) (w : World) : Marred B g w w := ⟨rfl, rfl, rfl, Nat.le_refl _, fun _ _ _ => rfl, fun _ _ _ h => h⟩
theorem Marred.step {B : Nat} {g : Option Nat} {w wv : World} (h : Marred B g w wv) {b : Nat} (hB : B ≤ b) (hg : g ≠ some b) (o : Nat) (vs : List Value) : Marred B g w (wv.setCells b o vs) := by
  have hs := grown_setCells b vs o wv
  exact ⟨hs.os.trans h.os, hs.tape.trans h.tape, hs.output.trans h.output, Nat.le_trans h.size hs.size, fun k hk hor => (hs.block k (Nat.lt_of_lt_of_le hk h.size) (fun e => by
    have := Option.some.inj e
    subst this
    rcases hor with h1 | h1
    · omega
    · exact hg h1)).trans (h.block k hk hor), fun b' o' n ht => World.there_setCells (h.still b' o' n ht) b o vs⟩
theorem Marred.grown {g : Option Nat} {w0 w wv : World} (h : Marred w0.heap.size g w wv) (h0 : w0.grownBy w none) : w0.grownBy wv none :=
  ⟨h.os.trans h0.os, h.tape.trans h0.tape, h.output.trans h0.output, Nat.le_trans h0.size h.size, fun k hk _ => (h.block k (Nat.lt_of_lt_of_le hk h0.size) (.inl hk)).trans (h0.block k hk (by simp))⟩
theorem Marred.cell {B b o : Nat} {w wv : World} {v : Value} (h : Marred B (some b) w wv) (hc : w.cell? ⟨b, o, none⟩ = some v) : wv.cell? ⟨b, o, none⟩ = some v :=
  (World.cell?_of_block (a := ⟨b, o, none⟩) (h.block b (World.block_lt_of_cell? w _ hc) (.inr rfl))).trans hc
theorem done_ne {key : List Vl} {t : Tre} {m : List Pw} {N : Nat} {done : List Rw} (he : t.toL = m.map Pw.p) (hne : ∀ x ∈ m, x.r.l.length ≠ 0) (h : done.map Rw.l = ((fromL key t.toL).map Prod.snd).take N) : ∀ x ∈ done, x.l.length ≠ 0 := by
  intro x hx
  have h1 : x.l ∈ done.map Rw.l := List.mem_map_of_mem hx
  rw [h] at h1
  have h2 := List.mem_of_mem_take h1
  rw [List.mem_map] at h2
  obtain ⟨y, hy, e⟩ := h2
  have hy2 : y ∈ t.toL := (List.mem_filter.1 hy).1
  rw [he, List.mem_map] at hy2
  obtain ⟨z, hz, rfl⟩ := hy2
  rw [← e]
  exact hne z hz
theorem rw_there {S : Nat → Prop} {W : World} {x : Rw} (h : RwF S W x) (hne : x.l.length ≠ 0) : ∃ b off, x.a = some ⟨b, off, none⟩ ∧ S b ∧ W.there b off 3 := by
  rcases h.2.2 with h0 | ⟨b, off, cs, T, e, hs, hlt, hc⟩
  · rw [h0] at hne; simp at hne
  rcases h.1.2.2 with h0 | ⟨b', off', e', _, _, hcell⟩
  · rw [h0] at hne; simp at hne
  rw [e] at e'
  cases e'
  obtain ⟨c0, c1, c2⟩ := hcell 0 (by omega)
  simp only [Nat.zero_mul, Nat.add_zero] at c0 c1 c2
  refine ⟨b, off, e, hs, fun j hj => ⟨?_, by simp [World.frozen?, hc]⟩⟩
  match j, hj with
  | 0, _ => rw [Nat.add_zero, c0]; rfl
  | 1, _ => rw [c1]; rfl
  | 2, _ => rw [c2]; rfl
end Go.Proofs.YtnfpomjcofhppaaGreatDoor
namespace Go.Proofs.YtnfpomjcofhppaaGreatDoor
open Go.RowKit

theorem ro_self (k : List Vl) : rowsOrd k k = 0 := (ro_zero _ _).2 rfl
open Classical in
theorem look_ins {k v : List Vl} (k' : List Vl) : ∀ l : PL, (∀ x ∈ l, x.1 ≠ k) → lookL k' (Tr.ins rowsOrd k v l) = if k' = k then some v else lookL k' l
  | [], _ => by
    simp only [Tr.ins]
    by_cases h : k' = k
    · rw [if_pos h, look_cons_eq ((ro_zero _ _).2 h.symm)]
    · rw [if_neg h, look_cons_ne (fun e => h ((ro_zero _ _).1 e).symm)]
  | (xk, xv) :: l, hx => by
    have ih := look_ins (k := k) (v := v) k' l (fun y hy => hx y (List.mem_cons_of_mem _ hy))
    have hxk : xk ≠ k := hx (xk, xv) List.mem_cons_self
    simp only [Tr.ins]
    split
    · by_cases h : k' = k
      · rw [if_pos h, look_cons_eq ((ro_zero _ _).2 h.symm)]
      · rw [if_neg h, look_cons_ne (fun e => h ((ro_zero _ _).1 e).symm)]
    · by_cases h2 : xk = k'
      · rw [look_cons_eq ((ro_zero _ _).2 h2), look_cons_eq ((ro_zero _ _).2 h2), if_neg (fun e => hxk (h2.trans e))]
      · rw [look_cons_ne (fun e => h2 ((ro_zero _ _).1 e)), look_cons_ne (fun e => h2 ((ro_zero _ _).1 e)), ih]
open Classical in
theorem look_delL (k k' : List Vl) : ∀ l : PL, lookL k' (Tr.delL rowsOrd k l) = if k' = k then none else lookL k' l
  | [] => by simp [Tr.delL, lookL]
  | (xk, xv) :: l => by
    have ih := look_delL k k' l
    rw [Tr.delL_cons]
    by_cases h : rowsOrd xk k = 0
    · have e := (ro_zero _ _).1 h
      rw [if_pos h, List.nil_append, ih]
      by_cases h2 : k' = k
      · rw [if_pos h2, if_pos h2]
      · rw [if_neg h2, if_neg h2, look_cons_ne (fun e2 => h2 (((ro_zero _ _).1 e2).symm.trans e))]
    · rw [if_neg h, List.singleton_append]
      by_cases h2 : xk = k'
      · rw [look_cons_eq ((ro_zero _ _).2 h2), look_cons_eq ((ro_zero _ _).2 h2), if_neg (fun e2 => h ((ro_zero _ _).2 (h2.trans e2)))]
      · rw [look_cons_ne (fun e => h2 ((ro_zero _ _).1 e)), look_cons_ne (fun e => h2 ((ro_zero _ _).1 e)), ih]
theorem delL_ne {k : List Vl} {l : PL} : ∀ x ∈ Tr.delL rowsOrd k l, x.1 ≠ k := fun x hx e => by
  obtain ⟨_, h2⟩ := List.mem_filter.1 hx
  rw [e, ro_self] at h2
  simp at h2
theorem delL_none9 {k : List Vl} : ∀ {l : PL}, lookL k l = none → Tr.delL rowsOrd k l = l
  | [], _ => by simp [Tr.delL]
  | (xk, xv) :: l, h => by
    rw [Tr.delL_cons]
    by_cases h2 : rowsOrd xk k = 0
    · rw [look_cons_eq h2] at h; cases h
    · rw [look_cons_ne h2] at h
      rw [if_neg h2, delL_none9 h, List.singleton_append]
theorem delL_some9 {k r : List Vl} : ∀ {l : PL}, Tr.Sorted rowsOrd l → lookL k l = some r → (Tr.delL rowsOrd k l).length + 1 = l.length
  | [], _, h => by simp [lookL] at h
  | (xk, xv) :: l, hs, h => by
    obtain ⟨h1, h2⟩ := List.pairwise_cons.1 hs
    rw [Tr.delL_cons]
    by_cases h3 : rowsOrd xk k = 0
    · have e := (ro_zero _ _).1 h3
      rw [if_pos h3, List.nil_append, Tr.delL_none (fun y hy e2 => by
        have h4 := h1 y hy
        simp only at h4
        rw [e, (ro_zero _ _).1 e2, ro_self] at h4
        omega), List.length_cons]
    · rw [look_cons_ne h3] at h
      have ih := delL_some9 h2 h
      rw [if_neg h3, List.length_append, List.length_singleton, List.length_cons]
      omega
section
variable {t : Tre}
open Classical in
theorem look_put (hs : Tr.Sorted rowsOrd t.toL) (k r k' : List Vl) : lookL k' (Tr.put rowsOrd k r t).toL = if k' = k then some r else lookL k' t.toL := by
  rw [Tr.put_toL ro_ord k r t hs]
  unfold Tr.putL
  rw [look_ins k' _ delL_ne, look_delL]
  by_cases h : k' = k <;> simp [h]
open Classical in
theorem look_del (hs : Tr.Sorted rowsOrd t.toL) (k k' : List Vl) : lookL k' (Tr.del rowsOrd k t).toL = if k' = k then none else lookL k' t.toL := by
  rw [Tr.del_toL ro_ord t k hs, look_delL]
theorem n_put_new (hs : Tr.Sorted rowsOrd t.toL) {k : List Vl} (r : List Vl) (h : lookL k t.toL = none) : (Tr.put rowsOrd k r t).n = t.n + 1 := by
  rw [Tr.n_toL, Tr.n_toL, Tr.put_toL ro_ord k r t hs]
  unfold Tr.putL
  rw [Tr.ins_len, delL_none9 h]
theorem n_put_old (hs : Tr.Sorted rowsOrd t.toL) {k x : List Vl} (r : List Vl) (h : lookL k t.toL = some x) : (Tr.put rowsOrd k r t).n = t.n := by
  rw [Tr.n_toL, Tr.n_toL, Tr.put_toL ro_ord k r t hs]
  unfold Tr.putL
  rw [Tr.ins_len]
  exact delL_some9 hs h
theorem n_del_old (hs : Tr.Sorted rowsOrd t.toL) {k x : List Vl} (h : lookL k t.toL = some x) : (Tr.del rowsOrd k t).n + 1 = t.n := by
  rw [Tr.n_toL, Tr.n_toL, Tr.del_toL ro_ord t k hs]
  exact delL_some9 hs h
end
/-- The example's catalog. -/
def ExT (ts : List Tb) : Prop := ts.map Tb.p = [(exTab none).p]
theorem ExT.get {ts : List Tb} (h : ExT ts) : ts.length = 1 ∧ (ts.getD 0 default).n = ⟨#[116]⟩ ∧ (ts.getD 0 default).l = exCols ∧ (ts.getD 0 default).k = 1 := by
  unfold ExT at h
  have hl : ts.length = 1 := by simpa using congrArg List.length h
  obtain ⟨t, rfl⟩ := List.length_eq_one_iff.1 hl
  have h : t.p = (exTab none).p := by simpa using h
  exact ⟨rfl, congrArg (·.1) h, congrArg (·.2.1) h, congrArg (·.2.2) h⟩
theorem ExT.tab {ts : List Tb} (h : ExT ts) : tabI ts ⟨#[116]⟩ = some 0 := by
  obtain ⟨h1, h2, _⟩ := h.get
  obtain ⟨t, rfl⟩ := List.length_eq_one_iff.1 h1
  simp only [List.getD_cons_zero] at h2
  unfold tabI
  rw [List.findIdx?_cons, h2]
  simp
def txV (s : ByteArray) : Vl := ⟨3, 0, s⟩
def rX (n : Int) (s : ByteArray) : List Vl := [viV n, txV s]
theorem fits_put (n : Int) (s : ByteArray) (hs : s.size ≤ 60) : FitsV exCols (rX n s) := by
  refine ⟨rfl, fun i hi => ?_⟩
  have hi' : i < 2 := hi
  obtain rfl | rfl : i = 0 ∨ i = 1 := by omega
  · simp [exCols, rX, viV, txV, vvOf, holdsB, Vv.good, goodB]
    try decide +kernel
  · simp [exCols, rX, viV, txV, vvOf, holdsB, Vv.good, goodB, hs]
theorem fits_del (n : Int) : FitsV (exCols.take 1) [viV n] := by
  refine ⟨rfl, fun i hi => ?_⟩
  have hi' : i < 1 := hi
  obtain rfl : i = 0 := by omega
  simp [exCols, viV, vvOf, holdsB, Vv.good, goodB]
  try decide +kernel
open Classical in
theorem ExT.claimPut {ts : List Tb} (h : ExT ts) (sp : List (Int × List Vl)) (n : Int) (s : ByteArray) (a : Ptr) (c : Nat) (hs : s.size ≤ 60) (hsp : sp.any (hitM 0 [viV n]) = false) : claimM ts sp ⟨1, ⟨#[116]⟩, ⟨a, c, rX n s⟩⟩ = .ok (0, [viV n]) := by
  obtain ⟨_, _, h3, h4⟩ := h.get
  unfold claimM
  rw [if_neg (by simp)]
  simp only [h.tab]
  have hk : keyM (ts.getD 0 default) ⟨1, ⟨#[116]⟩, ⟨a, c, rX n s⟩⟩ = some [viV n] := by
    unfold keyM
    rw [if_neg (by simp), h3, h4, if_pos (fits_put n s hs)]
    rfl
  rw [hk]
  have hsp' : sp.any (hitM ((0 : Nat) : Int) [viV n]) = false := hsp
  simp only [hsp']
  rfl
open Classical in
theorem ExT.claimDel {ts : List Tb} (h : ExT ts) (sp : List (Int × List Vl)) (n : Int) (a : Ptr) (c : Nat) (hsp : sp.any (hitM 0 [viV n]) = false) : claimM ts sp ⟨2, ⟨#[116]⟩, ⟨a, c, [viV n]⟩⟩ = .ok (0, [viV n]) := by
  obtain ⟨_, _, h3, h4⟩ := h.get
  unfold claimM
  rw [if_neg (by simp)]
  simp only [h.tab]
  have hk : keyM (ts.getD 0 default) ⟨2, ⟨#[116]⟩, ⟨a, c, [viV n]⟩⟩ = some [viV n] := by
    unfold keyM
    rw [if_pos rfl, h3, h4]
    rw [show (1 : Int).toNat = 1 from rfl, if_pos (fits_del n)]
  rw [hk]
  have hsp' : sp.any (hitM ((0 : Nat) : Int) [viV n]) = false := hsp
  simp only [hsp']
  rfl
end Go.Proofs.YtnfpomjcofhppaaGreatDoor
namespace Go.Proofs.YtnfpomjcofhppaaGreatDoor
open Go.RowKit

/-- A catalog that is right, as far as the store asks. -/
structure CatOk (ts : List Tb) : Prop where
  six : ts.length ≤ 6
  tab : ∀ i, i < ts.length → 1 ≤ (ts.getD i default).k ∧ (ts.getD i default).k ≤ (ts.getD i default).l.length ∧ (ts.getD i default).l.length ≤ 8 ∧ (ts.getD i default).l.length ≤ (ts.getD i default).cap
  name : ∀ i, i < ts.length → nameB (ts.getD i default).n = true
  apart : ∀ i, i < ts.length → ∀ j, j < i → ((ts.getD j default).n.toList == (ts.getD i default).n.toList) = false
theorem any_hit (l : List Spt) (i : Int) (k : List Vl) : (l.map Spt.p).any (hitM i k) = l.any (spHit i k) := by
  rw [List.any_map]
  rfl
theorem SpA.of {R : Nat → Prop} {w : World} {D : Nat} {d : Dm} (h : DAt R w D d) (hl : d.sp.length ≤ 1000000) : SpA w d.spa d.sp ∧ d.sp.length ≤ d.spc := by
  have ho := h.osp
  rcases ho.2 with ⟨hv, h0⟩ | ⟨g, cap, cur, hv, hb, hg, hc, _⟩
  · exact ⟨⟨hl, fun x hx => (h.rsp x hx).row, .inl (List.eq_nil_of_length_eq_zero h0)⟩, by omega⟩
  · obtain ⟨e1, e2⟩ : d.spa = some ⟨g, 0, none⟩ ∧ d.spc = cap := by have := Value.slice.inj hv; exact ⟨this.1, this.2.2⟩
    refine ⟨⟨hl, fun x hx => (h.rsp x hx).row, .inr ⟨g, 0, e1, fun i hi => ?_⟩⟩, by rw [e2]; exact hc⟩
    have c := World.ownsRow.cells ho (g := g) (by rw [e1]; rfl)
    have k := sp_at d.sp i hi
    have c0 := c _ _ k.1
    have c1 := c _ _ k.2
    rw [add_atT] at c0 c1
    exact ⟨c0, c1⟩
/-- What claim answers. -/
def Claimed (R : Nat → Prop) (D : Nat) (d : Dm) (cm : Except Int (Nat × List Vl)) (w : World) (e : Ending) (w' : World) : Prop :=
  (∃ c, cm = .error c ∧ e = .returned (.tuple #[.agg #[.int .i64 0, .slice none 0 0], .iface 87 (.int .i64 c)]) ∧ w.grownBy w' none)
  ∨ (∃ (i : Nat) (key : List Vl) (ka : Ptr) (kc : Nat) (spa : Ptr) (spc : Nat), cm = .ok (i, key) ∧ i < d.ts.length ∧ e = .returned (.tuple #[.agg #[.int .i64 i, .slice ka key.length kc], .nilIface]) ∧ DAt R w' D { d with spa := spa, spc := spc, sp := d.sp ++ [⟨i, ⟨ka, kc, key⟩⟩] } ∧ Only (fun k => k = D ∨ bk d.spa k) w w' ∧ ∀ k, bk spa k → bk d.spa k ∨ w.heap.size ≤ k)
theorem DAt.claimed {R : Nat → Prop} {w W2 w4 wf : World} {D : Nat} {d : Dm} {i : Int} {ka spa : Ptr} {kc spc : Nat} {key : List Vl} (h : DAt R w D d) (hg : w.grownBy W2 none) (hk : RwS (fun b => (¬ d.M R D b ∧ b < w.heap.size) ∨ w.heap.size + 1 + 1 ≤ b) W2 ka key)
    (_hown : w4.ownsRow (D + 1) 165 2 (.slice spa (d.sp.length + 1) spc) (d.sp.length + 1) (d.sp.flatMap Spt.c ++ [.int .i64 i, .slice ka key.length kc])) (h4 : W2.grownBy w4 (Value.slice d.spa d.sp.length d.spc).ownBlock) (hb4 : ∀ k, bk spa k → bk d.spa k ∨ W2.heap.size ≤ k)
    (hD : wf.heap[D]? = some (.cells (dC d.ca d.ts.length d.cc d.ver d.ps d.cha d.ch.length d.chc spa (d.sp.length + 1) spc) 86 (0, 0))) (hf : Only (fun k => k = D ∨ k = w.heap.size + 1) w4 wf) (hof : wf.ownsRow (D + 1) 165 2 (.slice spa (d.sp.length + 1) spc) (d.sp.length + 1) (d.sp.flatMap Spt.c ++ [.int .i64 i, .slice ka key.length kc])) :
    DAt R wf D { d with spa := spa, spc := spc, sp := d.sp ++ [⟨i, ⟨ka, kc, key⟩⟩] } ∧ Only (fun k => k = D ∨ bk d.spa k) w wf ∧ ∀ k, bk spa k → bk d.spa k ∨ w.heap.size ≤ k := by
  have hsz := hg.size
  have ho1 : Only (fun k => k = D ∨ bk d.spa k) w wf := ((Only.of_none hg).grown h4 (fun j hj => .inl (.inr ((bk_own _ _ _ _).1 hj)))).trans hf (fun k hk => by
    rcases hk with hk | hk
    · exact .inl (.inl hk)
    · exact .inr (by omega))
  have hbk : ∀ k, bk spa k → bk d.spa k ∨ w.heap.size ≤ k := fun k hk => (hb4 k hk).imp id (fun e => by omega)
  have hlt := h.lt
  have hap := h.apart
  have hown' := h.own
  have hch : ∀ k, bk d.cha k → k < w.heap.size := fun k hk => (World.ownsRow.lt h.och k ((bk_own _ _ _ _).2 hk)).2
  refine ⟨h.step (ho1.mono (fun k _ hk => hk.imp id .inr)) (fun k e => .inl e) hbk rfl rfl (by simpa using hD) (fun _ _ => .inl ⟨rfl, rfl⟩) ?_ (fun _ hx => .inl hx) (by simpa [Spt.c, Rw.v] using hof) (fun x hx => ?_), ho1, hbk⟩
  · refine own_only h.och ho1 (fun g hg e => ?_)
    have hgc := (bk_own _ _ _ _).1 hg
    rcases e with e | e
    · have := hown'.1 g hgc; omega
    · exact hap g hgc e
  · simp only [List.mem_append, List.mem_singleton] at hx
    rcases hx with hx | rfl
    · exact .inl hx
    · refine .inr ?_
      have e1 : RwS (fun b => ¬ Dm.M R D { d with spa := spa, spc := spc, sp := d.sp ++ [⟨i, ⟨ka, kc, key⟩⟩] } b ∧ ¬ (b = D ∨ bk d.spa b) ∧ b ≠ w.heap.size + 1) W2 ka key := hk.mono (fun b hb hs => by
        have key : ¬ (b = D ∨ bk d.spa b) ∧ ¬ bk d.cha b ∧ ¬ R b ∧ b ≠ w.heap.size + 1 := by
          rcases hs with ⟨hs, hbl⟩ | hs
          · exact ⟨fun e => hs (e.imp id (fun e => .inr (.inl e))), fun e => hs (.inr (.inl e)), fun e => hs (.inr (.inr (.inr e))), by omega⟩
          · refine ⟨fun e => ?_, fun e => ?_, fun e => ?_, by omega⟩
            · have := h.Mlt b (e.imp id (fun e => .inr (.inl e))); omega
            · have := hch b e; omega
            · have := h.Mlt b (.inr (.inr (.inr e))); omega
        refine ⟨fun e => ?_, key.1, key.2.2.2⟩
        rcases e with e | e | e | e
        · exact key.1 (.inl e)
        · exact key.2.1 e
        · rcases hb4 b e with e | e
          · exact key.1 (.inr e)
          · omega
        · exact key.2.2.1 e)
      have e4 := e1.keep (w' := w4) ⟨h4.size, fun b hs hb => h4.block b hb (fun e => hs.2.1 (.inr ((bk_own _ _ _ _).1 e.symm)))⟩
      exact (e4.keep (hf.stays (fun b hs _ e => by
        rcases e with e | e
        · exact hs.2.1 (.inl e)
        · exact hs.2.2 e))).mono (fun b _ hs => hs.1)
end Go.Proofs.YtnfpomjcofhppaaGreatDoor
