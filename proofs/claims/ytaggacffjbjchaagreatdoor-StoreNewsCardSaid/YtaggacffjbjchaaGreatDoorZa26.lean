/- The draft's claim. -/
import Derived.Test.YtaggacffjbjchaaGreatDoorZa25
import Derived.Deep.AppendLies
namespace Go.Proofs.YtaggacffjbjchaaGreatDoor
open Go.RowKit

/-- A catalog that is right, as far as the store asks. -/
structure CatOk (ts : List Tb) : Prop where
  six : ts.length ≤ 6
  tab : ∀ i, i < ts.length → 1 ≤ (ts.getD i default).k ∧ (ts.getD i default).k ≤ (ts.getD i default).l.length ∧ (ts.getD i default).l.length ≤ 8 ∧ (ts.getD i default).l.length ≤ (ts.getD i default).cap
  name : ∀ i, i < ts.length → nameB (ts.getD i default).n = true
  apart : ∀ i, i < ts.length → ∀ j, j < i → ((ts.getD j default).n.toList == (ts.getD i default).n.toList) = false
theorem any_hit (l : List Spt) (i : Int) (k : List Vl) : (l.map Spt.p).any (hitM i k) = l.any (spHit i k) := by
  rw [List.any_map]
  rfl
theorem SpA.of {R : Nat → Prop} {w : World} {D : Nat} {d : Dm} (h : DAt R w D d) (hl : d.sp.length ≤ 1000000) : SpA w d.spa d.sp ∧ d.sp.length ≤ d.spc := by
  have ho := h.osp
  rcases ho.2 with ⟨hv, h0⟩ | ⟨g, cap, cur, hv, hb, hg, hc, _⟩
  · exact ⟨⟨hl, fun x hx => (h.rsp x hx).row, .inl (List.eq_nil_of_length_eq_zero h0)⟩, by omega⟩
  · obtain ⟨e1, e2⟩ : d.spa = some ⟨g, 0, none⟩ ∧ d.spc = cap := by have := Value.slice.inj hv; exact ⟨this.1, this.2.2⟩
    refine ⟨⟨hl, fun x hx => (h.rsp x hx).row, .inr ⟨g, 0, e1, fun i hi => ?_⟩⟩, by rw [e2]; exact hc⟩
    have c := World.ownsRow.cells ho (g := g) (by rw [e1]; rfl)
    have k := sp_at d.sp i hi
    have c0 := c _ _ k.1
    have c1 := c _ _ k.2
    rw [add_atT] at c0 c1
    exact ⟨c0, c1⟩
/-- What claim answers. -/
def Claimed (R : Nat → Prop) (D : Nat) (d : Dm) (cm : Except Int (Nat × List Vl)) (w : World) (e : Ending) (w' : World) : Prop :=
  (∃ c, cm = .error c ∧ e = .returned (.tuple #[.agg #[.int .i64 0, .slice none 0 0], .iface 112 (.int .i64 c)]) ∧ w.grownBy w' none)
  ∨ (∃ (i : Nat) (key : List Vl) (ka : Ptr) (kc : Nat) (spa : Ptr) (spc : Nat), cm = .ok (i, key) ∧ i < d.ts.length ∧ e = .returned (.tuple #[.agg #[.int .i64 i, .slice ka key.length kc], .nilIface]) ∧ DAt R w' D { d with spa := spa, spc := spc, sp := d.sp ++ [⟨i, ⟨ka, kc, key⟩⟩] } ∧ Only (fun k => k = D ∨ bk d.spa k) w w' ∧ ∀ k, bk spa k → bk d.spa k ∨ w.heap.size ≤ k)
theorem DAt.claimed {R : Nat → Prop} {w W2 w4 wf : World} {D : Nat} {d : Dm} {i : Int} {ka spa : Ptr} {kc spc : Nat} {key : List Vl} (h : DAt R w D d) (hg : w.grownBy W2 none) (hk : RwS (fun b => (¬ d.M R D b ∧ b < w.heap.size) ∨ w.heap.size + 1 + 1 ≤ b) W2 ka key)
    (_hown : w4.ownsRow (D + 1) 189 2 (.slice spa (d.sp.length + 1) spc) (d.sp.length + 1) (d.sp.flatMap Spt.c ++ [.int .i64 i, .slice ka key.length kc])) (h4 : W2.grownBy w4 (Value.slice d.spa d.sp.length d.spc).ownBlock) (hb4 : ∀ k, bk spa k → bk d.spa k ∨ W2.heap.size ≤ k)
    (hD : wf.heap[D]? = some (.cells (dC d.ca d.ts.length d.cc d.ver d.ps d.cha d.ch.length d.chc spa (d.sp.length + 1) spc) 111 (0, 0))) (hf : Only (fun k => k = D ∨ k = w.heap.size + 1) w4 wf) (hof : wf.ownsRow (D + 1) 189 2 (.slice spa (d.sp.length + 1) spc) (d.sp.length + 1) (d.sp.flatMap Spt.c ++ [.int .i64 i, .slice ka key.length kc])) :
    DAt R wf D { d with spa := spa, spc := spc, sp := d.sp ++ [⟨i, ⟨ka, kc, key⟩⟩] } ∧ Only (fun k => k = D ∨ bk d.spa k) w wf ∧ ∀ k, bk spa k → bk d.spa k ∨ w.heap.size ≤ k := by
  have hsz := hg.size
  have ho1 : Only (fun k => k = D ∨ bk d.spa k) w wf := ((Only.of_none hg).grown h4 (fun j hj => .inl (.inr ((bk_own _ _ _ _).1 hj)))).trans hf (fun k hk => by
    rcases hk with hk | hk
    · exact .inl (.inl hk)
    · exact .inr (by omega))
  have hbk : ∀ k, bk spa k → bk d.spa k ∨ w.heap.size ≤ k := fun k hk => (hb4 k hk).imp id (fun e => by omega)
  have hlt := h.lt
  have hap := h.apart
  have hown' := h.own
  have hch : ∀ k, bk d.cha k → k < w.heap.size := fun k hk => (World.ownsRow.lt h.och k ((bk_own _ _ _ _).2 hk)).2
  refine ⟨h.step (ho1.mono (fun k _ hk => hk.imp id .inr)) (fun k e => .inl e) hbk rfl rfl (by simpa using hD) (fun _ _ => .inl ⟨rfl, rfl⟩) ?_ (fun _ hx => .inl hx) (by simpa [Spt.c, Rw.v] using hof) (fun x hx => ?_), ho1, hbk⟩
  · refine own_only h.och ho1 (fun g hg e => ?_)
    have hgc := (bk_own _ _ _ _).1 hg
    rcases e with e | e
    · have := hown'.1 g hgc; omega
    · exact hap g hgc e
  · simp only [List.mem_append, List.mem_singleton] at hx
    rcases hx with hx | rfl
    · exact .inl hx
    · refine .inr ?_
      have e1 : RwS (fun b => ¬ Dm.M R D { d with spa := spa, spc := spc, sp := d.sp ++ [⟨i, ⟨ka, kc, key⟩⟩] } b ∧ ¬ (b = D ∨ bk d.spa b) ∧ b ≠ w.heap.size + 1) W2 ka key := hk.mono (fun b hb hs => by
        have key : ¬ (b = D ∨ bk d.spa b) ∧ ¬ bk d.cha b ∧ ¬ R b ∧ b ≠ w.heap.size + 1 := by
          rcases hs with ⟨hs, hbl⟩ | hs
          · exact ⟨fun e => hs (e.imp id (fun e => .inr (.inl e))), fun e => hs (.inr (.inl e)), fun e => hs (.inr (.inr (.inr e))), by omega⟩
          · refine ⟨fun e => ?_, fun e => ?_, fun e => ?_, by omega⟩
            · have := h.Mlt b (e.imp id (fun e => .inr (.inl e))); omega
            · have := hch b e; omega
            · have := h.Mlt b (.inr (.inr (.inr e))); omega
        refine ⟨fun e => ?_, key.1, key.2.2.2⟩
        rcases e with e | e | e | e
        · exact key.1 (.inl e)
        · exact key.2.1 e
        · rcases hb4 b e with e | e
          · exact key.1 (.inr e)
          · omega
        · exact key.2.2.1 e)
      have e4 := e1.keep (w' := w4) ⟨h4.size, fun b hs hb => h4.block b hb (fun e => hs.2.1 (.inr ((bk_own _ _ _ _).1 e.symm)))⟩
      exact (e4.keep (hf.stays (fun b hs _ e => by
        rcases e with e | e
        · exact hs.2.1 (.inl e)
        · exact hs.2.2 e))).mono (fun b _ hs => hs.1)
end Go.Proofs.YtaggacffjbjchaaGreatDoor
