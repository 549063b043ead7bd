/- What TreePlays makes of an act: copies of its rows, and what is written into them. -/
import Derived.Test.YtlmoefiajioeoaaTkP
import Derived.Test.YtlmoefiajioeoaaTkS
import Derived.Deep.RegionHeld3
namespace Go.Proofs.Ytlmoefiajioeoaa
open Go.RowKit

abbrev cE : Obj := .cells #[] 36
/-- A row that is appended to an empty one of one's own, nothing appended too. -/
theorem run_append_row {w : World} {B g : Nat} {ka : Ptr} {kc : Nat} {l : List Vl} (hg : w.heap[g]? = some cE) (hB : B ≤ g) (hr : RowAt w ka l) (hl : l.length ≤ 10) (ty : TypeId) :
    ∃ v' w', (Builtin.append_ #[24, 24] ty #[.slice (some ⟨g, 0, none⟩) 0 0, .slice ka l.length kc]).run Try.prog w = .ok v' w' ∧ w'.ownsRow B 36 3 v' l.length (l.flatMap vCT) ∧ w.grownBy w' (some g) ∧ (v'.ownBlock = some g ∨ v'.ownBlock = some w.heap.size) ∧ v' ≠ .slice none 0 0 := by
  obtain ⟨i0, hi, hz0, hz1, hz2⟩ := info_partsT val_infoT
  have hgl : g < w.heap.size := (Array.getElem?_eq_some_iff.1 hg).1
  have hown : w.ownsRow B 36 3 (.slice (some ⟨g, 0, none⟩) 0 0) 0 [] := ⟨by simp, .inr ⟨g, 0, #[], rfl, hB, hg, Nat.le_refl _, Nat.zero_le _, by simp, by simp⟩⟩
  cases ka with
  | none =>
    obtain rfl : l = [] := by
      rcases hr.2.2 with h | ⟨b, off, e, _⟩
      · exact h
      · cases e
    have hfc := run_firstCells_none (P := Try.prog) w i0.size 0 0 kc
    have hst := run_storeCells_cells (P := Try.prog) g 0 [] 0 w (by simp) (by simp) (by simp)
    refine ⟨.slice (some ⟨g, 0, none⟩) 0 0, w, ?_, hown, grown_reflT _ _, .inl rfl, by simp⟩
    simp [Builtin.append_, run_underlying Try.underlying24, sizeOf, typeInfo, hi, Builtin.lenOf, hfc, Addr.add_lit, hst]
    rfl
  | some ad =>
    have hc : ∀ j u, (l.flatMap vCT)[j]? = some u → w.cell? (ad.add j) = some u := fun j u hj => by
      rcases hr.2.2 with h0 | ⟨b, off, e, hlt, hc⟩
      · rw [h0] at hj; simp at hj
      · cases e
        have := vl_cells (w := w) (b := b) (off := off) (r := l) hc l.length 0 (by omega) j u (by simpa using hj)
        simpa using this
    obtain ⟨v', w', hrun, r1, r2, r3, r4⟩ := run_append_own_at (P := Try.prog) w B 24 ty 36 i0 (.agg #[.int .i64 0, .int .i64 0, .string ⟨#[]⟩]) 3 32 Try.underlying24 hi hz0 hz1 hz2 rfl (by decide) (.slice (some ⟨g, 0, none⟩) 0 0) 0 [] hown ad l.length kc (l.flatMap vCT) (vCT_len l) hc (vCT_one l) (by unfold maxLen; omega) (by omega) (by omega)
    refine ⟨v', w', hrun, by simpa using r1, r2, ?_, fun e => by simpa using r3.1 e⟩
    rcases r4 with e | e
    · exact .inl (by rw [e]; rfl)
    · exact .inr e
theorem step_append_row {ops : Array Oper} {o : Oper} {a : Act} {K : Act → World → Prop} {Q : Exit → Act → World → Prop} {E : Prop} (w : World) (hw : Region.wanted o (yielded ops a.tmps) = true) (s x : Operand)
    (ho : o.op = .call { callee := .builtin .append, args := #[s, x], argTypes := #[24, 24] })
    {B g : Nat} {ka : Ptr} {m kc : Nat} {l : List Vl} (hg : w.heap[g]? = some cE) (hB : B ≤ g) (hr : RowAt w ka l) (hl : l.length ≤ 10) (hm : m = l.length)
    (hs : a.eval s = .slice (some ⟨g, 0, none⟩) 0 0) (hx : a.eval x = .slice ka m kc)
    (hk : ∀ v' w', w'.ownsRow B 36 3 v' l.length (l.flatMap vCT) → w.grownBy w' (some g) → (v'.ownBlock = some g ∨ v'.ownBlock = some w.heap.size) → K (a.put o.dst v') w') :
    if Region.wanted o (yielded ops a.tmps) = true then Oper.wp Try.prog o a w K Q else E := by
  subst hm
  rw [if_pos hw]
  obtain ⟨v', w', hr', h1, h2, h3, _⟩ := run_append_row (kc := kc) hg hB hr hl o.type
  unfold Oper.wp execOp
  simp only [ho, resolve, invoke, builtin, Sem.run_bind, Sem.run_pure, Result.andThen_ok, List.map_toArray, List.map_cons, List.map_nil, hs, hx, hr']
  exact hk v' w' h1 h2 h3
theorem two_e (w : World) (o o' : Obj) : ((w.alloc o).alloc o').heap[w.heap.size]? = some o ∧ ((w.alloc o).alloc o').heap[w.heap.size + 1]? = some o' := by
  constructor
  · rw [Below.heap_alloc _ _ _ (by simp)]; exact heap_alloc_new w o
  · have := heap_alloc_new (w.alloc o) o'
    rw [show (w.alloc o).heap.size = w.heap.size + 1 by simp] at this
    exact this
theorem copies_end {W P w3 P' w4 : World} {g1 g2 ky rz : Nat} {v1 v2 : Value} {xs1 xs2 : List Value} (hWP : W.grownBy P none) (hg1 : W.heap.size ≤ g1) (_hg1' : g1 < P.heap.size)
    (o1 : w3.ownsRow W.heap.size 36 3 v1 ky xs1) (gr1 : P.grownBy w3 (some g1)) (at1 : v1.ownBlock = some g1 ∨ v1.ownBlock = some P.heap.size)
    (hP' : w3.grownBy P' none) (hg2 : W.heap.size ≤ g2) (h12 : g2 ≠ g1) (hg2' : g2 < P.heap.size ∨ w3.heap.size ≤ g2)
    (o2 : w4.ownsRow W.heap.size 36 3 v2 rz xs2) (gr2 : P'.grownBy w4 (some g2)) (at2 : v2.ownBlock = some g2 ∨ v2.ownBlock = some P'.heap.size) :
    w4.ownsRow W.heap.size 36 3 v1 ky xs1 ∧ w4.ownsRow W.heap.size 36 3 v2 rz xs2 ∧ (∀ g, v1.ownBlock = some g → v2.ownBlock ≠ some g) ∧ W.grownBy w4 none := by
  have hv1 : v1.ownBlock ≠ some g2 := fun e => by
    have hl := (World.ownsRow.lt o1 g2 e).2
    rcases at1 with q | q
    · rw [e] at q; exact h12 (Option.some.inj q)
    · rw [e] at q
      have := Option.some.inj q
      have := gr1.size
      omega
  refine ⟨World.ownsRow.kept (World.ownsRow.kept o1 hP' (by cases v1.ownBlock <;> simp)) gr2 (.inr hv1), o2, fun g e1 e2 => ?_, ?_⟩
  · have hl := (World.ownsRow.lt o1 g e1).2
    rcases at2 with q | q
    · rw [e2] at q; exact hv1 (by rw [e1, q])
    · rw [e2] at q
      have := Option.some.inj q
      have := hP'.size
      omega
  · exact grown_thenT ((grown_thenT hWP gr1 (fun j e => by cases e; exact hg1)).trans hP') gr2 (fun j e => by cases e; exact hg2)
theorem heap_e {w w' : World} {g g' : Nat} (h : w.heap[g]? = some cE) (hg : w.grownBy w' (some g')) (hne : g ≠ g') : w'.heap[g]? = some cE :=
  (hg.block g (Array.getElem?_eq_some_iff.1 h).1 (fun e => hne (Option.some.inj e))).trans h
end Go.Proofs.Ytlmoefiajioeoaa
