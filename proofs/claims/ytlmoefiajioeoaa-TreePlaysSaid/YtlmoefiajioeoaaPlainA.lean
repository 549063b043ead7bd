/- What opens the arguments of layer 7's laws: rows, acts. -/
import Derived.Test.YtlmoefiajioeoaaTkFit
import Derived.Test.YtlmoefiajioeoaaPlainT
namespace Go.Proofs.Ytlmoefiajioeoaa
open Go.ChangeShapes Go.WideShapes Go.ChangeAt Go.RowKit Go.Joins Go.Deep

theorem addA_plain (b o k : Nat) : (⟨b, o, none⟩ : Addr).add k = ⟨b, o + k, none⟩ := by
  unfold Addr.add
  by_cases h : k = 0
  · subst h; simp
  · simp [h]
theorem blockA_of_cell {w : World} {b o : Nat} {v : Value} (h : w.cell? ⟨b, o, none⟩ = some v) : b < w.heap.size := by
  rcases Nat.lt_or_ge b w.heap.size with h' | h'
  · exact h'
  · simp [World.cell?, Array.getElem?_eq_none h'] at h
theorem cellA_plain {W : World} {a : Addr} {v : Value} (h : W.cell? (a.add 0) = some v) : a = ⟨a.block, a.off, none⟩ := by
  obtain ⟨b, off, spot⟩ := a
  have : spot = none := by simpa [Addr.add] using World.cell?_spot h
  subst this
  rfl
section
variable {H : Type} {enc : TypeId × Value → H}

set_option maxRecDepth 100000 in
theorem valueA_cells {W : World} {base n : Nat} {spare : Nat → Bool} {held : Bool} {cs : List Value} {y : DataW H × List MemPlace} (ht : DataW.trod enc Try.prog W base spare held n 36 cs = some y) (hcl : cs.length = 3) :
    ∃ x : Vl, cs = [.int .i64 x.k, .int .i64 x.n, .string x.s] ∧ x.s.size ≤ maxLen := by
  obtain ⟨c0, c1, c2, rfl⟩ : ∃ c0 c1 c2, cs = [c0, c1, c2] := by
    match cs, hcl with
    | [c0, c1, c2], _ => exact ⟨c0, c1, c2, rfl⟩
  obtain ⟨y0, y1, y2, m, _, _, h0, h1, h2⟩ := trod_struct3 Try.underlying36 ht
  have k0 : Try.prog.cellsOf 34 = 1 := by kernel_rfl
  have k1 : Try.prog.cellsOf 3 = 1 := by kernel_rfl
  have k2 : Try.prog.cellsOf 9 = 1 := by kernel_rfl
  simp only [k0, k1, k2, List.drop_zero, List.drop_succ_cons, List.take_succ_cons, List.take_zero] at h0 h1 h2
  obtain ⟨k, e0, _, _⟩ := DataW.trod_int Try.underlying34 h0
  obtain ⟨n, e1, _, wn⟩ := DataW.trod_int Try.underlying3 h1
  obtain ⟨s, e2, _, hs⟩ := DataW.trod_string Try.underlying9 h2
  simp only [List.cons.injEq, and_true] at e0 e1 e2
  subst e0 e1 e2
  exact ⟨⟨k, n, s⟩, rfl, hs⟩
theorem cellsA_value : Try.prog.cellsOf 36 = 3 := by kernel_rfl
theorem cellsA_row : Try.prog.cellsOf 24 = 1 := by kernel_rfl
theorem cellsA_act : Try.prog.cellsOf 31 = 3 := by kernel_rfl
set_option maxRecDepth 100000 in
theorem rowA_cells {W : World} {fuel : Nat} {cs : List Value} {y : DataW H × List MemPlace} (hf : DataW.trod enc Try.prog W 0 (fun _ => true) true fuel 24 cs = some y) :
    ∃ (a : Option Addr) (cap : Nat) (l : List Vl), cs = [.slice a l.length cap] ∧ RowAt W a l ∧ l.length ≤ cap := by
  rcases open_slice Try.underlying24 hf with ⟨hcs, _⟩ | ⟨x, len, cap', m, n, D, Pl, hcs, _, hl, hm, hmm, _, hi⟩
  · exact ⟨none, 0, [], hcs, ⟨by simp, by simp, .inl rfl⟩, Nat.le_refl _⟩
  · simp only [if_true] at hmm
    subst hmm
    have hx : ∀ i, i < len → ∃ x' : Vl, x'.s.size ≤ maxLen ∧ W.cell? ((x.add (i * Try.prog.cellsOf 36)).add 0) = some (.int .i64 x'.k) ∧ W.cell? ((x.add (i * Try.prog.cellsOf 36)).add 1) = some (.int .i64 x'.n) ∧ W.cell? ((x.add (i * Try.prog.cellsOf 36)).add 2) = some (.string x'.s) := fun i hilt => by
      obtain ⟨cs', hc, ht⟩ := hi i (by omega)
      obtain ⟨_, hcl, hat⟩ := World.cells?_some hc
      obtain ⟨x', e, hs⟩ := valueA_cells ht (hcl.trans cellsA_value)
      subst e
      exact ⟨x', hs, hat 0 (by rw [cellsA_value]; decide), hat 1 (by rw [cellsA_value]; decide), hat 2 (by rw [cellsA_value]; decide)⟩
    obtain ⟨f, hfun⟩ := choose_lt hx
    rw [cellsA_value] at hfun
    have hlen : ((List.range len).map f).length = len := by simp
    have hget : ∀ i, i < len → ((List.range len).map f).getD i default = f i := fun i hilt => by simp [List.getD, hilt]
    refine ⟨some x, m, (List.range len).map f, by rw [hlen]; exact hcs, ⟨by rw [hlen]; unfold maxLen at hm; omega, fun z hz => ?_, ?_⟩, by rw [hlen]; exact hl⟩
    · rw [List.mem_map] at hz
      obtain ⟨i, hir, rfl⟩ := hz
      exact (hfun i (by simpa using hir)).1
    · by_cases h0 : len = 0
      · left; subst h0; rfl
      · right
        have hp : x = ⟨x.block, x.off, none⟩ := cellA_plain (W := W) (v := .int .i64 (f 0).k) (by have := (hfun 0 (by omega)).2.1; simpa [Addr.add] using this)
        have hc0 := (hfun 0 (by omega)).2.1
        rw [hp] at hc0
        refine ⟨x.block, x.off, by rw [← hp], blockA_of_cell hc0, fun i hilt => ?_⟩
        rw [hlen] at hilt
        rw [hget i hilt]
        have := (hfun i hilt).2
        rw [hp] at this
        simpa only [addA_plain, Nat.add_zero] using this
set_option maxRecDepth 100000 in
theorem open_rowT {W : World} {b0 : Nat} {v : Value} {d : DataW H} {p : List MemPlace} (hv : Value.okWide Try.prog W .any b0 24 v) (h : DataW.Trod enc Try.prog W 0 (fun _ => true) true 24 v d p) :
    ∃ (a : Option Addr) (cap : Nat) (l : List Vl), v = .slice a l.length cap ∧ l.length ≤ cap ∧ RowAt W a l := by
  obtain ⟨a, len, cap, rfl⟩ := okWide_slice Try.underlying24 hv
  obtain ⟨fuel, hf⟩ := h
  obtain ⟨a', cap', l, e, hr, hc⟩ := rowA_cells hf
  simp only [Value.cells, List.cons.injEq, and_true] at e
  exact ⟨a', cap', l, e, hc, hr⟩
set_option maxRecDepth 100000 in
theorem actA_cells {W : World} {n : Nat} {cs : List Value} {y : DataW H × List MemPlace} (ht : DataW.trod enc Try.prog W 0 (fun _ => true) true n 31 cs = some y) (hcl : cs.length = 3) :
    ∃ x : Aw, cs = [.bool x.d, x.k.v, x.r.v] ∧ RowAt W x.k.a x.k.l ∧ RowAt W x.r.a x.r.l := by
  obtain ⟨c0, c1, c2, rfl⟩ : ∃ c0 c1 c2, cs = [c0, c1, c2] := by
    match cs, hcl with
    | [c0, c1, c2], _ => exact ⟨c0, c1, c2, rfl⟩
  obtain ⟨y0, y1, y2, m, _, _, h0, h1, h2⟩ := trod_struct3 Try.underlying31 ht
  have k0 : Try.prog.cellsOf 4 = 1 := by kernel_rfl
  simp only [k0, cellsA_row, List.drop_zero, List.drop_succ_cons, List.take_succ_cons, List.take_zero] at h0 h1 h2
  obtain ⟨b, e0, _⟩ := DataW.trod_bool Try.underlying4 h0
  obtain ⟨ka, kc, kl, e1, hk, _⟩ := rowA_cells h1
  obtain ⟨ra, rc, rl, e2, hr, _⟩ := rowA_cells h2
  simp only [List.cons.injEq, and_true] at e0 e1 e2
  subst e0 e1 e2
  exact ⟨⟨b, ⟨ka, kc, kl⟩, ⟨ra, rc, rl⟩⟩, rfl, hk, hr⟩
set_option maxRecDepth 100000 in
theorem open_acts {W : World} {b0 : Nat} {v : Value} {d : DataW H} {p : List MemPlace} (hv : Value.okWide Try.prog W .any b0 22 v) (h : DataW.Trod enc Try.prog W 0 (fun _ => true) true 22 v d p) :
    ∃ (a : Option Addr) (cap : Nat) (l : List Aw), v = .slice a l.length cap ∧ l.length ≤ cap ∧ AcAt W a l := by
  obtain ⟨a, len, cap, rfl⟩ := okWide_slice Try.underlying22 hv
  obtain ⟨fuel, hf⟩ := h
  rcases open_slice Try.underlying22 hf with ⟨hcs, _⟩ | ⟨x, len', cap', m, n, D, Pl, hcs, _, hl, hm, hmm, _, hi⟩
  · simp [Value.cells] at hcs
    obtain ⟨rfl, rfl, rfl⟩ := hcs
    exact ⟨none, 0, [], rfl, Nat.le_refl _, ⟨by simp, by simp, .inl rfl⟩⟩
  · simp [Value.cells] at hcs
    obtain ⟨rfl, rfl, rfl⟩ := hcs
    simp only [if_true] at hmm
    subst hmm
    have hx : ∀ i, i < len → ∃ z : Aw, (RowAt W z.k.a z.k.l ∧ RowAt W z.r.a z.r.l) ∧ W.cell? ((x.add (i * Try.prog.cellsOf 31)).add 0) = some (.bool z.d) ∧ W.cell? ((x.add (i * Try.prog.cellsOf 31)).add 1) = some z.k.v ∧ W.cell? ((x.add (i * Try.prog.cellsOf 31)).add 2) = some z.r.v := fun i hilt => by
      obtain ⟨cs', hc, ht⟩ := hi i (by omega)
      obtain ⟨_, hcl, hat⟩ := World.cells?_some hc
      obtain ⟨z, e, hz⟩ := actA_cells ht (hcl.trans cellsA_act)
      subst e
      exact ⟨z, hz, hat 0 (by rw [cellsA_act]; decide), hat 1 (by rw [cellsA_act]; decide), hat 2 (by rw [cellsA_act]; decide)⟩
    obtain ⟨f, hfun⟩ := choose_lt hx
    rw [cellsA_act] at hfun
    have hlen : ((List.range len).map f).length = len := by simp
    have hget : ∀ i, i < len → ((List.range len).map f).getD i default = f i := fun i hilt => by simp [List.getD, hilt]
    refine ⟨some x, m, (List.range len).map f, by rw [hlen], by rw [hlen]; exact hl, ⟨by rw [hlen]; unfold maxLen at hm; omega, fun z hz => ?_, ?_⟩⟩
    · rw [List.mem_map] at hz
      obtain ⟨i, hir, rfl⟩ := hz
      exact (hfun i (by simpa using hir)).1
    · by_cases h0 : len = 0
      · left; subst h0; rfl
      · right
        have hp : x = ⟨x.block, x.off, none⟩ := cellA_plain (W := W) (v := .bool (f 0).d) (by have := (hfun 0 (by omega)).2.1; simpa [Addr.add] using this)
        have hc0 := (hfun 0 (by omega)).2.1
        rw [hp] at hc0
        refine ⟨x.block, x.off, by rw [← hp], blockA_of_cell hc0, fun i hilt => ?_⟩
        rw [hlen] at hilt
        rw [hget i hilt]
        have := (hfun i hilt).2
        rw [hp] at this
        simpa only [addA_plain, Nat.add_zero] using this
end
end Go.Proofs.Ytlmoefiajioeoaa
