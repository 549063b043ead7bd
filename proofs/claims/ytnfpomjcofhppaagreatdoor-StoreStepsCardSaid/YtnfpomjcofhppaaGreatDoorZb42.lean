/- What opens the arguments of layer 9's laws: catalogs, operations, commits. Any catalog's store behind a commit, with its kept history. Lists of slices of rows: one's own, and in memory. -/
import Derived.Test.YtnfpomjcofhppaaGreatDoorZb10
import Derived.Test.YtnfpomjcofhppaaGreatDoorZb41
import Derived.Test.YtnfpomjcofhppaaGreatDoorZb37
namespace Go.Proofs.YtnfpomjcofhppaaGreatDoor
open Go.ChangeShapes Go.WideShapes Go.ChangeAt Go.RowKit Go.Joins Go.Deep

section
variable {H : Type} {enc : TypeId × Value → H}
theorem cellsG_table : Tryz.prog.cellsOf 50 = 3 := by kernel_rfl
theorem cellsG_op : Tryz.prog.cellsOf 70 = 3 := by kernel_rfl
theorem cellsG_row : Tryz.prog.cellsOf 55 = 1 := by kernel_rfl
theorem cellsG_value : Tryz.prog.cellsOf 74 = 3 := by kernel_rfl
theorem cellsG_ops : Tryz.prog.cellsOf 32 = 1 := by kernel_rfl
theorem cellsG_cols : Tryz.prog.cellsOf 48 = 1 := by kernel_rfl
set_option maxRecDepth 100000 in
theorem valueG_cells {W : World} {base n : Nat} {spare : Nat → Bool} {held : Bool} {cs : List Value} {y : DataW H × List MemPlace} (ht : DataW.trod enc Tryz.prog W base spare held n 74 cs = some y) (hcl : cs.length = 3) :
    ∃ x : Vl, cs = [.int .i64 x.k, .int .i64 x.n, .string x.s] ∧ x.s.size ≤ maxLen := by
  obtain ⟨c0, c1, c2, rfl⟩ : ∃ c0 c1 c2, cs = [c0, c1, c2] := by
    match cs, hcl with
    | [c0, c1, c2], _ => exact ⟨c0, c1, c2, rfl⟩
  obtain ⟨y0, y1, y2, m, _, _, h0, h1, h2⟩ := trod_struct3 Tryz.underlying74 ht
  have k0 : Tryz.prog.cellsOf 72 = 1 := by kernel_rfl
  have k1 : Tryz.prog.cellsOf 3 = 1 := by kernel_rfl
  have k2 : Tryz.prog.cellsOf 9 = 1 := by kernel_rfl
  simp only [k0, k1, k2, List.drop_zero, List.drop_succ_cons, List.take_succ_cons, List.take_zero] at h0 h1 h2
  obtain ⟨k, e0, _, _⟩ := DataW.trod_int Tryz.underlying72 h0
  obtain ⟨n, e1, _, wn⟩ := DataW.trod_int Tryz.underlying3 h1
  obtain ⟨s, e2, _, hs⟩ := DataW.trod_string Tryz.underlying9 h2
  simp only [List.cons.injEq, and_true] at e0 e1 e2
  subst e0 e1 e2
  exact ⟨⟨k, n, s⟩, rfl, hs⟩
set_option maxRecDepth 100000 in
/-- A row that comes in: of any length. -/
theorem rowG_cells {W : World} {fuel : Nat} {cs : List Value} {y : DataW H × List MemPlace} (hf : DataW.trod enc Tryz.prog W 0 (fun _ => true) true fuel 55 cs = some y) :
    ∃ (a : Option Addr) (cap : Nat) (l : List Vl), cs = [.slice a l.length cap] ∧ (l.length ≤ 4294967296 → RwS (fun j => j < W.heap.size) W a l) ∧ RowAt W a l ∧ l.length ≤ cap := by
  rcases open_slice Tryz.underlying55 hf with ⟨hcs, _⟩ | ⟨x, len, cap', m, n, D, Pl, hcs, _, hl, hm, hmm, _, hi⟩
  · exact ⟨none, 0, [], hcs, fun _ => ⟨by simp, by simp, .inl rfl⟩, ⟨by simp, by simp, .inl rfl⟩, Nat.le_refl _⟩
  · simp only [if_true] at hmm
    subst hmm
    have hx : ∀ i, i < len → ∃ x' : Vl, x'.s.size ≤ maxLen ∧ W.cell? ((x.add (i * Tryz.prog.cellsOf 74)).add 0) = some (.int .i64 x'.k) ∧ W.cell? ((x.add (i * Tryz.prog.cellsOf 74)).add 1) = some (.int .i64 x'.n) ∧ W.cell? ((x.add (i * Tryz.prog.cellsOf 74)).add 2) = some (.string x'.s) := fun i hilt => by
      obtain ⟨cs', hc, ht⟩ := hi i (by omega)
      obtain ⟨_, hcl, hat⟩ := World.cells?_some hc
      obtain ⟨x', e, hs⟩ := valueG_cells ht (hcl.trans cellsG_value)
      subst e
      exact ⟨x', hs, hat 0 (by rw [cellsG_value]; decide), hat 1 (by rw [cellsG_value]; decide), hat 2 (by rw [cellsG_value]; decide)⟩
    obtain ⟨f, hfun⟩ := choose_lt hx
    rw [cellsG_value] at hfun
    have hlen : ((List.range len).map f).length = len := by simp
    have hget : ∀ i, i < len → ((List.range len).map f).getD i default = f i := fun i hilt => by simp [List.getD, hilt]
    have hsz : ∀ z ∈ (List.range len).map f, z.s.size ≤ maxLen := fun z hz => by
      rw [List.mem_map] at hz
      obtain ⟨i, hir, rfl⟩ := hz
      exact (hfun i (by simpa using hir)).1
    have key : (List.range len).map f = [] ∨ ∃ b off, some x = some (⟨b, off, none⟩ : Addr) ∧ b < W.heap.size ∧ ∀ i, i < ((List.range len).map f).length → W.cell? ⟨b, off + i * 3, none⟩ = some (.int .i64 (((List.range len).map f).getD i default).k) ∧ W.cell? ⟨b, off + i * 3 + 1, none⟩ = some (.int .i64 (((List.range len).map f).getD i default).n) ∧ W.cell? ⟨b, off + i * 3 + 2, none⟩ = some (.string (((List.range len).map f).getD i default).s) := by
      by_cases h0 : len = 0
      · left; subst h0; rfl
      · right
        have hp : x = ⟨x.block, x.off, none⟩ := cellS_plain (W := W) (v := .int .i64 (f 0).k) (by have := (hfun 0 (by omega)).2.1; simpa [Addr.add] using this)
        have hc0 := (hfun 0 (by omega)).2.1
        rw [hp] at hc0
        refine ⟨x.block, x.off, by rw [← hp], blockS_of_cell hc0, fun i hilt => ?_⟩
        rw [hlen] at hilt
        rw [hget i hilt]
        have := (hfun i hilt).2
        rw [hp] at this
        simpa only [addS_plain, Nat.add_zero] using this
    refine ⟨some x, m, (List.range len).map f, by rw [hlen]; exact hcs, fun h => ⟨h, hsz, key.imp id fun ⟨b, off, e, h1, h2⟩ => ⟨b, off, e, h1, h1, h2⟩⟩, ⟨by rw [hlen]; unfold maxLen at hm; omega, hsz, key⟩, by rw [hlen]; exact hl⟩
set_option maxRecDepth 100000 in
theorem opG_cells {W : World} {n : Nat} {cs : List Value} {y : DataW H × List MemPlace} (ht : DataW.trod enc Tryz.prog W 0 (fun _ => true) true n 70 cs = some y) (hcl : cs.length = 3) :
    ∃ x : Om, cs = [.int .i64 x.k, .string x.n, x.r.v] ∧ (x.r.l.length ≤ 4294967296 → RwS (fun j => j < W.heap.size) W x.r.a x.r.l) ∧ x.r.l.length ≤ x.r.cap := by
  obtain ⟨c0, c1, c2, rfl⟩ : ∃ c0 c1 c2, cs = [c0, c1, c2] := by
    match cs, hcl with
    | [c0, c1, c2], _ => exact ⟨c0, c1, c2, rfl⟩
  obtain ⟨y0, y1, y2, m, _, _, h0, h1, h2⟩ := trod_struct3 Tryz.underlying70 ht
  have k0 : Tryz.prog.cellsOf 3 = 1 := by kernel_rfl
  have k1 : Tryz.prog.cellsOf 9 = 1 := by kernel_rfl
  simp only [k0, k1, cellsG_row, List.drop_zero, List.drop_succ_cons, List.take_succ_cons, List.take_zero] at h0 h1 h2
  obtain ⟨k, e0, _, _⟩ := DataW.trod_int Tryz.underlying3 h0
  obtain ⟨s, e1, _, hs⟩ := DataW.trod_string Tryz.underlying9 h1
  obtain ⟨ra, rc, rl, e2, hr, _, hrc⟩ := rowG_cells h2
  simp only [List.cons.injEq, and_true] at e0 e1 e2
  subst e0 e1 e2
  exact ⟨⟨k, s, ⟨ra, rc, rl⟩⟩, rfl, hr, hrc⟩
set_option maxRecDepth 100000 in
theorem opsG_cells {W : World} {fuel : Nat} {cs : List Value} {y : DataW H × List MemPlace} (hf : DataW.trod enc Tryz.prog W 0 (fun _ => true) true fuel 32 cs = some y) :
    ∃ (a : Option Addr) (cap : Nat) (l : List Om), cs = [.slice a l.length cap] ∧ OpR (fun j => j < W.heap.size) W a l ∧ l.length ≤ cap := by
  rcases open_slice Tryz.underlying32 hf with ⟨hcs, _⟩ | ⟨x, len, cap', m, n, D, Pl, hcs, _, hl, hm, hmm, _, hi⟩
  · exact ⟨none, 0, [], hcs, ⟨by simp, by simp, .inl rfl⟩, Nat.le_refl _⟩
  · simp only [if_true] at hmm
    subst hmm
    have hx : ∀ i, i < len → ∃ z : Om, ((z.r.l.length ≤ 4294967296 → RwS (fun j => j < W.heap.size) W z.r.a z.r.l) ∧ z.r.l.length ≤ z.r.cap) ∧ W.cell? ((x.add (i * Tryz.prog.cellsOf 70)).add 0) = some (.int .i64 z.k) ∧ W.cell? ((x.add (i * Tryz.prog.cellsOf 70)).add 1) = some (.string z.n) ∧ W.cell? ((x.add (i * Tryz.prog.cellsOf 70)).add 2) = some z.r.v := fun i hilt => by
      obtain ⟨cs', hc, ht⟩ := hi i (by omega)
      obtain ⟨_, hcl, hat⟩ := World.cells?_some hc
      obtain ⟨z, e, hz⟩ := opG_cells ht (hcl.trans cellsG_op)
      subst e
      exact ⟨z, hz, hat 0 (by rw [cellsG_op]; decide), hat 1 (by rw [cellsG_op]; decide), hat 2 (by rw [cellsG_op]; decide)⟩
    obtain ⟨f, hfun⟩ := choose_lt hx
    rw [cellsG_op] at hfun
    have hlen : ((List.range len).map f).length = len := by simp
    have hget : ∀ i, i < len → ((List.range len).map f).getD i default = f i := fun i hilt => by simp [List.getD, hilt]
    refine ⟨some x, m, (List.range len).map f, by rw [hlen]; exact hcs, ⟨by rw [hlen]; unfold maxLen at hm; omega, fun z hz => ?_, ?_⟩, by rw [hlen]; exact hl⟩
    · rw [List.mem_map] at hz
      obtain ⟨i, hir, rfl⟩ := hz
      exact (hfun i (by simpa using hir)).1
    · by_cases h0 : len = 0
      · left; subst h0; rfl
      · right
        have hp : x = ⟨x.block, x.off, none⟩ := cellS_plain (W := W) (v := .int .i64 (f 0).k) (by have := (hfun 0 (by omega)).2.1; simpa [Addr.add] using this)
        have hc0 := (hfun 0 (by omega)).2.1
        rw [hp] at hc0
        refine ⟨x.block, x.off, by rw [← hp], blockS_of_cell hc0, blockS_of_cell hc0, fun i hilt => ?_⟩
        rw [hlen] at hilt
        rw [hget i hilt]
        have := (hfun i hilt).2
        rw [hp] at this
        simpa only [addS_plain, Nat.add_zero] using this
set_option maxRecDepth 100000 in
theorem open_ops9 {W : World} {b0 : Nat} {v : Value} {d : DataW H} {p : List MemPlace} (hv : Value.okWide Tryz.prog W .any b0 32 v) (h : DataW.Trod enc Tryz.prog W 0 (fun _ => true) true 32 v d p) :
    ∃ (a : Option Addr) (cap : Nat) (l : List Om), v = .slice a l.length cap ∧ l.length ≤ cap ∧ OpR (fun j => j < W.heap.size) W a l := by
  obtain ⟨a, len, cap, rfl⟩ := okWide_slice Tryz.underlying32 hv
  obtain ⟨fuel, hf⟩ := h
  obtain ⟨a', cap', l, e, hr, hc⟩ := opsG_cells hf
  simp only [Value.cells, List.cons.injEq, and_true] at e
  exact ⟨a', cap', l, e, hc, hr⟩
set_option maxRecDepth 100000 in
theorem open_commits9 {W : World} {b0 : Nat} {v : Value} {d : DataW H} {p : List MemPlace} (hv : Value.okWide Tryz.prog W .any b0 23 v) (h : DataW.Trod enc Tryz.prog W 0 (fun _ => true) true 23 v d p) :
    ∃ (a : Option Addr) (cap : Nat) (l : List Cw), v = .slice a l.length cap ∧ l.length ≤ cap ∧ CmG (fun j => j < W.heap.size) W a l := by
  obtain ⟨a, len, cap, rfl⟩ := okWide_slice Tryz.underlying23 hv
  obtain ⟨fuel, hf⟩ := h
  rcases open_slice Tryz.underlying23 hf with ⟨hcs, _⟩ | ⟨x, len', cap', m, n, D, Pl, hcs, _, hl, hm, hmm, _, hi⟩
  · simp [Value.cells] at hcs
    obtain ⟨rfl, rfl, rfl⟩ := hcs
    exact ⟨none, 0, [], rfl, Nat.le_refl _, ⟨by simp, by simp, .inl rfl⟩⟩
  · simp [Value.cells] at hcs
    obtain ⟨rfl, rfl, rfl⟩ := hcs
    simp only [if_true] at hmm
    subst hmm
    have hx : ∀ i, i < len → ∃ z : Cw, (OpR (fun j => j < W.heap.size) W z.a z.l ∧ z.l.length ≤ z.cap) ∧ W.cell? ((x.add (i * Tryz.prog.cellsOf 32)).add 0) = some z.v := fun i hilt => by
      obtain ⟨cs', hc, ht⟩ := hi i (by omega)
      obtain ⟨za, zc, zl, rfl, hz1, hz2⟩ := opsG_cells ht
      obtain ⟨_, _, hat⟩ := World.cells?_some hc
      exact ⟨⟨za, zc, zl⟩, ⟨hz1, hz2⟩, hat 0 (by rw [cellsG_ops]; decide)⟩
    obtain ⟨f, hfun⟩ := choose_lt hx
    rw [cellsG_ops] at hfun
    have hlen : ((List.range len).map f).length = len := by simp
    have hget : ∀ i, i < len → ((List.range len).map f).getD i default = f i := fun i hilt => by simp [List.getD, hilt]
    refine ⟨some x, m, (List.range len).map f, by rw [hlen], by rw [hlen]; exact hl, ⟨by rw [hlen]; unfold maxLen at hm; omega, fun z hz => ?_, ?_⟩⟩
    · rw [List.mem_map] at hz
      obtain ⟨i, hir, rfl⟩ := hz
      exact (hfun i (by simpa using hir)).1
    · by_cases h0 : len = 0
      · left; subst h0; rfl
      · right
        have hp : x = ⟨x.block, x.off, none⟩ := cellS_plain (W := W) (v := (f 0).v) (by have := (hfun 0 (by omega)).2; simpa [Addr.add] using this)
        have hc0 := (hfun 0 (by omega)).2
        rw [hp] at hc0
        refine ⟨x.block, x.off, by rw [← hp], blockS_of_cell hc0, blockS_of_cell hc0, fun i hilt => ?_⟩
        rw [hlen] at hilt
        rw [hget i hilt]
        have := (hfun i hilt).2
        rw [hp] at this
        simpa only [addS_plain, Nat.add_zero, Nat.mul_one] using this
set_option maxRecDepth 100000 in
theorem tableG_cells {W : World} {n : Nat} {cs : List Value} {y : DataW H × List MemPlace} (ht : DataW.trod enc Tryz.prog W 0 (fun _ => true) true n 50 cs = some y) (hcl : cs.length = 3) :
    ∃ x : Tb, cs = [.string x.n, .slice x.a x.l.length x.cap, .int .i64 x.k] ∧ ColsAt W.heap.size W x.a x.l ∧ x.l.length ≤ x.cap ∧ x.n.size ≤ 9223372036854775807 ∧ ∀ i, i < x.l.length → (x.l.getD i default).n.size ≤ 9223372036854775807 := by
  obtain ⟨c0, c1, c2, rfl⟩ : ∃ c0 c1 c2, cs = [c0, c1, c2] := by
    match cs, hcl with
    | [c0, c1, c2], _ => exact ⟨c0, c1, c2, rfl⟩
  obtain ⟨y0, y1, y2, m, _, _, h0, h1, h2⟩ := trod_struct3 Tryz.underlying50 ht
  have k0 : Tryz.prog.cellsOf 3 = 1 := by kernel_rfl
  have k1 : Tryz.prog.cellsOf 9 = 1 := by kernel_rfl
  simp only [k0, k1, cellsG_cols, List.drop_zero, List.drop_succ_cons, List.take_succ_cons, List.take_zero] at h0 h1 h2
  obtain ⟨s, e0, _, hs⟩ := DataW.trod_string Tryz.underlying9 h0
  obtain ⟨a, cap, l, e1, hc1, hc2, hc3⟩ := colsS_cells h1
  obtain ⟨k, e2, _, _⟩ := DataW.trod_int Tryz.underlying3 h2
  simp only [List.cons.injEq, and_true] at e0 e1 e2
  subst e0 e1 e2
  exact ⟨⟨s, a, cap, l, k⟩, rfl, hc1, hc2, by unfold maxLen at hs; show s.size ≤ _; omega, hc3⟩
set_option maxRecDepth 100000 in
theorem open_tables9 {W : World} {b0 : Nat} {v : Value} {d : DataW H} {p : List MemPlace} (hv : Value.okWide Tryz.prog W .any b0 22 v) (h : DataW.Trod enc Tryz.prog W 0 (fun _ => true) true 22 v d p) :
    ∃ (a : Option Addr) (cap : Nat) (l : List Tb), v = .slice a l.length cap ∧ l.length ≤ cap ∧ TabsAt W.heap.size W a l ∧ (∀ t ∈ l, t.l.length ≤ t.cap) ∧ (∀ t ∈ l, t.n.size ≤ 9223372036854775807 ∧ ∀ i, i < t.l.length → (t.l.getD i default).n.size ≤ 9223372036854775807) := by
  obtain ⟨a, len, cap, rfl⟩ := okWide_slice Tryz.underlying22 hv
  obtain ⟨fuel, hf⟩ := h
  rcases open_slice Tryz.underlying22 hf with ⟨hcs, _⟩ | ⟨x, len', cap', m, n, D, Pl, hcs, _, hl, hm, hmm, _, hi⟩
  · simp [Value.cells] at hcs
    obtain ⟨rfl, rfl, rfl⟩ := hcs
    exact ⟨none, 0, [], rfl, Nat.le_refl _, ⟨by simp, by simp, .inl rfl⟩, by simp, by simp⟩
  · simp [Value.cells] at hcs
    obtain ⟨rfl, rfl, rfl⟩ := hcs
    simp only [if_true] at hmm
    subst hmm
    have hx : ∀ i, i < len → ∃ z : Tb, (ColsAt W.heap.size W z.a z.l ∧ z.l.length ≤ z.cap ∧ z.n.size ≤ 9223372036854775807 ∧ ∀ i, i < z.l.length → (z.l.getD i default).n.size ≤ 9223372036854775807) ∧ W.cell? ((x.add (i * Tryz.prog.cellsOf 50)).add 0) = some (.string z.n) ∧ W.cell? ((x.add (i * Tryz.prog.cellsOf 50)).add 1) = some (.slice z.a z.l.length z.cap) ∧ W.cell? ((x.add (i * Tryz.prog.cellsOf 50)).add 2) = some (.int .i64 z.k) := fun i hilt => by
      obtain ⟨cs', hc, ht⟩ := hi i (by omega)
      obtain ⟨_, hcl, hat⟩ := World.cells?_some hc
      obtain ⟨z, e, hz⟩ := tableG_cells ht (hcl.trans cellsG_table)
      subst e
      exact ⟨z, hz, hat 0 (by rw [cellsG_table]; decide), hat 1 (by rw [cellsG_table]; decide), hat 2 (by rw [cellsG_table]; decide)⟩
    obtain ⟨f, hfun⟩ := choose_lt hx
    rw [cellsG_table] at hfun
    have hlen : ((List.range len).map f).length = len := by simp
    have hget : ∀ i, i < len → ((List.range len).map f).getD i default = f i := fun i hilt => by simp [List.getD, hilt]
    have hmem : ∀ z ∈ (List.range len).map f, ColsAt W.heap.size W z.a z.l ∧ z.l.length ≤ z.cap ∧ z.n.size ≤ 9223372036854775807 ∧ ∀ i, i < z.l.length → (z.l.getD i default).n.size ≤ 9223372036854775807 := fun z hz => by
      rw [List.mem_map] at hz
      obtain ⟨i, hir, rfl⟩ := hz
      exact (hfun i (by simpa using hir)).1
    refine ⟨some x, m, (List.range len).map f, by rw [hlen], by rw [hlen]; exact hl, ⟨by rw [hlen]; unfold maxLen at hm; omega, fun z hz => (hmem z hz).1, ?_⟩, fun z hz => (hmem z hz).2.1, fun z hz => (hmem z hz).2.2⟩
    by_cases h0 : len = 0
    · left; subst h0; rfl
    · right
      have hp : x = ⟨x.block, x.off, none⟩ := cellS_plain (W := W) (v := .string (f 0).n) (by have := (hfun 0 (by omega)).2.1; simpa [Addr.add] using this)
      have hc0 := (hfun 0 (by omega)).2.1
      rw [hp] at hc0
      refine ⟨x.block, x.off, by rw [← hp], blockS_of_cell hc0, fun i hilt => ?_⟩
      rw [hlen] at hilt
      rw [hget i hilt]
      have := (hfun i hilt).2
      rw [hp] at this
      simpa only [addS_plain, Nat.add_zero] using this
end
end Go.Proofs.YtnfpomjcofhppaaGreatDoor
namespace Go.Proofs.YtnfpomjcofhppaaGreatDoor
open Go.RowKit

theorem HistS.of_eq {s s' : Stm} (h : HistS s) (hv : s'.v = s.v) (ht : s'.ts = s.ts) (hc : s'.cs.map Cm.p = s.cs.map Cm.p) (hn : s'.sn.map Sn.p = s.sn.map Sn.p) : HistS s' := by
  unfold HistS at h ⊢
  rw [hv, ht, hc, hn]; exact h
/-- What is kept: as many commits as came in, at most 32. -/
theorem HistS.count {s : Stm} (h : HistS s) : (s.cs.length : Int) = min s.v 32 := by
  have := h.len
  rwa [List.length_map] at this
section
variable {w0 w : World} {G b : Nat} {l : List Tb} {s : Stm}
theorem XG.commitH (h : XG w0 G b l w s) (hh : HistS s) (oa : Ptr) (oc : Nat) (ol : List Om) (ho : OpS (fun j => ¬ s.M j) w oa ol) (hoc : ol.length ≤ oc) (hv : s.v < 100000) :
    Calls Tryz.prog 7 #[.pointer (some ⟨b, 0, none⟩), .slice oa ol.length oc] w fun e w' => (∃ v, e = .returned v) ∧ ∃ s', XG w0 G b l w' s' ∧ HistS s' ∧ s.v ≤ s'.v ∧ s'.v ≤ s.v + 1 ∧ Apart9 s s' w w' := by
  have hc := commit_any w0.heap.size G s oa oc ol w h.at_ h.err ho hoc hv h.gr.size
  rw [h.hb] at hc
  refine hc.mono ?_
  rintro e w' (⟨c, _, rfl, hg⟩ | ⟨ms, s', a, cap, cl, hm, rfl, _, _, _, hw⟩)
  · exact ⟨⟨_, rfl⟩, s, h.keepG hg, hh, Int.le_refl _, by omega, (Apart9.refl s w).grown hg⟩
  · have hg : w0.grownBy w' none := only_grown h.gr hw.only h.at_.low
    refine ⟨⟨_, rfl⟩, s', ⟨hw.at_, h.err.only hw.only (fun j hj => Nat.le_trans h.gb (h.at_.low j hj)), hw.b.trans h.hb, by rw [hw.ts]; exact h.ts, h.gb, hg⟩, hw.hist h.at_ hh hm, by rw [hw.v]; omega, by rw [hw.v]; omega, hw.only.size, fun j hj hM => ⟨fun e => ?_, hw.only.block j hj hM⟩⟩
    rcases hw.M j e with e | e
    · exact hM e
    · omega
end
end Go.Proofs.YtnfpomjcofhppaaGreatDoor
namespace Go.Proofs.YtnfpomjcofhppaaGreatDoor
open Go.RowKit

structure Rv where
  a : Ptr
  cap : Nat
  l : List Rw
instance : Inhabited Rv := ⟨⟨none, 0, []⟩⟩
def Rv.v (x : Rv) : Value := .slice x.a x.l.length x.cap
def Was (B : Nat) (w : World) (a : Ptr) (cap : Nat) (ws : List Rv) : Prop :=
  w.ownsRow B 51 1 (.slice a ws.length cap) ws.length (ws.map Rv.v) ∧ ∀ x ∈ ws, Rs2 (fun b => B ≤ b ∧ blk a ≠ some b) w x.a x.l ∧ x.l.length ≤ x.cap
theorem Was.nil (B : Nat) (w : World) : Was B w none 0 [] := ⟨World.ownsRow_nil _ _ _ _, by simp⟩
theorem Was.keepG {B : Nat} {w w' : World} {a : Ptr} {cap : Nat} {ws : List Rv} (h : Was B w a cap ws) (hg : w.grownBy w' none) : Was B w' a cap ws :=
  ⟨World.ownsRow.kept h.1 hg (by cases (Value.slice a ws.length cap).ownBlock <;> simp), fun x hx => ⟨(h.2 x hx).1.keep (.of hg), (h.2 x hx).2⟩⟩
theorem Was.lt {B : Nat} {w : World} {a : Ptr} {cap : Nat} {ws : List Rv} (h : Was B w a cap ws) {g : Nat} (hg : blk a = some g) : B ≤ g ∧ g < w.heap.size := World.ownsRow.lt h.1 g (by rw [own_blk]; exact hg)
theorem Was.app {B : Nat} {w w1 w2 : World} {a : Ptr} {cap g cp : Nat} {ws : List Rv} {x : Rv} {o : Obj} (h : Was B w a cap ws) (hB : B ≤ w.heap.size) (hg : w.grownBy w1 none) (hx : Rs2 (fun b => w.heap.size ≤ b) w1 x.a x.l) (hxc : x.l.length ≤ x.cap)
    (hown : w2.ownsRow B 51 1 (.slice (some ⟨g, 0, none⟩) (ws.length + 1) cp) (ws.length + 1) (ws.map Rv.v ++ [x.v])) (hgr : (w1.alloc o).grownBy w2 (Value.slice a ws.length cap).ownBlock) (hat : (Value.slice a ws.length cap).ownBlock = some g ∨ g = (w1.alloc o).heap.size) : Was B w2 (some ⟨g, 0, none⟩) cp (ws ++ [x]) := by
  rw [own_blk] at hgr hat
  have s1 := hg.size
  have sz : (w1.alloc o).heap.size = w1.heap.size + 1 := by simp
  have g1 := hg.trans (World.grownBy_alloc w1 o none)
  refine ⟨by rw [List.length_append, List.length_singleton, List.map_append]; exact hown, fun y hy => ?_⟩
  have hst : Stays (fun b => blk a ≠ some b ∧ b < w1.heap.size) w1 w2 := by
    refine ⟨by have := hgr.size; omega, fun b hb hlt => ?_⟩
    exact (hgr.block b (by omega) (Ne.symm hb.1)).trans ((World.grownBy_alloc w1 o none).block b hlt (by simp))
  rcases List.mem_append.1 hy with hy | hy
  · obtain ⟨h1, h2⟩ := h.2 y hy
    have h3 := (h1.mono (S' := fun b => (B ≤ b ∧ blk a ≠ some b) ∧ b < w.heap.size) (fun b hb hS => ⟨hS, hb⟩)).keep (.of hg)
    have h4 := (h3.keep (w' := w2) ⟨hst.1, fun b hb hlt => hst.2 b ⟨hb.1.2, hlt⟩ hlt⟩)
    refine ⟨h4.mono (fun b _ hS => ⟨hS.1.1, fun e => ?_⟩), h2⟩
    have e' : g = b := by simpa [blk] using e
    rcases hat with e2 | e2
    · exact hS.1.2 (by rw [e2, e'])
    · omega
  · obtain rfl : y = x := by simpa using hy
    have hne : ∀ b, w.heap.size ≤ b → blk a ≠ some b := fun b hb e => by have := (h.lt e).2; omega
    have h3 := (hx.mono (S' := fun b => w.heap.size ≤ b ∧ b < w1.heap.size) (fun b hb hS => ⟨hS, hb⟩))
    have h4 := (h3.keep (w' := w2) ⟨hst.1, fun b hb hlt => hst.2 b ⟨hne b hb.1, hlt⟩ hlt⟩)
    refine ⟨h4.mono (fun b _ hS => ⟨by omega, fun e => ?_⟩), hxc⟩
    have e' : g = b := by simpa [blk] using e
    rcases hat with e2 | e2
    · exact hne b hS.1 (by rw [e2, e'])
    · omega
def WaS (S : Nat → Prop) (w : World) (a : Ptr) (ws : List Rv) : Prop :=
  (∀ x ∈ ws, Rs2 S w x.a x.l ∧ x.l.length ≤ x.cap) ∧ (ws = [] ∨ ∃ g, a = some ⟨g, 0, none⟩ ∧ S g ∧ g < w.heap.size ∧ ∀ i, i < ws.length → w.cell? ⟨g, i, none⟩ = some (ws.getD i default).v)
theorem WaS.keep {S : Nat → Prop} {w w' : World} {a : Ptr} {l : List Rv} (h : WaS S w a l) (hk : Stays S w w') : WaS S w' a l :=
  ⟨fun x hx => ⟨(h.1 x hx).1.keep hk, (h.1 x hx).2⟩, h.2.imp id fun ⟨b, e, hs, hlt, hc⟩ => ⟨b, e, hs, Nat.lt_of_lt_of_le hlt hk.1, fun i hi => (World.cell?_of_block (a := ⟨b, _, none⟩) (hk.2 b hs hlt)).trans (hc i hi)⟩⟩
theorem WaS.mono {S S' : Nat → Prop} {w : World} {a : Ptr} {l : List Rv} (h : WaS S w a l) (hs : ∀ b, b < w.heap.size → S b → S' b) : WaS S' w a l :=
  ⟨fun x hx => ⟨(h.1 x hx).1.mono hs, (h.1 x hx).2⟩, h.2.imp id fun ⟨b, e, h1, h2, hc⟩ => ⟨b, e, hs b h2 h1, h2, hc⟩⟩
theorem Was.wa {B : Nat} {w : World} {a : Ptr} {cap : Nat} {ws : List Rv} (h : Was B w a cap ws) : WaS (fun b => B ≤ b) w a ws ∧ ws.length ≤ cap := by
  refine ⟨⟨fun x hx => ⟨(h.2 x hx).1.mono (fun b _ hb => hb.1), (h.2 x hx).2⟩, ?_⟩, ?_⟩
  · rcases h.1.2 with ⟨_, h0⟩ | ⟨g, cp, cur, hv, hb, hg, hc, _⟩
    · exact .inl (List.eq_nil_of_length_eq_zero h0)
    · have hlt := (h.1.lt g (by rw [hv]; rfl)).2
      have ha : a = some ⟨g, 0, none⟩ := by cases hv; rfl
      refine .inr ⟨g, ha, hb, hlt, fun i hi => ?_⟩
      have cc := h.1.cells (g := g) (by rw [hv]; rfl) i (ws.getD i default).v (by simp [List.getD, hi])
      rw [add_atT, Nat.zero_add] at cc
      exact cc
  · rcases h.1.2 with ⟨hv, h0⟩ | ⟨g, cp, cur, hv, hb, hg, hc, _⟩
    · omega
    · cases hv; exact hc
/-- What a store leaves. -/
theorem Apart9.wa {s s' : Stm} {w w' : World} {a : Ptr} {ws : List Rv} (h : Apart9 s s' w w') (hw : WaS (fun b => ¬ s.M b) w a ws) : WaS (fun b => ¬ s'.M b) w' a ws :=
  ((hw.mono (fun b hb hm => (⟨hm, hb⟩ : ¬ s.M b ∧ b < w.heap.size))).keep h.stays).mono (fun b _ hb => (h.2 b hb.2 hb.1).1)
theorem rw_thereQ {S : Nat → Prop} {W : World} {x : Rw} {q : Nat} (h : RwF S W x) (hq : q < x.l.length) : ∃ b off, x.a = some ⟨b, off, none⟩ ∧ S b ∧ W.there b (off + q * 3) 3 := by
  rcases h.2.2 with h0 | ⟨b, off, cs, T, e, hs, hlt, hc⟩
  · rw [h0] at hq; simp at hq
  rcases h.1.2.2 with h0 | ⟨b', off', e', _, _, hcell⟩
  · rw [h0] at hq; simp at hq
  rw [e] at e'
  cases e'
  obtain ⟨c0, c1, c2⟩ := hcell q hq
  refine ⟨b, off, e, hs, fun j hj => ⟨?_, by simp [World.frozen?, hc]⟩⟩
  match j, hj with
  | 0, _ => rw [Nat.add_zero, c0]; rfl
  | 1, _ => rw [c1]; rfl
  | 2, _ => rw [c2]; rfl
theorem info_partsG {o : Option TypeInfo} {z : Value} {s b : Nat} (h : o.map (fun i => (i.zero, i.size, i.bytes)) = some (some z, s, b)) : ∃ i, o = some i ∧ i.zero = some z ∧ i.size = s ∧ i.bytes = b := by
  obtain ⟨i, hi, hzz⟩ := Option.map_eq_some_iff.1 h
  simp only [Prod.mk.injEq] at hzz
  exact ⟨i, hi, hzz.1, hzz.2.1, hzz.2.2⟩
theorem rows_info : (Tryz.prog.info? 51).map (fun i => (i.zero, i.size, i.bytes)) = some (some (.slice none 0 0), 1, 24) := by kernel_rfl
end Go.Proofs.YtnfpomjcofhppaaGreatDoor
