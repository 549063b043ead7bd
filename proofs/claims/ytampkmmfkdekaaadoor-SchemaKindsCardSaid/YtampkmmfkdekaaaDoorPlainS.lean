/- What opens the arguments of layer 6's laws: tables, rows, a place with a value. -/
import Derived.Test.YtampkmmfkdekaaaDoorSchI
import Derived.ProofKit
import Derived.OpenShut
import Derived.Deep.Slices
import Derived.Deep.Fields
import Derived.ChangeSame
import Derived.Lib.SmallJoins
namespace Go.Proofs.YtampkmmfkdekaaaDoor
open Go.ChangeShapes Go.WideShapes Go.ChangeAt Go.RowKit Go.Joins Go.Deep

theorem addS_plain (b o k : Nat) : (⟨b, o, none⟩ : Addr).add k = ⟨b, o + k, none⟩ := by
  unfold Addr.add
  by_cases h : k = 0
  · subst h; simp
  · simp [h]
theorem blockS_of_cell {w : World} {b o : Nat} {v : Value} (h : w.cell? ⟨b, o, none⟩ = some v) : b < w.heap.size := by
  rcases Nat.lt_or_ge b w.heap.size with h' | h'
  · exact h'
  · simp [World.cell?, Array.getElem?_eq_none h'] at h
theorem cellS_plain {W : World} {a : Addr} {v : Value} (h : W.cell? (a.add 0) = some v) : a = ⟨a.block, a.off, none⟩ := by
  obtain ⟨b, off, spot⟩ := a
  have : spot = none := by simpa [Addr.add] using World.cell?_spot h
  subst this
  rfl
section
variable {H : Type} {enc : TypeId × Value → H}

set_option maxRecDepth 100000 in
theorem valueS_cells {W : World} {base n : Nat} {spare : Nat → Bool} {held : Bool} {cs : List Value} {y : DataW H × List MemPlace} (ht : DataW.trod enc Tryd.prog W base spare held n 29 cs = some y) (hcl : cs.length = 3) :
    ∃ x : Vv, cs = [.int .i64 x.k, .int .i64 x.n, .string x.s] ∧ x.s.size ≤ maxLen := by
  obtain ⟨c0, c1, c2, rfl⟩ : ∃ c0 c1 c2, cs = [c0, c1, c2] := by
    match cs, hcl with
    | [c0, c1, c2], _ => exact ⟨c0, c1, c2, rfl⟩
  obtain ⟨y0, y1, y2, m, _, _, h0, h1, h2⟩ := trod_struct3 Tryd.underlying29 ht
  have k0 : Tryd.prog.cellsOf 27 = 1 := by kernel_rfl
  have k1 : Tryd.prog.cellsOf 3 = 1 := by kernel_rfl
  have k2 : Tryd.prog.cellsOf 9 = 1 := by kernel_rfl
  simp only [k0, k1, k2, List.drop_zero, List.drop_succ_cons, List.take_succ_cons, List.take_zero] at h0 h1 h2
  obtain ⟨k, e0, _, _⟩ := DataW.trod_int Tryd.underlying27 h0
  obtain ⟨n, e1, _, wn⟩ := DataW.trod_int Tryd.underlying3 h1
  obtain ⟨s, e2, _, hs⟩ := DataW.trod_string Tryd.underlying9 h2
  simp only [List.cons.injEq, and_true] at e0 e1 e2
  subst e0 e1 e2
  exact ⟨⟨k, n, s⟩, rfl, hs⟩
set_option maxRecDepth 100000 in
theorem colS_cells {W : World} {base n : Nat} {spare : Nat → Bool} {held : Bool} {cs : List Value} {y : DataW H × List MemPlace} (ht : DataW.trod enc Tryd.prog W base spare held n 39 cs = some y) (hcl : cs.length = 3) :
    ∃ x : Cl, cs = [.string x.n, .int .i64 x.k, .bool x.b] ∧ x.n.size ≤ maxLen := by
  obtain ⟨c0, c1, c2, rfl⟩ : ∃ c0 c1 c2, cs = [c0, c1, c2] := by
    match cs, hcl with
    | [c0, c1, c2], _ => exact ⟨c0, c1, c2, rfl⟩
  obtain ⟨y0, y1, y2, m, _, _, h0, h1, h2⟩ := trod_struct3 Tryd.underlying39 ht
  have k0 : Tryd.prog.cellsOf 27 = 1 := by kernel_rfl
  have k1 : Tryd.prog.cellsOf 4 = 1 := by kernel_rfl
  have k2 : Tryd.prog.cellsOf 9 = 1 := by kernel_rfl
  simp only [k0, k1, k2, List.drop_zero, List.drop_succ_cons, List.take_succ_cons, List.take_zero] at h0 h1 h2
  obtain ⟨s, e0, _, hs⟩ := DataW.trod_string Tryd.underlying9 h0
  obtain ⟨k, e1, _, _⟩ := DataW.trod_int Tryd.underlying27 h1
  obtain ⟨b, e2, _⟩ := DataW.trod_bool Tryd.underlying4 h2
  simp only [List.cons.injEq, and_true] at e0 e1 e2
  subst e0 e1 e2
  exact ⟨⟨s, k, b⟩, rfl, hs⟩
theorem cellsS_value : Tryd.prog.cellsOf 29 = 3 := by kernel_rfl
theorem cellsS_col : Tryd.prog.cellsOf 39 = 3 := by kernel_rfl
set_option maxRecDepth 100000 in
theorem rowS_cells {W : World} {fuel : Nat} {cs : List Value} {y : DataW H × List MemPlace} (hf : DataW.trod enc Tryd.prog W 0 (fun _ => true) true fuel 26 cs = some y) :
    ∃ (a : Option Addr) (cap : Nat) (l : List Vv), cs = [.slice a l.length cap] ∧ VvAt W.heap.size W a l ∧ l.length ≤ cap := by
  rcases open_slice Tryd.underlying26 hf with ⟨hcs, _⟩ | ⟨x, len, cap', m, n, D, Pl, hcs, _, hl, hm, hmm, _, hi⟩
  · exact ⟨none, 0, [], hcs, ⟨by simp, .inl rfl⟩, Nat.le_refl _⟩
  · simp only [if_true] at hmm
    subst hmm
    have hx : ∀ i, i < len → ∃ x' : Vv, W.cell? ((x.add (i * Tryd.prog.cellsOf 29)).add 0) = some (.int .i64 x'.k) ∧ W.cell? ((x.add (i * Tryd.prog.cellsOf 29)).add 1) = some (.int .i64 x'.n) ∧ W.cell? ((x.add (i * Tryd.prog.cellsOf 29)).add 2) = some (.string x'.s) := fun i hilt => by
      obtain ⟨cs', hc, ht⟩ := hi i (by omega)
      obtain ⟨_, hcl, hat⟩ := World.cells?_some hc
      obtain ⟨x', e, _⟩ := valueS_cells ht (hcl.trans cellsS_value)
      subst e
      exact ⟨x', hat 0 (by rw [cellsS_value]; decide), hat 1 (by rw [cellsS_value]; decide), hat 2 (by rw [cellsS_value]; decide)⟩
    obtain ⟨f, hfun⟩ := choose_lt hx
    rw [cellsS_value] at hfun
    have hlen : ((List.range len).map f).length = len := by simp
    have hget : ∀ i, i < len → ((List.range len).map f).getD i default = f i := fun i hilt => by simp [List.getD, hilt]
    refine ⟨some x, m, (List.range len).map f, by rw [hlen]; exact hcs, ⟨by rw [hlen]; unfold maxLen at hm; omega, ?_⟩, by rw [hlen]; exact hl⟩
    by_cases h0 : len = 0
    · left; subst h0; rfl
    · right
      have hp : x = ⟨x.block, x.off, none⟩ := cellS_plain (W := W) (v := .int .i64 (f 0).k) (by have := (hfun 0 (by omega)).1; simpa [Addr.add] using this)
      have hc0 := (hfun 0 (by omega)).1
      rw [hp] at hc0
      refine ⟨x.block, x.off, by rw [← hp], blockS_of_cell hc0, fun i hilt => ?_⟩
      rw [hlen] at hilt
      rw [hget i hilt]
      have := hfun i hilt
      rw [hp] at this
      simpa only [addS_plain, Nat.add_zero] using this
set_option maxRecDepth 100000 in
theorem colsS_cells {W : World} {fuel : Nat} {cs : List Value} {y : DataW H × List MemPlace} (hf : DataW.trod enc Tryd.prog W 0 (fun _ => true) true fuel 22 cs = some y) :
    ∃ (a : Option Addr) (cap : Nat) (l : List Cl), cs = [.slice a l.length cap] ∧ ColsAt W.heap.size W a l ∧ l.length ≤ cap ∧ ∀ i, i < l.length → (l.getD i default).n.size ≤ 9223372036854775807 := by
  rcases open_slice Tryd.underlying22 hf with ⟨hcs, _⟩ | ⟨x, len, cap', m, n, D, Pl, hcs, _, hl, hm, hmm, _, hi⟩
  · exact ⟨none, 0, [], hcs, ⟨by simp, .inl rfl⟩, Nat.le_refl _, fun i hi => by simp at hi⟩
  · simp only [if_true] at hmm
    subst hmm
    have hx : ∀ i, i < len → ∃ x' : Cl, x'.n.size ≤ maxLen ∧ W.cell? ((x.add (i * Tryd.prog.cellsOf 39)).add 0) = some (.string x'.n) ∧ W.cell? ((x.add (i * Tryd.prog.cellsOf 39)).add 1) = some (.int .i64 x'.k) ∧ W.cell? ((x.add (i * Tryd.prog.cellsOf 39)).add 2) = some (.bool x'.b) := fun i hilt => by
      obtain ⟨cs', hc, ht⟩ := hi i (by omega)
      obtain ⟨_, hcl, hat⟩ := World.cells?_some hc
      obtain ⟨x', e, hs⟩ := colS_cells ht (hcl.trans cellsS_col)
      subst e
      exact ⟨x', hs, hat 0 (by rw [cellsS_col]; decide), hat 1 (by rw [cellsS_col]; decide), hat 2 (by rw [cellsS_col]; decide)⟩
    obtain ⟨f, hfun⟩ := choose_lt hx
    rw [cellsS_col] at hfun
    have hlen : ((List.range len).map f).length = len := by simp
    have hget : ∀ i, i < len → ((List.range len).map f).getD i default = f i := fun i hilt => by simp [List.getD, hilt]
    refine ⟨some x, m, (List.range len).map f, by rw [hlen]; exact hcs, ⟨by rw [hlen]; unfold maxLen at hm; omega, ?_⟩, by rw [hlen]; exact hl, fun i hi => ?_⟩
    · by_cases h0 : len = 0
      · left; subst h0; rfl
      · right
        have hp : x = ⟨x.block, x.off, none⟩ := cellS_plain (W := W) (v := .string (f 0).n) (by have := (hfun 0 (by omega)).2.1; simpa [Addr.add] using this)
        have hc0 := (hfun 0 (by omega)).2.1
        rw [hp] at hc0
        refine ⟨x.block, x.off, by rw [← hp], blockS_of_cell hc0, fun i hilt => ?_⟩
        rw [hlen] at hilt
        rw [hget i hilt]
        have := (hfun i hilt).2
        rw [hp] at this
        simpa only [addS_plain, Nat.add_zero] using this
    · rw [hlen] at hi
      rw [hget i hi]
      have := (hfun i hi).1
      unfold maxLen at this
      omega
set_option maxRecDepth 100000 in
theorem open_row6 {W : World} {b0 : Nat} {v : Value} {d : DataW H} {p : List MemPlace} (hv : Value.okWide Tryd.prog W .any b0 26 v) (h : DataW.Trod enc Tryd.prog W 0 (fun _ => true) true 26 v d p) :
    ∃ (a : Option Addr) (cap : Nat) (l : List Vv), v = .slice a l.length cap ∧ VvAt W.heap.size W a l ∧ l.length ≤ cap := by
  obtain ⟨a, len, cap, rfl⟩ := okWide_slice Tryd.underlying26 hv
  obtain ⟨fuel, hf⟩ := h
  obtain ⟨a', cap', l, e, hr⟩ := rowS_cells hf
  simp only [Value.cells, List.cons.injEq, and_true] at e
  exact ⟨a', cap', l, e, hr⟩
set_option maxRecDepth 100000 in
theorem open_table6 {W : World} {b0 : Nat} {v : Value} {d : DataW H} {p : List MemPlace} (hv : Value.okWide Tryd.prog W .any b0 24 v) (h : DataW.Trod enc Tryd.prog W 0 (fun _ => true) true 24 v d p) :
    ∃ (N : ByteArray) (a : Option Addr) (cap : Nat) (l : List Cl) (K : Int), v = .agg #[.string N, .slice a l.length cap, .int .i64 K] ∧ N.size ≤ 9223372036854775807 ∧ ColsAt W.heap.size W a l ∧ l.length ≤ cap ∧ ∀ i, i < l.length → (l.getD i default).n.size ≤ 9223372036854775807 := by
  obtain ⟨c0, c1, c2, y0, y1, y2, m, rfl, rfl, rfl, hy0, hy1, hy2⟩ := open_agg3 Tryd.underlying24 (by kernel_rfl) (by kernel_rfl) hv h
  obtain ⟨s, e0, _, hs⟩ := DataW.trod_string Tryd.underlying9 hy0
  obtain ⟨a, cap, l, e1, hc⟩ := colsS_cells hy1
  obtain ⟨n, e2, _, wn⟩ := DataW.trod_int Tryd.underlying3 hy2
  simp only [List.cons.injEq, and_true] at e0 e1 e2
  subst e0 e1 e2
  exact ⟨s, a, cap, l, n, rfl, by unfold maxLen at hs; omega, hc⟩
set_option maxRecDepth 100000 in
theorem open_where6 {W : World} {b0 : Nat} {v : Value} {d : DataW H} {p : List MemPlace} (hv : Value.okWide Tryd.prog W .any b0 31 v) (h : DataW.Trod enc Tryd.prog W 0 (fun _ => true) true 31 v d p) :
    ∃ (n k m : Int) (s : ByteArray), v = .agg #[.int .i64 n, .int .i64 k, .int .i64 m, .string s] := by
  obtain ⟨cs, rfl, hsz⟩ := okWide_struct Tryd.underlying31 hv
  obtain ⟨fuel, hf⟩ := h
  have h4 : cs.size = 4 := hsz.trans (by kernel_rfl)
  obtain ⟨c0, c1, c2, c3, rfl⟩ : ∃ c0 c1 c2 c3, cs = #[c0, c1, c2, c3] := by
    obtain ⟨l⟩ := cs
    match l, h4 with
    | [c0, c1, c2, c3], _ => exact ⟨c0, c1, c2, c3, rfl⟩
  obtain ⟨y0, y1, n, _, _, h0, h1⟩ := trod_struct2 Tryd.underlying31 hf
  have k0 : Tryd.prog.cellsOf 3 = 1 := by kernel_rfl
  simp only [k0, cellsS_value, Value.cells, List.drop_zero, List.drop_succ_cons, List.take_succ_cons, List.take_zero] at h0 h1
  obtain ⟨n, e0, _, wn⟩ := DataW.trod_int Tryd.underlying3 h0
  obtain ⟨x, e1, _⟩ := valueS_cells h1 rfl
  simp only [List.cons.injEq, and_true] at e0 e1
  obtain ⟨e1, e2, e3⟩ := e1
  subst e0 e1 e2 e3
  exact ⟨n, x.k, x.n, x.s, rfl⟩
end
end Go.Proofs.YtampkmmfkdekaaaDoor
