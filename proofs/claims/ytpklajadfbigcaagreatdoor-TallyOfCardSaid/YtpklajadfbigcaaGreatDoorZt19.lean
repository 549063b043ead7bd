import Derived.Test.YtpklajadfbigcaaGreatDoorZt18
import Derived.StillTailTactics
import Derived.Deep.RegionHeld
import Derived.Stop.LaidErr
import Derived.ArgAppend
import Derived.Maps.AppendAt
import Derived.Deep.RegionLaw
import Derived.KernelRfl
import Derived.Deep.MidRow
import Derived.Lib.Hide
import Derived.Lib.SliceRun
import Derived.ProofKit
import Derived.OpenShut
import Derived.Deep.Slices
import Derived.Deep.Fields
import Derived.ChangeSame
import Derived.Lib.SmallJoins
set_option linter.unusedSimpArgs false
set_option linter.unusedVariables false
namespace Go.Proofs.YtpklajadfbigcaaGreatDoor
open Go.RowKit

theorem grown_setX {w w' : World} {b : Nat} (h : w.grownBy w' (some b)) (i : Nat) (v : Value) : w.grownBy (w'.setCell ⟨b, i, none⟩ v) (some b) := by
  refine ⟨h.os, h.tape, h.output, ?_, fun k hk hne => ?_⟩
  · have := h.size; simpa using this
  · have e : k ≠ b := fun e => hne (by rw [e])
    rw [Below.heap_setCell _ _ _ _ e]
    exact h.block k hk hne
theorem grown_setnewX {w w' : World} {row : Option Nat} (h : w.grownBy w' row) {b : Nat} (hb : w.heap.size ≤ b) (i : Nat) (v : Value) : w.grownBy (w'.setCell ⟨b, i, none⟩ v) row := by
  refine ⟨h.os, h.tape, h.output, ?_, fun k hk hne => ?_⟩
  · have := h.size; simpa using this
  · have e : k ≠ b := by omega
    rw [Below.heap_setCell _ _ _ _ e]
    exact h.block k hk hne
end Go.Proofs.YtpklajadfbigcaaGreatDoor
namespace Go.Proofs.YtpklajadfbigcaaGreatDoor
open Go.RowKit

def VvAt (B : Nat) (w : World) (a : Option Addr) (l : List Vv) : Prop :=
  l.length ≤ 9223372036854775807 ∧ (l = [] ∨ ∃ b off, a = some ⟨b, off, none⟩ ∧ b < B ∧ ∀ i, i < l.length → w.cell? ⟨b, off + i * 3, none⟩ = some (.int .i64 (l.getD i default).k) ∧ w.cell? ⟨b, off + i * 3 + 1, none⟩ = some (.int .i64 (l.getD i default).n) ∧ w.cell? ⟨b, off + i * 3 + 2, none⟩ = some (.string (l.getD i default).s))
theorem VvAt.keep {B : Nat} {w w' : World} {a : Option Addr} {l : List Vv} (h : VvAt B w a l) {row : Option Nat} (hg : w.grownBy w' row) (hr : ∀ k, row = some k → B ≤ k) : VvAt B w' a l := by
  refine ⟨h.1, h.2.imp id fun ⟨b, off, e, hlt, hc⟩ => ⟨b, off, e, hlt, fun i hi => ?_⟩⟩
  have hb : some b ≠ row := fun e => by have := hr b e.symm; omega
  exact ⟨hg.cell (hc i hi).1 hb, hg.cell (hc i hi).2.1 hb, hg.cell (hc i hi).2.2 hb⟩
theorem VvAt.mono {B B' : Nat} {w : World} {a : Option Addr} {l : List Vv} (h : VvAt B w a l) (hB : B ≤ B') : VvAt B' w a l := ⟨h.1, h.2.imp id fun ⟨b, off, e, hlt, hc⟩ => ⟨b, off, e, by omega, hc⟩⟩
theorem VvAt.at {B : Nat} {w : World} {a : Option Addr} {l : List Vv} (h : VvAt B w a l) {i : Nat} (hi : i < l.length) : ∃ b off, a = some ⟨b, off, none⟩ ∧ b < B ∧ w.cell? ⟨b, off + i * 3, none⟩ = some (.int .i64 (l.getD i default).k) ∧ w.cell? ⟨b, off + i * 3 + 1, none⟩ = some (.int .i64 (l.getD i default).n) ∧ w.cell? ⟨b, off + i * 3 + 2, none⟩ = some (.string (l.getD i default).s) := by
  rcases h.2 with h | ⟨b, off, e, hlt, hc⟩
  · rw [h] at hi; simp at hi
  · exact ⟨b, off, e, hlt, hc i hi⟩
def Fits (l : List Cl) (r : List Vv) : Prop := r.length = l.length ∧ ∀ i, i < l.length → holdsB (l.getD i default) (r.getD i default) = true
end Go.Proofs.YtpklajadfbigcaaGreatDoor
namespace Go.Proofs.YtpklajadfbigcaaGreatDoor
open Go.RowKit

section
variable {P : Program} {ops : Array Oper} {Q : Exit → Act → World → Prop} {md : Region.Mode} {S : World → Prop} {i : Nat} {oi : Oper} {v : Value} {fuel : Nat} {listed : Array Bool} {a : Act} {w : World}
theorem TKA (hi : ops[i]? = some oi) (hy : YieldsIf P ops S oi v a) (h : wpAnyH P md ops Q S fuel (listed.setIfInBounds i true) (a.put oi.dst v) w) (hs : Region.noSelect ops = true := by kernel_rfl) (hf : Region.free md ops listed i = true := by kernel_rfl) (hr : (Region.ready md ops listed).contains i = true := by kernel_rfl) (hQ : ∀ c a w, Q (.panic c) (a.put oi.dst v) w → Q (.panic c) a w := by exact fun _ _ _ h => h) (hS : S w := by assumption) : wpAnyH P md ops Q S (fuel + 1) listed a w := wpAnyH_take hi hs hf hr hQ hy hS h
theorem TKB (hi : ops[i]? = some oi) (hy : ∀ w, S w → (execOp a.eval oi).run P w = .ok (.value v) w) (h : wpAnyH P md ops Q S fuel (listed.setIfInBounds i true) (a.put oi.dst v) w) (hw : Region.wanted oi (yielded ops a.tmps) = true := by rfl) (hs : Region.noSelect ops = true := by kernel_rfl) (hf : Region.free md ops listed i = true := by kernel_rfl) (hr : (Region.ready md ops listed).contains i = true := by kernel_rfl) (hQ : ∀ c a w, Q (.panic c) (a.put oi.dst v) w → Q (.panic c) a w := by exact fun _ _ _ h => h) (hS : S w := by assumption) : wpAnyH P md ops Q S (fuel + 1) listed a w := wpAnyH_take hi hs hf hr hQ (.inl ⟨hw, hy⟩) hS h
theorem TKU (hi : ops[i]? = some oi) (h : wpAnyH P md ops Q S fuel (listed.setIfInBounds i true) (a.put oi.dst undef) w) (hw : Region.wanted oi (yielded ops a.tmps) = false := by rfl) (hs : Region.noSelect ops = true := by kernel_rfl) (hf : Region.free md ops listed i = true := by kernel_rfl) (hr : (Region.ready md ops listed).contains i = true := by kernel_rfl) (hQ : ∀ c a w, Q (.panic c) (a.put oi.dst undef) w → Q (.panic c) a w := by exact fun _ _ _ h => h) (hS : S w := by assumption) : wpAnyH P md ops Q S (fuel + 1) listed a w := wpAnyH_take hi hs hf hr hQ (.inr ⟨hw, rfl⟩) hS h
theorem RD1 (ho : ops[i]? = some oi) (h : ∀ K' : Act → World → Prop, Shut (∀ a w, S w → (S w → wpAnyH P md ops Q S fuel (listed.setIfInBounds i true) a w) → K' a w) → if Region.wanted oi (yielded ops a.tmps) = true then Oper.wp P oi a w K' Q else K' (a.put oi.dst undef) w) (hr : Region.ready md ops listed = [i] := by kernel_rfl) : wpAnyH P md ops Q S (fuel + 1) listed a w := wpAnyH_ready hr (by simp) (AllReadyH.cons ho h AllReadyH.nil)
end

def bk (a : Option Addr) (k : Nat) : Prop := a.map Addr.block = some k
theorem bk_some (g o : Nat) (s : Option Nat) (k : Nat) : bk (some ⟨g, o, s⟩) k ↔ g = k := by simp [bk]
theorem Only.keepS {M : Nat → Prop} {w w' : World} (h : Only M w w') {b : Nat} (hb : b < w.heap.size) (hM : ¬ M b) (o : Nat) : w'.cell? ⟨b, o, none⟩ = w.cell? ⟨b, o, none⟩ ∧ w'.frozen? ⟨b, o, none⟩ = w.frozen? ⟨b, o, none⟩ :=
  ⟨World.cell?_of_block (a := ⟨b, o, none⟩) (h.block b hb hM), World.frozen?_of_block (a := ⟨b, o, none⟩) (h.block b hb hM)⟩
theorem Only.of_none {M : Nat → Prop} {w w' : World} (h : w.grownBy w' none) : Only M w w' := ⟨h.os, h.tape, h.output, h.size, fun b hb _ => h.block b hb (by simp)⟩
theorem Only.mono {M M' : Nat → Prop} {w w' : World} (h : Only M w w') (hM : ∀ k, k < w.heap.size → M k → M' k) : Only M' w w' := ⟨h.os, h.tape, h.output, h.size, fun b hb hn => h.block b hb (fun e => hn (hM b hb e))⟩
structure Win (sz : Nat) (w : World) (a : Option Addr) (cap n : Nat) (xs : List Value) : Prop where
  len : xs.length = n * sz
  le : n ≤ cap
  max : cap ≤ maxLen
  lt : ∀ k, bk a k → k < w.heap.size
  mem : cap = 0 ∨ ∃ g off, a = some ⟨g, off, none⟩ ∧ (∀ j u, xs[j]? = some u → w.cell? ⟨g, off + j, none⟩ = some u) ∧ (∀ j, j < cap * sz → (w.cell? ⟨g, off + j, none⟩).isSome = true) ∧ ∀ o, w.frozen? ⟨g, o, none⟩ = false
theorem Win.nil (sz : Nat) (w : World) : Win sz w none 0 0 [] := ⟨by simp, Nat.le_refl _, Nat.zero_le _, fun k h => by simp [bk] at h, .inl rfl⟩
theorem Win.keep {sz : Nat} {w w' : World} {a : Option Addr} {cap n : Nat} {xs : List Value} {M : Nat → Prop} (h : Win sz w a cap n xs) (ho : Only M w w') (hM : ∀ k, bk a k → ¬ M k) : Win sz w' a cap n xs := by
  refine ⟨h.len, h.le, h.max, fun k hk => Nat.lt_of_lt_of_le (h.lt k hk) ho.size, h.mem.imp id fun ⟨g, off, e, hc, hs, hf⟩ => ⟨g, off, e, ?_, ?_, ?_⟩⟩
  all_goals
    have hg : bk a g := by rw [e, bk_some]
    have hk := fun o => ho.keepS (h.lt g hg) (hM g hg) o
  · intro j u hj; rw [(hk _).1]; exact hc j u hj
  · intro j hj; rw [(hk _).1]; exact hs j hj
  · intro o; rw [(hk _).2]; exact hf o
theorem Win.keepG {sz : Nat} {w w' : World} {a : Option Addr} {cap n : Nat} {xs : List Value} (h : Win sz w a cap n xs) (hg : w.grownBy w' none) : Win sz w' a cap n xs := h.keep (M := fun _ => False) (.of_none hg) (fun _ _ e => e)
theorem own_win {B : Nat} {w : World} {e : TypeId} {sz n : Nat} {v : Value} {xs : List Value} (h : w.ownsRow B e sz v n xs) : ∃ a cap, v = .slice a n cap ∧ Win sz w a cap n xs ∧ (∀ k, bk a k → v.ownBlock = some k) := by
  rcases h.2 with ⟨hv, h0⟩ | ⟨g, cap, cur, hv, hb, hg, hc, hm, hcs, htk⟩
  · exact ⟨none, 0, by rw [hv, h0], ⟨h.1, by omega, Nat.zero_le _, fun k h => by simp [bk] at h, .inl rfl⟩, fun k h => by simp [bk] at h⟩
  · refine ⟨some ⟨g, 0, none⟩, cap, hv, ⟨h.1, hc, hm, fun k hk => ?_, .inr ⟨g, 0, rfl, fun j u hj => ?_, fun j hj => ?_, fun o => by simp [World.frozen?, hg]⟩⟩, fun k hk => ?_⟩
    · rw [bk_some] at hk; subst hk; exact (Array.getElem?_eq_some_iff.1 hg).1
    · have := h.cells (g := g) (by rw [hv]; rfl) j u hj
      rw [add_atT] at this
      exact this
    · rw [cell_of_row w g _ cur _ _ hg, Array.getElem?_eq_getElem (by omega)]; rfl
    · rw [bk_some] at hk; subst hk; rw [hv]; rfl
structure ElT (sl e : TypeId) (z : Value) (sz by' : Nat) : Prop where
  und : Tryz.prog.underlying sl = some (.slice e)
  inf : ∃ i, Tryz.prog.info? e = some i ∧ i.zero = some z ∧ i.size = sz ∧ i.bytes = by'
  zc : z.cells.size = sz
  pos : 0 < sz
  few : by' ≤ 256
theorem setCells_size (b : Nat) : ∀ (vs : List Value) (o : Nat) (w : World), (w.setCells b o vs).heap.size = w.heap.size
  | [], _, _ => rfl
  | v :: vs, o, w => by
    show ((w.setCell ⟨b, o, none⟩ v).setCells b (o + 1) vs).heap.size = _
    rw [setCells_size b vs]; simp [World.setCell]
theorem only_setCells (b : Nat) : ∀ (vs : List Value) (o : Nat) (w : World), Only (fun k => b = k) w (w.setCells b o vs)
  | [], _, w => Only.refl _ w
  | v :: vs, o, w => (((Only.refl (fun k => b = k) w).set (.inl rfl) o v).trans (only_setCells b vs (o + 1) _) (fun _ h => .inl h))
theorem Win.put {sz : Nat} {w : World} {g off cap n m : Nat} {xs ys vs : List Value} {o : Nat} (h : Win sz w (some ⟨g, off, none⟩) cap n xs) (hcap : cap ≠ 0) (ho : o + vs.length ≤ cap * sz) (hl : ys.length = m * sz) (hm : m ≤ cap)
    (hys : ∀ j u, ys[j]? = some u → (o ≤ j ∧ vs[j - o]? = some u) ∨ ((j < o ∨ o + vs.length ≤ j) ∧ xs[j]? = some u)) : Win sz (w.setCells g (off + o) vs) (some ⟨g, off, none⟩) cap m ys := by
  rcases h.mem with h0 | ⟨g', off', e, hc, hs, hf⟩
  · exact absurd h0 hcap
  · cases e
    have hin := World.cell?_setCells_in g vs (off + o) w (fun j hj => by rw [Nat.add_assoc]; exact hs _ (by omega))
    refine ⟨hl, hm, h.max, fun k hk => by rw [setCells_size]; exact h.lt k hk, .inr ⟨g, off, rfl, fun j u hj => ?_, fun j hj => World.isSome_setCells g vs _ w _ (hs j hj), fun i => by rw [World.frozen?_setCells]; exact hf i⟩⟩
    rcases hys j u hj with ⟨h1, h2⟩ | ⟨h1, h2⟩
    · obtain ⟨hjl, hju⟩ := List.getElem?_eq_some_iff.1 h2
      have := hin (j - o) hjl
      rw [show off + o + (j - o) = off + j by omega] at this
      rw [this, hju]
    · rw [World.cell?_setCells_out g vs (off + o) w ⟨g, off + j, none⟩ (fun _ _ => by
        show off + j < off + o ∨ off + o + vs.length ≤ off + j
        omega)]
      exact hc j u h2
end Go.Proofs.YtpklajadfbigcaaGreatDoor
namespace Go.Proofs.YtpklajadfbigcaaGreatDoor
open Go.RowKit

def Tk.c (t : Tk) : List Value := [.int .i64 t.kind, .string t.text, .int .i64 t.pos]
theorem grown_thenX {a b c : World} {row row' : Option Nat} (h : a.grownBy b row) (k : b.grownBy c row') (hr : ∀ j, row' = some j → a.heap.size ≤ j) : a.grownBy c row :=
  ⟨k.os.trans h.os, k.tape.trans h.tape, k.output.trans h.output, Nat.le_trans h.size k.size, fun i hi hne => (k.block i (Nat.lt_of_lt_of_le hi h.size) (fun e => by have := hr i e.symm; omega)).trans (h.block i hi hne)⟩
end Go.Proofs.YtpklajadfbigcaaGreatDoor
namespace Go.Proofs.YtpklajadfbigcaaGreatDoor
open Go.ChangeShapes Go.WideShapes Go.ChangeAt Go.RowKit Go.Joins Go.Deep

theorem addS_plain (b o k : Nat) : (⟨b, o, none⟩ : Addr).add k = ⟨b, o + k, none⟩ := by
  unfold Addr.add
  by_cases h : k = 0
  · subst h; simp
  · simp [h]
theorem blockS_of_cell {w : World} {b o : Nat} {v : Value} (h : w.cell? ⟨b, o, none⟩ = some v) : b < w.heap.size := by
  rcases Nat.lt_or_ge b w.heap.size with h' | h'
  · exact h'
  · simp [World.cell?, Array.getElem?_eq_none h'] at h
theorem cellS_plain {W : World} {a : Addr} {v : Value} (h : W.cell? (a.add 0) = some v) : a = ⟨a.block, a.off, none⟩ := by
  obtain ⟨b, off, spot⟩ := a
  have : spot = none := by simpa [Addr.add] using World.cell?_spot h
  subst this
  rfl
section
variable {H : Type} {enc : TypeId × Value → H}

set_option maxRecDepth 100000 in
theorem colS_cells {W : World} {base n : Nat} {spare : Nat → Bool} {held : Bool} {cs : List Value} {y : DataW H × List MemPlace} (ht : DataW.trod enc Tryz.prog W base spare held n 47 cs = some y) (hcl : cs.length = 3) :
    ∃ x : Cl, cs = [.string x.n, .int .i64 x.k, .bool x.b] ∧ x.n.size ≤ maxLen := by
  obtain ⟨c0, c1, c2, rfl⟩ : ∃ c0 c1 c2, cs = [c0, c1, c2] := by
    match cs, hcl with
    | [c0, c1, c2], _ => exact ⟨c0, c1, c2, rfl⟩
  obtain ⟨y0, y1, y2, m, _, _, h0, h1, h2⟩ := trod_struct3 Tryz.underlying47 ht
  have k0 : Tryz.prog.cellsOf 33 = 1 := by kernel_rfl
  have k1 : Tryz.prog.cellsOf 4 = 1 := by kernel_rfl
  have k2 : Tryz.prog.cellsOf 9 = 1 := by kernel_rfl
  simp only [k0, k1, k2, List.drop_zero, List.drop_succ_cons, List.take_succ_cons, List.take_zero] at h0 h1 h2
  obtain ⟨s, e0, _, hs⟩ := DataW.trod_string Tryz.underlying9 h0
  obtain ⟨k, e1, _, _⟩ := DataW.trod_int Tryz.underlying33 h1
  obtain ⟨b, e2, _⟩ := DataW.trod_bool Tryz.underlying4 h2
  simp only [List.cons.injEq, and_true] at e0 e1 e2
  subst e0 e1 e2
  exact ⟨⟨s, k, b⟩, rfl, hs⟩
theorem cellsS_value : Tryz.prog.cellsOf 37 = 3 := by kernel_rfl
theorem cellsS_col : Tryz.prog.cellsOf 47 = 3 := by kernel_rfl
set_option maxRecDepth 100000 in
theorem colsS_cells {W : World} {fuel : Nat} {cs : List Value} {y : DataW H × List MemPlace} (hf : DataW.trod enc Tryz.prog W 0 (fun _ => true) true fuel 22 cs = some y) :
    ∃ (a : Option Addr) (cap : Nat) (l : List Cl), cs = [.slice a l.length cap] ∧ ColsAt W.heap.size W a l ∧ l.length ≤ cap ∧ ∀ i, i < l.length → (l.getD i default).n.size ≤ 9223372036854775807 := by
  rcases open_slice Tryz.underlying22 hf with ⟨hcs, _⟩ | ⟨x, len, cap', m, n, D, Pl, hcs, _, hl, hm, hmm, _, hi⟩
  · exact ⟨none, 0, [], hcs, ⟨by simp, .inl rfl⟩, Nat.le_refl _, fun i hi => by simp at hi⟩
  · simp only [if_true] at hmm
    subst hmm
    have hx : ∀ i, i < len → ∃ x' : Cl, x'.n.size ≤ maxLen ∧ W.cell? ((x.add (i * Tryz.prog.cellsOf 47)).add 0) = some (.string x'.n) ∧ W.cell? ((x.add (i * Tryz.prog.cellsOf 47)).add 1) = some (.int .i64 x'.k) ∧ W.cell? ((x.add (i * Tryz.prog.cellsOf 47)).add 2) = some (.bool x'.b) := fun i hilt => by
      obtain ⟨cs', hc, ht⟩ := hi i (by omega)
      obtain ⟨_, hcl, hat⟩ := World.cells?_some hc
      obtain ⟨x', e, hs⟩ := colS_cells ht (hcl.trans cellsS_col)
      subst e
      exact ⟨x', hs, hat 0 (by rw [cellsS_col]; decide), hat 1 (by rw [cellsS_col]; decide), hat 2 (by rw [cellsS_col]; decide)⟩
    obtain ⟨f, hfun⟩ := choose_lt hx
    rw [cellsS_col] at hfun
    have hlen : ((List.range len).map f).length = len := by simp
    have hget : ∀ i, i < len → ((List.range len).map f).getD i default = f i := fun i hilt => by simp [List.getD, hilt]
    refine ⟨some x, m, (List.range len).map f, by rw [hlen]; exact hcs, ⟨by rw [hlen]; unfold maxLen at hm; omega, ?_⟩, by rw [hlen]; exact hl, fun i hi => ?_⟩
    · by_cases h0 : len = 0
      · left; subst h0; rfl
      · right
        have hp : x = ⟨x.block, x.off, none⟩ := cellS_plain (W := W) (v := .string (f 0).n) (by have := (hfun 0 (by omega)).2.1; simpa [Addr.add] using this)
        have hc0 := (hfun 0 (by omega)).2.1
        rw [hp] at hc0
        refine ⟨x.block, x.off, by rw [← hp], blockS_of_cell hc0, fun i hilt => ?_⟩
        rw [hlen] at hilt
        rw [hget i hilt]
        have := (hfun i hilt).2
        rw [hp] at this
        simpa only [addS_plain, Nat.add_zero] using this
    · rw [hlen] at hi
      rw [hget i hi]
      have := (hfun i hi).1
      unfold maxLen at this
      omega
set_option maxRecDepth 100000 in
theorem open_table6 {W : World} {b0 : Nat} {v : Value} {d : DataW H} {p : List MemPlace} (hv : Value.okWide Tryz.prog W .any b0 24 v) (h : DataW.Trod enc Tryz.prog W 0 (fun _ => true) true 24 v d p) :
    ∃ (N : ByteArray) (a : Option Addr) (cap : Nat) (l : List Cl) (K : Int), v = .agg #[.string N, .slice a l.length cap, .int .i64 K] ∧ N.size ≤ 9223372036854775807 ∧ ColsAt W.heap.size W a l ∧ l.length ≤ cap ∧ ∀ i, i < l.length → (l.getD i default).n.size ≤ 9223372036854775807 := by
  obtain ⟨c0, c1, c2, y0, y1, y2, m, rfl, rfl, rfl, hy0, hy1, hy2⟩ := open_agg3 Tryz.underlying24 (by kernel_rfl) (by kernel_rfl) hv h
  obtain ⟨s, e0, _, hs⟩ := DataW.trod_string Tryz.underlying9 hy0
  obtain ⟨a, cap, l, e1, hc⟩ := colsS_cells hy1
  obtain ⟨n, e2, _, wn⟩ := DataW.trod_int Tryz.underlying3 hy2
  simp only [List.cons.injEq, and_true] at e0 e1 e2
  subst e0 e1 e2
  exact ⟨s, a, cap, l, n, rfl, by unfold maxLen at hs; omega, hc⟩
end
end Go.Proofs.YtpklajadfbigcaaGreatDoor
