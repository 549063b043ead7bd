/- A slice of slices of pairs in memory (what StoreSteps keeps), and one of them put another way. At and Since of the store at kept versions, by the kept history. What StoreSteps does with one of its slices of pairs: Put and change; the catalog's tables by their numbers. -/
import Derived.Test.YtnfpomjcofhppaaGreatDoorZb43
import Derived.Test.YtnfpomjcofhppaaGreatDoorZb40
import Derived.Test.YtnfpomjcofhppaaGreatDoorZb42
import Derived.Test.YtnfpomjcofhppaaGreatDoorZb39
namespace Go.Proofs.YtnfpomjcofhppaaGreatDoor
open Go.RowKit

structure Pl where
  a : Ptr
  cap : Nat
  l : List Pw
instance : Inhabited Pl := ⟨⟨none, 0, []⟩⟩
def Pl.v (x : Pl) : Value := .slice x.a x.l.length x.cap
/-- Pairs that lie in S, for Put. -/
structure PlS (S : Nat → Prop) (w : World) (x : Pl) : Prop where
  ps : PsS S w x.a x.l
  cap : x.l.length ≤ x.cap
  good : ∀ y ∈ x.l, y.k.l.all Vl.good = true
theorem PlS.keep {S : Nat → Prop} {w w' : World} {x : Pl} (h : PlS S w x) (hk : Stays S w w') : PlS S w' x := ⟨h.ps.keep hk, h.cap, h.good⟩
theorem PlS.nil (S : Nat → Prop) (w : World) : PlS S w default := ⟨⟨by simp [default], by simp [default], .inl rfl⟩, by simp [default], by simp [default]⟩
/-- The slices of pairs lie in block T, the pairs outside it. -/
structure NowAt (B : Nat) (w : World) (T : Nat) (ps : List Pl) : Prop where
  blk : w.heap[T]? = some (.cells (ps.map Pl.v).toArray 56 (0, 0))
  low : B ≤ T
  mem : ∀ x ∈ ps, PlS (fun j => j ≠ T) w x
theorem NowAt.keep {B : Nat} {w w' : World} {T : Nat} {ps : List Pl} (h : NowAt B w T ps) (hg : w.grownBy w' none) : NowAt B w' T ps :=
  ⟨(hg.block T (Array.getElem?_eq_some_iff.1 h.blk).1 (by simp)).trans h.blk, h.low, fun x hx => (h.mem x hx).keep (.of hg)⟩
theorem NowAt.cell {B : Nat} {w : World} {T : Nat} {ps : List Pl} (h : NowAt B w T ps) {i : Nat} (hi : i < ps.length) : w.cell? ⟨T, i, none⟩ = some (.slice (ps.getD i default).a (ps.getD i default).l.length (ps.getD i default).cap) := by
  rw [cell_of_row _ _ i _ _ _ h.blk]
  simp [List.getD, hi, Pl.v]
theorem NowAt.frozen {B : Nat} {w : World} {T : Nat} {ps : List Pl} (h : NowAt B w T ps) (i : Nat) : w.frozen? ⟨T, i, none⟩ = false := frozen_of_row _ _ _ _ _ h.blk
theorem NowAt.at {B : Nat} {w : World} {T : Nat} {ps : List Pl} (h : NowAt B w T ps) {i : Nat} (hi : i < ps.length) : PlS (fun j => j ≠ T) w (ps.getD i default) := h.mem _ (by simp [List.getD, hi])
theorem stays_set (w : World) (T i : Nat) (v : Value) : Stays (fun j => j ≠ T) w (w.setCell ⟨T, i, none⟩ v) :=
  ⟨by simp [World.setCell], fun b hb _ => heap_setCell_other _ _ _ _ hb⟩
/-- One of them is stored. -/
theorem NowAt.set {B : Nat} {w : World} {T : Nat} {ps : List Pl} (h : NowAt B w T ps) {x : Pl} (hx : PlS (fun j => j ≠ T) w x) (i : Nat) : NowAt B (w.setCell ⟨T, i, none⟩ x.v) T (ps.set i x) := by
  refine ⟨?_, h.low, fun y hy => ?_⟩
  · rw [heap_setCell_same _ _ _ _ _ _ h.blk, List.map_set]
    simp
  · rcases List.mem_or_eq_of_mem_set hy with hy | rfl
    · exact (h.mem y hy).keep (stays_set _ _ _ _)
    · exact hx.keep (stays_set _ _ _ _)
theorem grown_setT {w0 w' : World} {T : Nat} (hg : w0.grownBy w' none) (hT : w0.heap.size ≤ T) (i : Nat) (v : Value) : w0.grownBy (w'.setCell ⟨T, i, none⟩ v) none :=
  ⟨hg.os, hg.tape, hg.output, Nat.le_trans hg.size (stays_set w' T i v).1, fun j hj hn => (heap_setCell_other _ _ _ _ (show j ≠ T by omega)).trans (hg.block j hj hn)⟩
/-- As made: empty ones. -/
theorem NowAt.made {B : Nat} {w : World} {C : Array Value} {n : Nat} (hB : B ≤ w.heap.size) (hn : C.size = n) (hC : ∀ i, i < n → C[i]? = some (.slice none 0 0)) : NowAt B (w.alloc (.cells C 56)) w.heap.size (List.replicate n default) := by
  refine ⟨?_, hB, fun x hx => by rw [(List.mem_replicate.1 hx).2]; exact PlS.nil _ _⟩
  have e : C = ((List.replicate n (default : Pl)).map Pl.v).toArray := by
    apply Array.ext
    · simp [hn]
    · intro i h1 h2
      have := hC i (by omega)
      rw [Array.getElem?_eq_getElem h1] at this
      rw [Option.some.inj this]
      simp [Pl.v, default]
  rw [heap_alloc_new, e]
theorem made_tabs2 (n : Nat) (hn : n ≤ 1000) : ∃ C : Array Value, (∀ w : World, (Instr.makeSlice 47 (.int .i64 n) (.int .i64 n)).run Tryz.prog w = .ok (.slice (some ⟨w.heap.size, 0, none⟩) n n) (w.alloc (.cells C 56))) ∧ C.size = n ∧ ∀ i, i < n → C[i]? = some (.slice none 0 0) :=
  ⟨madeCells #[.slice none 0 0] n, fun w => run_make_row' _ _ (.slice none 0 0) 24 Tryz.underlying47 pairs_info rfl .i64 .i64 n (by omega) (by omega) w, by rw [← Array.length_toList, toList_madeCells_one, List.length_replicate], fun i hi => by
    rw [← Array.getElem?_toList, toList_madeCells_one]
    simp [hi]⟩
end Go.Proofs.YtnfpomjcofhppaaGreatDoor
namespace Go.Proofs.YtnfpomjcofhppaaGreatDoor
open Go.RowKit

theorem HistS.oldest {s : Stm} (h : HistS s) {from_ : Int} (hf : from_ = max 0 (s.v - 32)) (h0 : 0 ≤ s.v) : from_ = s.v - s.cs.length := by
  have := h.count
  omega
/-- Since from the oldest version on: all that's kept. -/
theorem sinceAll_any (B : Nat) (s : Stm) (w : World) (v : Int) (h : SAt B w s) (hv : v = s.v - s.cs.length) :
    Calls Tryz.prog 10 #[.pointer (some ⟨s.b, 0, none⟩), .int .i64 v] w fun e w' => (∃ (a : Ptr) (co : Nat), e = .returned (.tuple #[.slice a s.cs.length co, .int .i64 0]) ∧ Hid (∃ cs' : List Cm, cs'.length = s.cs.length ∧ (s.cs.length ≤ co ∧ ∀ x ∈ cs', capsL x.l) ∧ CmS (fun b => w.heap.size ≤ b) w' a cs' ∧ cs'.map Cm.p = s.cs.map Cm.p)) ∧ w.grownBy w' none := by
  have hc : sinceC s v = 0 := by unfold sinceC; rw [if_neg (by omega)]
  have hl : sinceL s v = s.cs.map Cm.p := by
    unfold sinceL
    rw [if_neg (by omega), show s.cs.length - (s.v - v).toNat = 0 by omega, List.drop_zero]
  refine (sinceX_any B s w v h (by omega)).mono ?_
  rintro e w' ⟨⟨a, m, co, rfl, hx⟩, hg⟩
  rw [hc, hl] at *
  have hm : m = s.cs.length := by
    obtain ⟨cs', e1, _, _, e2⟩ := hx.out
    have := congrArg List.length e2
    simp only [List.length_map] at this
    omega
  subst hm
  exact ⟨⟨a, co, rfl, hx⟩, hg⟩
/-- At a version that's kept: the i-th snapshot. -/
theorem atKept_any (B : Nat) (s : Stm) (v : Int) (i : Nat) (w : World) (h : SAt B w s) (hi : i ≤ s.cs.length) (hv : v = s.v - s.cs.length + i) :
    Calls Tryz.prog 9 #[.pointer (some ⟨s.b, 0, none⟩), .int .i64 v] w fun e w' => (∃ p : Nat, e = .returned (.tuple #[.pointer (some ⟨p, 0, none⟩), .int .i64 0]) ∧ w.heap.size ≤ p ∧ Snp (fun b => ¬ s.M b) w' p s.ca s.cc s.ts (s.sn.getD i default)) ∧ w.grownBy w' none := by
  refine (at_any B s v w h).mono ?_
  rintro e w' ⟨(⟨h1, _⟩ | ⟨h1, _⟩ | ⟨j, p, _, hj, rfl, hp, hs⟩), hg⟩
  · omega
  · omega
  · obtain rfl : j = i := by omega
    exact ⟨⟨p, rfl, hp, hs⟩, hg⟩
/-- The i-th commit leads from the i-th snapshot to the next one. -/
theorem HistS.step {s : Stm} (h : HistS s) (hk : s.sn.length = s.cs.length + 1) {i : Nat} (hi : i < s.cs.length) :
    (s.cs.getD i default).p.1 = s.v - s.cs.length + 1 + i ∧ stepL s.ts (fun j => ((s.sn.getD i default).tr j).toL) (s.cs.getD i default).p.2 = some (fun j => ((s.sn.getD (i + 1) default).tr j).toL) ∧ (s.cs.getD i default).p.2.length ≤ 20 ∧ ∀ x ∈ (s.cs.getD i default).p.2, x.2.1 ≠ x.2.2 ∧ x.2.2.all Vl.good = true := by
  have e1 : (s.cs.map Cm.p)[i]? = some (s.cs.getD i default).p := by simp [List.getD, hi]
  have e2 : (s.sn.map Sn.p)[i]? = some (s.sn.getD i default).p := by simp [List.getD, show i < s.sn.length by omega]
  have e3 : (s.sn.map Sn.p)[i + 1]? = some (s.sn.getD (i + 1) default).p := by simp [List.getD, show i + 1 < s.sn.length by omega]
  have hv := h.vers i _ e1
  rw [List.length_map] at hv
  exact ⟨hv, (h.link i _ _ _ e1 e2 e3).1, (h.link i _ _ _ e1 e2 e3).2⟩
end Go.Proofs.YtnfpomjcofhppaaGreatDoor
namespace Go.Proofs.YtnfpomjcofhppaaGreatDoor
open Go.RowKit

theorem putPl_any (S : Nat → Prop) (x : Pl) (z : Rw) (kn : Nat) (w : World) (hS : ∀ b, w.heap.size ≤ b → S b) (hx : PlS S w x) (hz : RwS S w z.a z.l) (hzg : z.l.all Vl.good = true) (hk : kn ≤ z.l.length) (hl : x.l.length ≤ 90000) :
    Calls Tryz.prog 12 #[.slice x.a x.l.length x.cap, .slice z.a kn z.cap, .slice z.a z.l.length z.cap] w fun e w' => (∃ y : Pl, e = .returned y.v ∧ PlS S w' y ∧ y.l.map Pw.p = Tr.putL rowsOrd (z.l.take kn) z.l (x.l.map Pw.p)) ∧ w.grownBy w' none := by
  have e : (z.l.take kn).length = kn := by rw [List.length_take]; omega
  have h := refPut_any S x.a z.a z.a x.cap z.cap z.cap x.l (z.l.take kn) z.l w hS hx.ps hx.cap (hz.pre hk) hz (all_take hzg) hx.good hl
  rw [e] at h
  refine h.mono ?_
  rintro e w' ⟨⟨a', cap', rfl, hc, hp⟩, hg⟩
  refine ⟨⟨⟨a', cap', _⟩, rfl, ⟨hp, hc, fun y hy => ?_⟩, ?_⟩, hg⟩
  · rcases insP_mem hy with rfl | hy
    · exact all_take hzg
    · exact hx.good y (delP_mem hy)
  · rw [insP_p, delP_p]; rfl
theorem changePl_any (S : Nat → Prop) (x : Pl) (ta : Ptr) (tl tc kn : Nat) (tn : ByteArray) (d : Cg) (w : World) (l' : PL) (hS : ∀ b, w.heap.size ≤ b → S b) (hx : PlS S w x) (ho : RwS S w d.o.a d.o.l) (hn : RwS S w d.n.a d.n.l) (hoc : d.o.l.length ≤ d.o.cap) (hnc : d.n.l.length ≤ d.n.cap) (hng : d.n.l.all Vl.good = true) (hk1 : 1 ≤ kn) (hl : x.l.length ≤ 90000) (hc : changeL kn (x.l.map Pw.p) d.o.l d.n.l = some l') :
    Calls Tryz.prog 13 #[.slice x.a x.l.length x.cap, .agg #[.string tn, .slice ta tl tc, .int .i64 kn], .agg #[.string d.t, d.o.v, d.n.v]] w fun e w' => (∃ y : Pl, e = .returned (.tuple #[y.v, .bool true]) ∧ PlS S w' y ∧ y.l.map Pw.p = l') ∧ w.grownBy w' none := by
  refine (lawChange_any S x.a ta x.cap tl tc kn tn x.l d w l' hS hx.ps hx.cap ho hn hoc hnc hng hk1 hx.good hl hc).mono ?_
  rintro e w' ⟨⟨a', cap', l2, rfl, h1, h2, h3, h4⟩, hg⟩
  exact ⟨⟨⟨a', cap', l2⟩, rfl, ⟨h2, h1, h4⟩, h3⟩, hg⟩
theorem tab_same {ts l : List Tb} (h : ts.map Tb.p = l.map Tb.p) {i : Nat} (hi : i < l.length) : i < ts.length ∧ (l.getD i default).n = (ts.getD i default).n ∧ (l.getD i default).k = (ts.getD i default).k := by
  have hl : ts.length = l.length := by have := congrArg List.length h; simpa using this
  have h1 : (ts.map Tb.p)[i]? = (l.map Tb.p)[i]? := by rw [h]
  rw [List.getElem?_map, List.getElem?_map, List.getElem?_eq_getElem hi, List.getElem?_eq_getElem (show i < ts.length by omega)] at h1
  simp only [Option.map_some, Option.some.injEq, Tb.p, Prod.mk.injEq] at h1
  refine ⟨by omega, ?_, ?_⟩
  · simp [List.getD, hi, show i < ts.length by omega, h1.1]
  · simp [List.getD, hi, show i < ts.length by omega, h1.2.2]
/-- The slices' pairs. -/
def Holds (ps : List Pl) (P : Nat → PL) : Prop := ∀ k, k < ps.length → (ps.getD k default).l.map Pw.p = P k
theorem getD_set {ps : List Pl} {i k : Nat} {y : Pl} (hi : i < ps.length) : (ps.set i y).getD k default = if k = i then y else ps.getD k default := by
  by_cases e : k = i
  · subst e; simp [List.getD, hi]
  · rw [if_neg e]; simp [List.getD, List.getElem?_set_ne (fun h => e h.symm)]
theorem Holds.set {ps : List Pl} {P Q : Nat → PL} (h : Holds ps P) {i : Nat} (hi : i < ps.length) {y : Pl} (hy : y.l.map Pw.p = Q i) (hQ : ∀ k, k ≠ i → Q k = P k) : Holds (ps.set i y) Q := fun k hk => by
  rw [List.length_set] at hk
  rw [getD_set hi]
  by_cases e : k = i
  · subst e; rw [if_pos rfl]; exact hy
  · rw [if_neg e, hQ k e]; exact h k hk
theorem three_ofS {w : World} {b : Nat} {v0 v1 v2 : Value} {T : TypeId} (h : w.heap[b]? = some (.cells #[v0, v1, v2] T (0, 0))) : (w.cell? ⟨b, 0, none⟩ = some v0 ∧ w.cell? ⟨b, 1, none⟩ = some v1 ∧ w.cell? ⟨b, 2, none⟩ = some v2) ∧ True := by
  have c0 := cell_of_row _ _ 0 _ _ _ h
  have c1 := cell_of_row _ _ 1 _ _ _ h
  have c2 := cell_of_row _ _ 2 _ _ _ h
  simp at c0 c1 c2
  exact ⟨⟨c0, c1, c2⟩, trivial⟩
theorem Stays.trans {S : Nat → Prop} {w w1 w2 : World} (h : Stays S w w1) (h2 : Stays S w1 w2) : Stays S w w2 := ⟨Nat.le_trans h.1 h2.1, fun b hb hlt => (h2.2 b hb (Nat.lt_of_lt_of_le hlt h.1)).trans (h.2 b hb hlt)⟩
/-- One name is the table's, no other one is. -/
theorem tabI_eq {ts : List Tb} (hc : CatOk ts) {M : ByteArray} {k : Nat} (h : tabI ts M = some k) : k < ts.length ∧ ((ts.getD k default).n.toList == M.toList) = true ∧ ∀ i, i < ts.length → i ≠ k → ((ts.getD i default).n.toList == M.toList) = false := by
  unfold tabI at h
  rw [List.findIdx?_eq_some_iff_getElem] at h
  obtain ⟨hk, h1, h2⟩ := h
  have e : ts.getD k default = ts[k] := by simp [List.getD, hk]
  refine ⟨hk, by rw [e]; exact h1, fun i hi hne => ?_⟩
  have e1 : (ts.getD k default).n.toList = M.toList := by rw [e]; exact beq_iff_eq.1 h1
  rw [← e1]
  rcases Nat.lt_or_ge i k with hlt | hge
  · exact hc.apart k hk i hlt
  · have := hc.apart i hi k (by omega)
    rw [beq_eq_false_iff_ne] at this ⊢
    exact fun e => this e.symm
/-- The next change, of those that lead on. -/
theorem stepL_head {ts : List Tb} {P Q : Nat → PL} {n : ByteArray} {o r : List Vl} {cs : List (ByteArray × List Vl × List Vl)} (h : stepL ts P ((n, o, r) :: cs) = some Q) :
    ∃ i l, tabI ts n = some i ∧ changeL (ts.getD i default).k.toNat (P i) o r = some l ∧ stepL ts (fun j => if j = i then l else P j) cs = some Q := by
  simp only [stepL] at h
  cases h1 : tabI ts n with
  | none => rw [h1] at h; cases h
  | some i =>
    rw [h1] at h
    simp only at h
    cases h2 : changeL (ts.getD i default).k.toNat (P i) o r with
    | none => rw [h2] at h; cases h
    | some l => rw [h2] at h; exact ⟨i, l, rfl, h2, h⟩
theorem delL_few (k : List Vl) (l : PL) : (Tr.delL rowsOrd k l).length ≤ l.length := by unfold Tr.delL; exact List.length_filter_le _ _
theorem ins_few (k r : List Vl) : ∀ l : PL, (Tr.ins rowsOrd k r l).length ≤ l.length + 1
  | [] => by simp [Tr.ins]
  | x :: l => by
    simp only [Tr.ins]
    split
    · simp
    · have := ins_few k r l; simp; omega
theorem changeL_few {K : Nat} {l l' : PL} {o r : List Vl} (h : changeL K l o r = some l') : l'.length ≤ l.length + 1 := by
  unfold changeL at h
  generalize (if r = [] then o else r) = z at h
  generalize z.take K = key at h
  by_cases h1 : z.length < K
  · rw [if_pos h1] at h; cases h
  rw [if_neg h1] at h
  generalize (if o = [] then none else some o) = q at h
  by_cases h2 : lookL key l = q
  · rw [if_pos h2] at h
    have h3 := Option.some.inj h
    subst h3
    by_cases h4 : r = []
    · rw [if_pos h4]
      have := delL_few key l
      omega
    · rw [if_neg h4]
      unfold Tr.putL
      have h5 := ins_few key r (Tr.delL rowsOrd key l)
      have h6 := delL_few key l
      omega
  · rw [if_neg h2] at h; cases h
theorem Holds.congr {ps : List Pl} {P Q : Nat → PL} (h : Holds ps P) (he : ∀ k, k < ps.length → Q k = P k) : Holds ps Q := fun k hk => by rw [he k hk]; exact h k hk
end Go.Proofs.YtnfpomjcofhppaaGreatDoor
