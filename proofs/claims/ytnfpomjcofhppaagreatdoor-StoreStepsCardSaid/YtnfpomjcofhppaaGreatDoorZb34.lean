/- The store in memory; its last. -/
import Derived.Test.YtnfpomjcofhppaaGreatDoorZb33
import Derived.Test.YtnfpomjcofhppaaGreatDoorZb08
import Derived.Test.YtnfpomjcofhppaaGreatDoorZb21
namespace Go.Proofs.YtnfpomjcofhppaaGreatDoor
open Go.RowKit

instance : Inhabited Sn := ⟨⟨0, fun _ => none, fun _ => .nil⟩⟩
/-- A store: where it lies, and what it holds. -/
structure Stm where
  b : Nat
  J : Nat
  ja : Ptr
  jc : Nat
  sa : Ptr
  sc : Nat
  ca : Ptr
  cc : Nat
  ts : List Tb
  v : Int
  cs : List Cm
  sn : List Sn
def Stm.R (s : Stm) (k : Nat) : Prop := k = s.b ∨ bk s.sa k
/-- What its calls overwrite. -/
def Stm.M (s : Stm) : Nat → Prop := JM s.R s.J s.ja
structure SAt (B : Nat) (w : World) (s : Stm) : Prop where
  blk : w.heap[s.b]? = some (.cells #[.pointer (some ⟨s.J, 0, none⟩), .slice s.sa s.sn.length s.sc] 96 (0, 0))
  jou : JS s.R w s.J 32 s.v s.ja s.jc s.cs
  win : Win 8 w s.sa s.sc s.sn.length (s.sn.flatMap (snC s.ca s.ts.length s.cc))
  cat : TbsS (fun k => ¬ s.M k) w s.ca s.ts
  tre : ∀ x ∈ s.sn, ∀ i, i < 6 → TrAt (fun k => ¬ s.M k) w (x.tr i) (x.ps i)
  few : s.cs.length ≤ 32
  kept : s.sn.length = s.cs.length + 1
  vers : ∀ i, i < s.sn.length → (s.sn.getD i default).v = s.v - s.cs.length + i
  ok : CatOk s.ts
  hcc : s.ts.length ≤ s.cc
  trs : ∀ x ∈ s.sn, TrsOk x.tr 200
  nsb : ¬ bk s.sa s.b
  low : ∀ k, s.M k → B ≤ k
  v0 : 0 ≤ s.v
  v1 : s.v ≤ 100000
theorem SAt.bJ {B : Nat} {w : World} {s : Stm} (h : SAt B w s) : s.b ≠ s.J ∧ ¬ bk s.sa s.J := ⟨fun e => h.jou.rJ (.inl e.symm), fun e => h.jou.rJ (.inr e)⟩
theorem SAt.lt {B : Nat} {w : World} {s : Stm} (h : SAt B w s) : ∀ k, s.M k → k < w.heap.size := fun k hk => by
  rcases hk with rfl | hk | rfl | hk
  · exact h.jou.jn.lt
  · exact h.jou.win.lt k hk
  · exact (Array.getElem?_eq_some_iff.1 h.blk).1
  · exact h.win.lt k hk
theorem SAt.only {B : Nat} {w w' : World} {s : Stm} {M : Nat → Prop} (h : SAt B w s) (ho : Only M w w') (hM : ∀ k, M k → s.M k → False) (hS : ∀ k, k < w.heap.size → M k → s.M k) : SAt B w' s := by
  have hno : ∀ k, k < w.heap.size → ¬ M k := fun k hk e => hM k e (hS k hk e)
  have hg : w.grownBy w' none := ⟨ho.os, ho.tape, ho.output, ho.size, fun k hk _ => ho.block k hk (hno k hk)⟩
  have hst : Stays (fun k => ¬ s.M k) w w' := .of hg
  exact ⟨(hg.block _ (Array.getElem?_eq_some_iff.1 h.blk).1 (by simp)).trans h.blk, h.jou.keepG hg, h.win.keepG hg, h.cat.keep hst, fun x hx i hi => (h.tre x hx i hi).keep hst, h.few, h.kept, h.vers, h.ok, h.hcc, h.trs, h.nsb, h.low, h.v0, h.v1⟩
theorem SAt.keepG {B : Nat} {w w' : World} {s : Stm} (h : SAt B w s) (hg : w.grownBy w' none) : SAt B w' s :=
  h.only (M := fun _ => False) (.of_none hg) (fun _ e => e.elim) (fun _ _ e => e.elim)
theorem sn_at (ca : Ptr) (n cc : Nat) (l : List Sn) : ∀ i, i < l.length → ∀ j u, (snC ca n cc (l.getD i default))[j]? = some u → (l.flatMap (snC ca n cc))[i * 8 + j]? = some u := by
  induction l with
  | nil => intro i hi; simp at hi
  | cons x l ih =>
    intro i hi j u hj
    rw [List.flatMap_cons]
    match i, hi with
    | 0, _ =>
      have hjl := (List.getElem?_eq_some_iff.1 hj).1
      simp only [List.getD_cons_zero] at hj hjl
      rw [Nat.zero_mul, Nat.zero_add, List.getElem?_append_left hjl]
      exact hj
    | i + 1, hi =>
      rw [List.getElem?_append_right (by simp [snC]; omega)]
      have := ih i (by simpa using hi) j u (by simpa using hj)
      rw [← this]
      congr 1
      simp [snC]; omega
theorem grown_cell9 {w w1 : World} (h : w.grownBy w1 none) {b : Nat} (hb : w.heap.size ≤ b) (i : Nat) (u : Value) : w.grownBy (w1.setCell ⟨b, i, none⟩ u) none :=
  ⟨h.os, h.tape, h.output, by simpa [World.setCell] using h.size, fun k hk hne => (Below.heap_setCell _ _ _ _ (fun e => by have e' : k = b := e; omega)).trans (h.block k hk hne)⟩
def snV (ca : Ptr) (n cc : Nat) (x : Sn) : Value := .agg #[.slice ca n cc, .int .i64 x.v, .pointer (x.ps 0), .pointer (x.ps 1), .pointer (x.ps 2), .pointer (x.ps 3), .pointer (x.ps 4), .pointer (x.ps 5)]
/-- The last snapshot. -/
def Stm.top (s : Stm) : Sn := s.sn.getD (s.sn.length - 1) default
theorem SAt.topMem {B : Nat} {w : World} {s : Stm} (h : SAt B w s) : s.top ∈ s.sn := by
  have := h.kept
  unfold Stm.top
  simp [List.getD, show s.sn.length - 1 < s.sn.length by omega]
set_option maxRecDepth 100000 in
set_option maxHeartbeats 6400000 in
theorem last_any (B : Nat) (s : Stm) (w : World) (h : SAt B w s) :
    Calls Tryz.prog 23 #[.pointer (some ⟨s.b, 0, none⟩)] w fun e w' => e = .returned (snV s.ca s.ts.length s.cc s.top) ∧ w.grownBy w' none := by
  obtain ⟨m, hm⟩ : ∃ m, m = s.cs.length := ⟨_, rfl⟩
  have hk := h.kept
  rw [← hm] at hk
  have hblk := h.blk
  rw [hk] at hblk
  have hle := h.win.le
  have hmx := h.win.max
  rw [hk] at hle
  obtain ⟨g, off, hsa, hc, _, _⟩ := h.win.mem.resolve_left (by omega)
  rw [hsa] at hblk
  have hfew := h.few
  have htop : s.top = s.sn.getD m default := by unfold Stm.top; rw [hk]; rfl
  have hat := sn_at s.ca s.ts.length s.cc s.sn m (by omega)
  rw [← htop] at hat
  have hcell : ∀ j u, (snC s.ca s.ts.length s.cc s.top)[j]? = some u → w.cell? ⟨g, off + m * 8 + j, none⟩ = some u := fun j u hj => by rw [Nat.add_assoc]; exact hc _ u (hat j u hj)
  have b1 : w.cell? ⟨s.b, 1, none⟩ = some (.slice (some ⟨g, off, none⟩) (m + 1) s.sc) := cell_of_row _ _ 1 _ _ _ hblk
  unfold snV
  generalize s.top = x at *
  generalize s.ts.length = tn at *
  obtain ⟨xv, xp, xt⟩ := x
  simp only [snC] at hcell ⊢
  have y0 := hcell 0 _ rfl
  have y1 := hcell 1 _ rfl
  have y2 := hcell 2 _ rfl
  have y3 := hcell 3 _ rfl
  have y4 := hcell 4 _ rfl
  have y5 := hcell 5 _ rfl
  have y6 := hcell 6 _ rfl
  have y7 := hcell 7 _ rfl
  simp only [Nat.add_zero] at y0
  have A1 := heap_alloc_new w (.cells #[.slice none 0 0, .int .i64 0, .pointer none, .pointer none, .pointer none, .pointer none, .pointer none, .pointer none] 82)
  have g1 := World.grownBy_alloc w (.cells #[.slice none 0 0, .int .i64 0, .pointer none, .pointer none, .pointer none, .pointer none, .pointer none, .pointer none] 82) none
  have G1 := Lib.hid g1
  have b1 := g1.cell b1 (by simp)
  have y0 := g1.cell y0 (by simp)
  have y1 := g1.cell y1 (by simp)
  have y2 := g1.cell y2 (by simp)
  have y3 := g1.cell y3 (by simp)
  have y4 := g1.cell y4 (by simp)
  have y5 := g1.cell y5 (by simp)
  have y6 := g1.cell y6 (by simp)
  have y7 := g1.cell y7 (by simp)
  have i1 : (m : Int) < m + 1 := by omega
  have i2 : ((m : Int) + 1) ≤ s.sc := by omega
  have i3 : m ≤ 32 := by omega
  clear h hk hblk hle hc hat hcell hfew htop g1 hmx hm
  go_enter Tryz.func23, Tryz.ntmps23
  go_upto_region 1 with fail
  generalize hw1 : w.alloc (.cells #[.slice none 0 0, .int .i64 0, .pointer none, .pointer none, .pointer none, .pointer none, .pointer none, .pointer none] 82) = w1 at *
  clear hw1
  have z0 : w1.cell? ⟨w.heap.size, 0, none⟩ = some (.slice none 0 0) := cell_of_row _ _ 0 _ _ _ A1
  have z1 : w1.cell? ⟨w.heap.size, 1, none⟩ = some (.int .i64 0) := cell_of_row _ _ 1 _ _ _ A1
  have z2 : w1.cell? ⟨w.heap.size, 2, none⟩ = some (.pointer none) := cell_of_row _ _ 2 _ _ _ A1
  have z3 : w1.cell? ⟨w.heap.size, 3, none⟩ = some (.pointer none) := cell_of_row _ _ 3 _ _ _ A1
  have z4 : w1.cell? ⟨w.heap.size, 4, none⟩ = some (.pointer none) := cell_of_row _ _ 4 _ _ _ A1
  have z5 : w1.cell? ⟨w.heap.size, 5, none⟩ = some (.pointer none) := cell_of_row _ _ 5 _ _ _ A1
  have z6 : w1.cell? ⟨w.heap.size, 6, none⟩ = some (.pointer none) := cell_of_row _ _ 6 _ _ _ A1
  have z7 : w1.cell? ⟨w.heap.size, 7, none⟩ = some (.pointer none) := cell_of_row _ _ 7 _ _ _ A1
  have zf := froz_of A1
  have zf0 := zf 0
  have zf1 := zf 1
  have zf2 := zf 2
  have zf3 := zf 3
  have zf4 := zf 4
  have zf5 := zf 5
  have zf6 := zf 6
  have zf7 := zf 7
  clear zf
  have i0 : IntKind.i64.wrap (m : Int) = (m : Int) := by rw [IntKind.wrap_i64]; omega
  have i4 : (0 : Int) ≤ (m : Int) := by omega
  go_region_law fail
  all_goals
    go_wp2_with fail
    refine bodyPost_ret (v := .agg #[.slice s.ca tn s.cc, .int .i64 xv, .pointer (xp 0), .pointer (xp 1), .pointer (xp 2), .pointer (xp 3), .pointer (xp 4), .pointer (xp 5)]) (by simp [results, Tryz.results23, go_sem, z0, z1, z2, z3, z4, z5, z6, z7]) rfl ⟨rfl, ?_⟩
    exact grown_drewT (grown_cell9 (grown_cell9 (grown_cell9 (grown_cell9 (grown_cell9 (grown_cell9 (grown_cell9 (grown_cell9 G1.out (Nat.le_refl _) _ _) (Nat.le_refl _) _ _) (Nat.le_refl _) _ _) (Nat.le_refl _) _ _) (Nat.le_refl _) _ _) (Nat.le_refl _) _ _) (Nat.le_refl _) _ _) (Nat.le_refl _) _ _)
end Go.Proofs.YtnfpomjcofhppaaGreatDoor
