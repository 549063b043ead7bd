/- Variables for sums that a call makes in an order that Go leaves open: pending ones, filled ones. -/
import Derived.Test.YtiahfdlmjfpglaaDoorAwake3
import Derived.Test.YtiahfdlmjfpglaaDoorReckons
namespace Go.Proofs.YtiahfdlmjfpglaaDoor
open Go.RowKit

abbrev zeroS : Obj := .cells #[.int .i64 0, .int .u64 0] 24
/-- Variables made for sums, not yet filled, the last one first. -/
def Pend (B : Nat) (W : World) : List Nat → Prop
  | [] => True
  | g :: l => B ≤ g ∧ BSum W g 0 0 ∧ (∀ h ∈ l, h < g) ∧ Pend B W l
theorem Pend.lt {B : Nat} {W : World} : ∀ {l : List Nat}, Pend B W l → ∀ g ∈ l, g < W.heap.size
  | _ :: _, h, g, hg => by
    rcases List.mem_cons.1 hg with rfl | hg
    · exact h.2.1.lt
    · exact Pend.lt h.2.2.2 g hg
theorem Pend.keep {B : Nat} {W W' : World} (hb : Below W.heap.size W W') : ∀ {l : List Nat}, Pend B W l → Pend B W' l
  | [], _ => trivial
  | _ :: _, h => ⟨h.1, h.2.1.keep hb, h.2.2.1, Pend.keep hb h.2.2.2⟩
theorem Pend.new {B : Nat} {W : World} {l : List Nat} (h : Pend B W l) (hB : B ≤ W.heap.size) : Pend B (W.alloc zeroS) (W.heap.size :: l) :=
  ⟨hB, heap_alloc_new _ _, fun g hg => h.lt g hg, h.keep ((Below.refl _ _).alloc (Nat.le_refl _) _)⟩
theorem Pend.keep1 {B : Nat} {W W' : World} {l : List Nat} (h : Pend B W l) (hB : B ≤ W.heap.size) (hb : Below (W.alloc zeroS).heap.size (W.alloc zeroS) W') : Pend B W' (W.heap.size :: l) := (h.new hB).keep hb
theorem Pend.keep2 {B : Nat} {W W' : World} {l : List Nat} (h : Pend B W l) (hB : B ≤ W.heap.size) (hb : Below ((W.alloc zeroS).alloc zeroS).heap.size ((W.alloc zeroS).alloc zeroS) W') : Pend B W' ((W.heap.size + 1) :: W.heap.size :: l) := by
  have := (h.new hB).new (by simp; omega)
  simp only [World.size_alloc] at this
  exact this.keep hb
theorem Pend.new2 {B : Nat} {W : World} {l : List Nat} (h : Pend B W l) (hB : B ≤ W.heap.size) : Pend B ((W.alloc zeroS).alloc zeroS) ((W.heap.size + 1) :: W.heap.size :: l) := by
  have := (h.new hB).new (by simp; omega)
  simpa only [World.size_alloc] using this
/-- Two variables filled. -/
def Filled (B : Nat) (w W : World) (p q : Nat) (ah : Int) (al : Nat) (bh : Int) (bl : Nat) : Prop := p ≠ q ∧ Below B w W ∧ BSum W p ah al ∧ BSum W q bh bl ∧ B ≤ p ∧ B ≤ q
theorem fillA {B : Nat} {w W : World} {g h : Nat} (P : Pend B W [g, h]) (hB : Below B w W) (ah : Int) (al : Nat) (bh : Int) (bl : Nat) :
    Filled B w ((((W.setCell ⟨g, 0, none⟩ (.int .i64 ah)).setCell ⟨g, 1, none⟩ (.int .u64 al)).setCell ⟨h, 0, none⟩ (.int .i64 bh)).setCell ⟨h, 1, none⟩ (.int .u64 bl)) g h ah al bh bl := by
  have hn : g ≠ h := by have := P.2.2.1 h (by simp); omega
  have h1 := P.1
  have h2 := P.2.2.2.1
  refine ⟨hn, ((((hB.setCell h1 _).setCell h1 _).setCell h2 _).setCell h2 _), ?_, ?_, h1, h2⟩
  · exact ((P.2.1.set ah al).set_other hn 0 _).set_other hn 1 _
  · exact ((P.2.2.2.2.1.set_other (Ne.symm hn) 0 _).set_other (Ne.symm hn) 1 _).set bh bl
theorem fillB {B : Nat} {w W : World} {g h : Nat} (P : Pend B W [g, h]) (hB : Below B w W) (ah : Int) (al : Nat) (bh : Int) (bl : Nat) :
    Filled B w ((((W.setCell ⟨h, 0, none⟩ (.int .i64 ah)).setCell ⟨h, 1, none⟩ (.int .u64 al)).setCell ⟨g, 0, none⟩ (.int .i64 bh)).setCell ⟨g, 1, none⟩ (.int .u64 bl)) h g ah al bh bl := by
  have hn : h ≠ g := by have := P.2.2.1 h (by simp); omega
  have h1 := P.1
  have h2 := P.2.2.2.1
  refine ⟨hn, ((((hB.setCell h2 _).setCell h2 _).setCell h1 _).setCell h1 _), ?_, ?_, h2, h1⟩
  · exact ((P.2.2.2.2.1.set ah al).set_other hn 0 _).set_other hn 1 _
  · exact ((P.2.1.set_other (Ne.symm hn) 0 _).set_other (Ne.symm hn) 1 _).set bh bl
theorem box4_set {w : World} {g g' : Nat} {v0 v1 v2 v3 : Value} (h : w.cell? ⟨g, 0, none⟩ = some v0 ∧ w.cell? ⟨g, 1, none⟩ = some v1 ∧ w.cell? ⟨g', 0, none⟩ = some v2 ∧ w.cell? ⟨g', 1, none⟩ = some v3) (b i : Nat) (v : Value) (n1 : g ≠ b) (n2 : g' ≠ b) : (w.setCell ⟨b, i, none⟩ v).cell? ⟨g, 0, none⟩ = some v0 ∧ (w.setCell ⟨b, i, none⟩ v).cell? ⟨g, 1, none⟩ = some v1 ∧ (w.setCell ⟨b, i, none⟩ v).cell? ⟨g', 0, none⟩ = some v2 ∧ (w.setCell ⟨b, i, none⟩ v).cell? ⟨g', 1, none⟩ = some v3 := by
  have e := fun g o (n : g ≠ b) => World.cell?_setCells_out b [v] i w ⟨g, o, none⟩ (fun hb => absurd hb n)
  exact ⟨(e g 0 n1).trans h.1, (e g 1 n1).trans h.2.1, (e g' 0 n2).trans h.2.2.1, (e g' 1 n2).trans h.2.2.2⟩

theorem box4_low {w w1 : World} {B g g' : Nat} {v0 v1 v2 v3 : Value} (h : w.cell? ⟨g, 0, none⟩ = some v0 ∧ w.cell? ⟨g, 1, none⟩ = some v1 ∧ w.cell? ⟨g', 0, none⟩ = some v2 ∧ w.cell? ⟨g', 1, none⟩ = some v3) (n : g < B) (n' : g' < B) (hb : Below B w w1) : w1.cell? ⟨g, 0, none⟩ = some v0 ∧ w1.cell? ⟨g, 1, none⟩ = some v1 ∧ w1.cell? ⟨g', 0, none⟩ = some v2 ∧ w1.cell? ⟨g', 1, none⟩ = some v3 :=
  ⟨(hb.cell (p := ⟨g, 0, none⟩) n).trans h.1, (hb.cell (p := ⟨g, 1, none⟩) n).trans h.2.1, (hb.cell (p := ⟨g', 0, none⟩) n').trans h.2.2.1, (hb.cell (p := ⟨g', 1, none⟩) n').trans h.2.2.2⟩
theorem Pend.al {B : Nat} {W : World} {l : List Nat} (h : Pend B W l) : Pend B (W.alloc (.cells #[.int .i64 0, .int .u64 0] 24)) l := h.keep ((Below.refl _ _).alloc (Nat.le_refl _) _)
theorem box4_drew {w : World} {g g' : Nat} {v0 v1 v2 v3 : Value} (h : w.cell? ⟨g, 0, none⟩ = some v0 ∧ w.cell? ⟨g, 1, none⟩ = some v1 ∧ w.cell? ⟨g', 0, none⟩ = some v2 ∧ w.cell? ⟨g', 1, none⟩ = some v3) : w.drew.cell? ⟨g, 0, none⟩ = some v0 ∧ w.drew.cell? ⟨g, 1, none⟩ = some v1 ∧ w.drew.cell? ⟨g', 0, none⟩ = some v2 ∧ w.drew.cell? ⟨g', 1, none⟩ = some v3 := h

theorem BSum.newS (W : World) (h : Int) (l : Nat) : BSum (W.alloc (.cells #[.int .i64 h, .int .u64 l] 24)) W.heap.size h l := heap_alloc_new _ _
theorem BSum.al {W : World} {g : Nat} {h : Int} {l : Nat} (H : BSum W g h l) (o : Obj) : BSum (W.alloc o) g h l := H.keep ((Below.refl _ _).alloc (Nat.le_refl _) _)
theorem fill0a {B0 B : Nat} {w W : World} {g h : Nat} (P : Pend B W [g, h]) (hbb : B0 ≤ B) (hB : Below B0 w W) (ah : Int) (al : Nat) (bh : Int) (bl : Nat) :
    Filled B0 w ((((W.setCell ⟨g, 0, none⟩ (.int .i64 ah)).setCell ⟨g, 1, none⟩ (.int .u64 al)).setCell ⟨h, 0, none⟩ (.int .i64 bh)).setCell ⟨h, 1, none⟩ (.int .u64 bl)) g h ah al bh bl :=
  fillA (B := B0) ⟨Nat.le_trans hbb P.1, P.2.1, P.2.2.1, Nat.le_trans hbb P.2.2.2.1, P.2.2.2.2.1, P.2.2.2.2.2.1, trivial⟩ hB ah al bh bl
theorem fill0b {B0 B : Nat} {w W : World} {g h : Nat} (P : Pend B W [g, h]) (hbb : B0 ≤ B) (hB : Below B0 w W) (ah : Int) (al : Nat) (bh : Int) (bl : Nat) :
    Filled B0 w ((((W.setCell ⟨h, 0, none⟩ (.int .i64 ah)).setCell ⟨h, 1, none⟩ (.int .u64 al)).setCell ⟨g, 0, none⟩ (.int .i64 bh)).setCell ⟨g, 1, none⟩ (.int .u64 bl)) h g ah al bh bl :=
  fillB (B := B0) ⟨Nat.le_trans hbb P.1, P.2.1, P.2.2.1, Nat.le_trans hbb P.2.2.2.1, P.2.2.2.2.1, P.2.2.2.2.2.1, trivial⟩ hB ah al bh bl
theorem newS_at {W W2 : World} (e : W2.heap.size = W.heap.size) (h : Int) (l : Nat) : BSum (W2.alloc (.cells #[.int .i64 h, .int .u64 l] 24)) W.heap.size h l := by rw [← e]; exact BSum.newS _ _ _
theorem fill1 {B0 B : Nat} {w W : World} {g : Nat} (P : Pend B W [g]) (hbb : B0 ≤ B) (hB : Below B0 w W) (ah : Int) (al : Nat) (bh : Int) (bl : Nat) :
    Filled B0 w (((W.setCell ⟨g, 0, none⟩ (.int .i64 ah)).setCell ⟨g, 1, none⟩ (.int .u64 al)).alloc (.cells #[.int .i64 bh, .int .u64 bl] 24)) g W.heap.size ah al bh bl := by
  have h1 : B0 ≤ g := Nat.le_trans hbb P.1
  have h2 := P.2.1.lt
  have h3 := hB.size
  refine ⟨by omega, ((hB.setCell h1 _).setCell h1 _).alloc (by simp; omega) _, (P.2.1.set ah al).al _, newS_at (by simp) _ _, h1, by omega⟩
theorem fill2 {B0 B : Nat} {w W : World} {g : Nat} (P : Pend B W [g]) (hbb : B0 ≤ B) (hB : Below B0 w W) (ah : Int) (al : Nat) (bh : Int) (bl : Nat) :
    Filled B0 w (((W.setCell ⟨g, 0, none⟩ (.int .i64 bh)).setCell ⟨g, 1, none⟩ (.int .u64 bl)).alloc (.cells #[.int .i64 ah, .int .u64 al] 24)) W.heap.size g ah al bh bl := by
  have h1 : B0 ≤ g := Nat.le_trans hbb P.1
  have h2 := P.2.1.lt
  refine ⟨by omega, ((hB.setCell h1 _).setCell h1 _).alloc (by simp; omega) _, newS_at (by simp) _ _, (P.2.1.set bh bl).al _, by omega, h1⟩
theorem fill3 {B0 : Nat} {w W : World} (h0 : B0 ≤ W.heap.size) (hB : Below B0 w W) (ah : Int) (al : Nat) (bh : Int) (bl : Nat) :
    Filled B0 w ((W.alloc (.cells #[.int .i64 ah, .int .u64 al] 24)).alloc (.cells #[.int .i64 bh, .int .u64 bl] 24)) W.heap.size (W.heap.size + 1) ah al bh bl := by
  have e := BSum.newS (W.alloc (.cells #[.int .i64 ah, .int .u64 al] 24)) bh bl
  rw [World.size_alloc] at e
  exact ⟨by omega, (hB.alloc h0 _).alloc (by simp; omega) _, (BSum.newS _ _ _).al _, e, h0, by omega⟩
theorem fill4 {B0 : Nat} {w W : World} (h0 : B0 ≤ W.heap.size) (hB : Below B0 w W) (ah : Int) (al : Nat) (bh : Int) (bl : Nat) :
    Filled B0 w ((W.alloc (.cells #[.int .i64 bh, .int .u64 bl] 24)).alloc (.cells #[.int .i64 ah, .int .u64 al] 24)) (W.heap.size + 1) W.heap.size ah al bh bl := by
  have e := BSum.newS (W.alloc (.cells #[.int .i64 bh, .int .u64 bl] 24)) ah al
  rw [World.size_alloc] at e
  exact ⟨by omega, (hB.alloc h0 _).alloc (by simp; omega) _, e, (BSum.newS _ _ _).al _, by omega, h0⟩
/-- Four sums in memory. -/
def Sums4 (W : World) (b5 b6 b7 b8 : Nat) (ah : Int) (al : Nat) (bh : Int) (bl : Nat) (dh : Int) (dl : Nat) (eh : Int) (el : Nat) : Prop := BSum W b5 ah al ∧ BSum W b6 bh bl ∧ BSum W b7 dh dl ∧ BSum W b8 eh el
theorem Sums4.keep {W W' : World} {b5 b6 b7 b8 : Nat} {ah : Int} {al : Nat} {bh : Int} {bl : Nat} {dh : Int} {dl : Nat} {eh : Int} {el : Nat} (h : Sums4 W b5 b6 b7 b8 ah al bh bl dh dl eh el) (hb : Below W.heap.size W W') : Sums4 W' b5 b6 b7 b8 ah al bh bl dh dl eh el :=
  ⟨h.1.keep hb, h.2.1.keep hb, h.2.2.1.keep hb, h.2.2.2.keep hb⟩
theorem box4_low' {w w1 : World} {B g g' : Nat} {v0 v1 v2 v3 : Value} (hb : Below B w w1) (h : w.cell? ⟨g, 0, none⟩ = some v0 ∧ w.cell? ⟨g, 1, none⟩ = some v1 ∧ w.cell? ⟨g', 0, none⟩ = some v2 ∧ w.cell? ⟨g', 1, none⟩ = some v3) (n : g < B) (n' : g' < B) : w1.cell? ⟨g, 0, none⟩ = some v0 ∧ w1.cell? ⟨g, 1, none⟩ = some v1 ∧ w1.cell? ⟨g', 0, none⟩ = some v2 ∧ w1.cell? ⟨g', 1, none⟩ = some v3 := box4_low h n n' hb
end Go.Proofs.YtiahfdlmjfpglaaDoor
