/- What TreePlays writes into the rows that From gave. -/
import Derived.Test.YtlmoefiajioeoaaTkW
import Derived.Deep.Upon
namespace Go.Proofs.Ytlmoefiajioeoaa
open Go.RowKit

/-- Blocks below B and one more stay; what is there stays there. -/
structure Marred (B : Nat) (g : Option Nat) (w wv : World) : Prop where
  os : wv.os = w.os
  tape : wv.tape = w.tape
  output : wv.output = w.output
  size : w.heap.size ≤ wv.heap.size
  block : ∀ b, b < w.heap.size → (b < B ∨ g = some b) → wv.heap[b]? = w.heap[b]?
  still : ∀ b o n, w.there b o n → wv.there b o n
theorem Marred.refl (B : Nat) (g : Option Nat) (w : World) : Marred B g w w := ⟨rfl, rfl, rfl, Nat.le_refl _, fun _ _ _ => rfl, fun _ _ _ h => h⟩
theorem Marred.step {B : Nat} {g : Option Nat} {w wv : World} (h : Marred B g w wv) {b : Nat} (hB : B ≤ b) (hg : g ≠ some b) (o : Nat) (vs : List Value) : Marred B g w (wv.setCells b o vs) := by
  have hs := grown_setCells b vs o wv
  exact ⟨hs.os.trans h.os, hs.tape.trans h.tape, hs.output.trans h.output, Nat.le_trans h.size hs.size, fun k hk hor => (hs.block k (Nat.lt_of_lt_of_le hk h.size) (fun e => by
    have := Option.some.inj e
    subst this
    rcases hor with h1 | h1
    · omega
    · exact hg h1)).trans (h.block k hk hor), fun b' o' n ht => World.there_setCells (h.still b' o' n ht) b o vs⟩
theorem Marred.grown {g : Option Nat} {w0 w wv : World} (h : Marred w0.heap.size g w wv) (h0 : w0.grownBy w none) : w0.grownBy wv none :=
  ⟨h.os.trans h0.os, h.tape.trans h0.tape, h.output.trans h0.output, Nat.le_trans h0.size h.size, fun k hk _ => (h.block k (Nat.lt_of_lt_of_le hk h0.size) (.inl hk)).trans (h0.block k hk (by simp))⟩
theorem Marred.cell {B b o : Nat} {w wv : World} {v : Value} (h : Marred B (some b) w wv) (hc : w.cell? ⟨b, o, none⟩ = some v) : wv.cell? ⟨b, o, none⟩ = some v :=
  (World.cell?_of_block (a := ⟨b, o, none⟩) (h.block b (World.block_lt_of_cell? w _ hc) (.inr rfl))).trans hc
theorem done_ne {key : List Vl} {t : Tre} {m : List Pw} {N : Nat} {done : List Rw} (he : t.toL = m.map Pw.p) (hne : ∀ x ∈ m, x.r.l.length ≠ 0) (h : done.map Rw.l = ((fromL key t.toL).map Prod.snd).take N) : ∀ x ∈ done, x.l.length ≠ 0 := by
  intro x hx
  have h1 : x.l ∈ done.map Rw.l := List.mem_map_of_mem hx
  rw [h] at h1
  have h2 := List.mem_of_mem_take h1
  rw [List.mem_map] at h2
  obtain ⟨y, hy, e⟩ := h2
  have hy2 : y ∈ t.toL := (List.mem_filter.1 hy).1
  rw [he, List.mem_map] at hy2
  obtain ⟨z, hz, rfl⟩ := hy2
  rw [← e]
  exact hne z hz
theorem rw_there {S : Nat → Prop} {W : World} {x : Rw} (h : RwF S W x) (hne : x.l.length ≠ 0) : ∃ b off, x.a = some ⟨b, off, none⟩ ∧ S b ∧ W.there b off 3 := by
  rcases h.2 with h0 | ⟨b, off, cs, T, e, hs, hlt, hc⟩
  · rw [h0] at hne; simp at hne
  rcases h.1.2.2 with h0 | ⟨b', off', e', _, _, hcell⟩
  · rw [h0] at hne; simp at hne
  rw [e] at e'
  cases e'
  obtain ⟨c0, c1, c2⟩ := hcell 0 (by omega)
  simp only [Nat.zero_mul, Nat.add_zero] at c0 c1 c2
  refine ⟨b, off, e, hs, fun j hj => ⟨?_, by simp [World.frozen?, hc]⟩⟩
  match j, hj with
  | 0, _ => rw [Nat.add_zero, c0]; rfl
  | 1, _ => rw [c1]; rfl
  | 2, _ => rw [c2]; rfl
end Go.Proofs.Ytlmoefiajioeoaa
