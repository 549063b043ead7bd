/- What TreePlays writes into rows of its own: blocks that are overwritten. -/
import Derived.Test.YtlmoefiajioeoaaTkQ
import Derived.Deep.MidRow
namespace Go.Proofs.Ytlmoefiajioeoaa
open Go.RowKit

theorem grown_setCells (b : Nat) : ∀ (vs : List Value) (o : Nat) (w : World), w.grownBy (w.setCells b o vs) (some b)
  | [], _, w => grown_reflT w _
  | v :: vs, o, w => by
    have h1 : w.grownBy (w.setCell ⟨b, o, none⟩ v) (some b) := ⟨rfl, rfl, rfl, by simp [World.setCell], fun k _ hk => Below.heap_setCell _ _ _ _ (fun e => hk (by simp [e]))⟩
    have h2 := grown_setCells b vs (o + 1) (w.setCell ⟨b, o, none⟩ v)
    exact ⟨h2.os.trans h1.os, h2.tape.trans h1.tape, h2.output.trans h1.output, Nat.le_trans h1.size h2.size, fun k hk hne => (h2.block k (Nat.lt_of_lt_of_le hk h1.size) hne).trans (h1.block k hk hne)⟩
theorem grown_same {a b c : World} {row : Option Nat} (h1 : a.grownBy b row) (h2 : b.grownBy c row) : a.grownBy c row :=
  ⟨h2.os.trans h1.os, h2.tape.trans h1.tape, h2.output.trans h1.output, Nat.le_trans h1.size h2.size, fun k hk hne => (h2.block k (Nat.lt_of_lt_of_le hk h1.size) hne).trans (h1.block k hk hne)⟩
/-- A row of one's own, n values long, that is overwritten. -/
def Wreck (a : Ptr) (n : Nat) (w wr : World) : Prop := w.grownBy wr (blk a) ∧ (n = 0 ∨ ∃ g, a = some ⟨g, 0, none⟩ ∧ wr.there g 0 (n * 3))
theorem own_shape {w : World} {B n : Nat} {v : Value} {xs : List Value} (h : w.ownsRow B 36 3 v n xs) : ∃ a cap, v = .slice a n cap ∧ n ≤ cap := by
  rcases h.2 with ⟨hv, h0⟩ | ⟨g, cap, cur, hv, _, _, hc, _⟩
  · exact ⟨none, 0, by rw [hv, h0], by omega⟩
  · exact ⟨_, cap, hv, hc⟩
theorem Wreck.start {w : World} {B n cap : Nat} {a : Ptr} {xs : List Value} (h : w.ownsRow B 36 3 (.slice a n cap) n xs) : Wreck a n w w := by
  refine ⟨grown_reflT w _, ?_⟩
  rcases h.2 with ⟨_, h0⟩ | ⟨g, cc, cur, e, _, hg, hc, _, hs, _⟩
  · exact .inl h0
  · cases e
    refine .inr ⟨g, rfl, fun j hj => ⟨?_, ?_⟩⟩
    · rw [Nat.zero_add, cell_of_row w g j _ _ _ hg]
      have : j < cur.size := by omega
      simp [this]
    · simp [World.frozen?, hg]
theorem Wreck.at {a : Ptr} {n j : Nat} {w wr : World} (h : Wreck a n w wr) (hj : j < n) : ∃ g, a = some ⟨g, 0, none⟩ ∧ wr.there g (j * 3) 3 := by
  rcases h.2 with h0 | ⟨g, e, ht⟩
  · omega
  · exact ⟨g, e, fun i hi => by have := ht (j * 3 + i) (by omega); rwa [Nat.zero_add] at this⟩
theorem Wreck.step {g n : Nat} {w wr : World} (h : Wreck (some ⟨g, 0, none⟩) n w wr) (o : Nat) (vs : List Value) : Wreck (some ⟨g, 0, none⟩) n w (wr.setCells g o vs) :=
  ⟨grown_same h.1 (grown_setCells g vs o wr), h.2.imp id fun ⟨g', e, ht⟩ => ⟨g', e, World.there_setCells ht g o vs⟩⟩
theorem own_lt {w : World} {B n cap : Nat} {a : Ptr} {xs : List Value} (h : w.ownsRow B 36 3 (.slice a n cap) n xs) (b : Nat) (hb : blk a = some b) : B ≤ b ∧ b < w.heap.size := World.ownsRow.lt h b (by rw [own_blk]; exact hb)
theorem wreck_end {W wx w4 w5 w6 : World} {a1 a2 : Ptr} {n1 n2 c1 c2 : Nat} {xs1 xs2 : List Value} (h0 : W.grownBy wx none) (o1 : wx.ownsRow W.heap.size 36 3 (.slice a1 n1 c1) n1 xs1) (o2 : wx.ownsRow W.heap.size 36 3 (.slice a2 n2 c2) n2 xs2)
    (h4 : wx.grownBy w4 none) (h5 : w4.grownBy w5 (blk a1)) (h6 : w5.grownBy w6 (blk a2)) : W.grownBy w6 none ∧ Stays (fun b => b < W.heap.size ∨ wx.heap.size ≤ b) w4 w6 := by
  refine ⟨grown_thenT (grown_thenT (h0.trans h4) h5 (fun j e => (own_lt o1 j e).1)) h6 (fun j e => (own_lt o2 j e).1), Nat.le_trans h5.size h6.size, fun b hb hlt => ?_⟩
  rw [h6.block b (Nat.lt_of_lt_of_le hlt h5.size) (fun e => by have := own_lt o2 b e.symm; omega), h5.block b hlt (fun e => by have := own_lt o1 b e.symm; omega)]
theorem wreck_keep {wx w4 wv : World} {B n1 n2 c1 c2 : Nat} {a1 a2 : Ptr} {xs2 : List Value} (o2 : wx.ownsRow B 36 3 (.slice a2 n2 c2) n2 xs2) (hd : ∀ g, (Value.slice a1 n1 c1).ownBlock = some g → (Value.slice a2 n2 c2).ownBlock ≠ some g) (h4 : wx.grownBy w4 none) (h5 : w4.grownBy wv (blk a1)) : wv.ownsRow B 36 3 (.slice a2 n2 c2) n2 xs2 := by
  refine World.ownsRow.kept (World.ownsRow.kept o2 h4 (by cases (Value.slice a2 n2 c2).ownBlock <;> simp)) h5 ?_
  rw [own_blk]
  cases hb : blk a2 with
  | none => exact .inl rfl
  | some b => exact .inr fun e => hd b (by rw [own_blk]; exact e.symm) (by rw [own_blk]; exact hb)
theorem val_size3 : (Try.prog.info? 36).map (·.size) = some 3 := by kernel_rfl
abbrev nine : Array Value := #[.int .i64 9, .int .i64 0, .string ⟨#[]⟩]
theorem nine_one : nine.all (·.oneCell') = true := by simp [nine, Value.oneCell']
end Go.Proofs.Ytlmoefiajioeoaa
