/- tree's walk: how it begins, and its next. -/
import Derived.Test.YtlmoefiajioeoaaTrD
import Derived.Laws.EntriesVeiled
namespace Go.Proofs.Ytlmoefiajioeoaa
open Go.RowKit

abbrev walkF (pp dp : Nat) : Value := .func (.func 53) #[] #[.pointer (some ⟨pp, 0, none⟩), .pointer (some ⟨dp, 0, none⟩)]
theorem RwS.of {w : World} {a : Option Addr} {l : List Vl} (h : RowAt w a l) (hl : l.length ≤ 4294967296) : RwS (fun b => b < w.heap.size) w a l :=
  ⟨hl, h.2.1, h.2.2.imp id fun ⟨b, off, e, hlt, hc⟩ => ⟨b, off, e, hlt, hlt, hc⟩⟩
theorem only_grown {M : Nat → Prop} {w w1 w2 : World} (hg : w.grownBy w1 none) (ho : Only M w1 w2) (hM : ∀ b, M b → w.heap.size ≤ b) : w.grownBy w2 none :=
  ⟨ho.os.trans hg.os, ho.tape.trans hg.tape, ho.output.trans hg.output, Nat.le_trans hg.size ho.size, fun b hb _ => (ho.block b (Nat.lt_of_lt_of_le hb hg.size) (fun e => by have := hM b e; omega)).trans (hg.block b hb (by simp))⟩
theorem start_walk (w : World) (ka : Ptr) (kc : Nat) (key : List Vl) (hk : RowAt w ka key) (hkl : key.length ≤ 4294967296) :
    Wlk (fun b => b < w.heap.size) w.heap.size (((w.alloc (.cells #[.slice ka key.length kc] 24)).alloc (.cells #[.slice none 0 0] 43)).alloc (.cells #[.func (.func 52) #[] #[.pointer (some ⟨w.heap.size, 0, none⟩), .pointer (some ⟨w.heap.size + 1, 0, none⟩)]] 102)) w.heap.size (w.heap.size + 1) (w.heap.size + 1 + 1) ka kc key (.slice none 0 0) [] := by
  have e1 : (w.alloc (.cells #[.slice ka key.length kc] 24)).heap.size = w.heap.size + 1 := by simp
  have b1 := heap_alloc_new w (.cells #[.slice ka key.length kc] 24)
  have g1 := World.grownBy_alloc w (.cells #[.slice ka key.length kc] 24) none
  generalize w.alloc (.cells #[.slice ka key.length kc] 24) = w1 at *
  have e2 : (w1.alloc (.cells #[.slice none 0 0] 43)).heap.size = w.heap.size + 1 + 1 := by simp [e1]
  have b2 := heap_alloc_new w1 (.cells #[.slice none 0 0] 43)
  have g2 := World.grownBy_alloc w1 (.cells #[.slice none 0 0] 43) none
  rw [e1] at b2
  generalize w1.alloc (.cells #[.slice none 0 0] 43) = w2 at *
  have b3 := heap_alloc_new w2 (.cells #[.func (.func 52) #[] #[.pointer (some ⟨w.heap.size, 0, none⟩), .pointer (some ⟨w.heap.size + 1, 0, none⟩)]] 102)
  have g3 := World.grownBy_alloc w2 (.cells #[.func (.func 52) #[] #[.pointer (some ⟨w.heap.size, 0, none⟩), .pointer (some ⟨w.heap.size + 1, 0, none⟩)]] 102) none
  rw [e2] at b3
  have gg := (g1.trans g2).trans g3
  refine ⟨(g3.block _ (by omega) (by simp)).trans b2, World.ownsRow_nil _ _ _ _, by omega, (g2.trans g3).cell (cell_of_row _ _ 0 _ _ _ b1) (by simp), (RwS.of hk hkl).keep (.of gg), cell_of_row _ _ 0 _ _ _ b3, by omega, by omega, by simp [Value.ownBlock], by simp [Value.ownBlock], by simp [Value.ownBlock], by simp, fun b hb => hb, gg.size⟩
set_option maxRecDepth 100000 in
set_option maxHeartbeats 6400000 in
theorem walk_any (hc : Tr.IsOrd rowsOrd) (S : Nat → Prop) (t : Tre) (p : Ptr) (ka : Ptr) (kc : Nat) (key : List Vl) (w : World) (ht : TrAt S w t p) (hs : Tr.Sorted rowsOrd t.toL) (hn : t.n ≤ 500000000) (hk : RowAt w ka key) (hkl : key.length ≤ 4294967296) :
    Calls Try.prog 41 #[.pointer p, .slice ka key.length kc] w fun e w' => (∃ v xs, e = .returned (walkF (w.heap.size + 1) (w.heap.size + 1 + 1)) ∧ Wlk (fun b => b < w.heap.size) w.heap.size w' w.heap.size (w.heap.size + 1) (w.heap.size + 1 + 1) ka kc key v xs ∧ remS key xs = fromL key t.toL ∧ xs.length ≤ t.n) ∧ w.grownBy w' none := by
  have g3 := ((World.grownBy_alloc w (.cells #[.slice ka key.length kc] 24) none).trans (World.grownBy_alloc _ (.cells #[.slice none 0 0] 43) none)).trans (World.grownBy_alloc _ (.cells #[.func (.func 52) #[] #[.pointer (some ⟨w.heap.size, 0, none⟩), .pointer (some ⟨w.heap.size + 1, 0, none⟩)]] 102) none)
  have W0 := start_walk w ka kc key hk hkl
  have HD := Lib.hid (down_any hc (fun b => b < w.heap.size) w.heap.size w.heap.size (w.heap.size + 1) (w.heap.size + 1 + 1) ka kc key (.slice none 0 0) [] t p _ W0 ((ht.mono (S' := fun b => b < w.heap.size) (fun b hb _ => hb)).keep (.of g3)) hs ⟨by have := hn; simp; omega, hn⟩)
  have G3 := Lib.hid g3
  clear W0 g3 hk ht hs hc
  generalize key.length = m at *
  go_enter Try.func41, Try.ntmps41
  go_wp2_with fail
  refine HD.out.mono ?_
  rintro e w4 ⟨rfl, ⟨v, xs, hw, hg, hr, hl⟩, ho⟩
  have D := Lib.hid (And.intro hw (And.intro hr hl))
  have G4 := Lib.hid (only_grown G3.out ho (fun b hb => by
    rcases hb with rfl | hb
    · omega
    · simp [Value.ownBlock] at hb))
  clear hw hg hr hl ho
  go_wp2_with fail
  go_ret
  exact ⟨⟨v, xs, rfl, D.out.1, by have := D.out.2.1; simpa [remS] using this, by have := D.out.2.2; simpa using this⟩, G4.out⟩
end Go.Proofs.Ytlmoefiajioeoaa
