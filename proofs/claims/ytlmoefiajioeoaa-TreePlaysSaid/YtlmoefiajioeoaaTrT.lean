/- tree's top. -/
import Derived.Test.YtlmoefiajioeoaaTrC
import Derived.Deep.RegionWith
import Derived.Deep.RegionHeld3
import Derived.BigQuiet
import Derived.StillTailTactics
namespace Go.Proofs.Ytlmoefiajioeoaa
open Go.RowKit

theorem region_tailT {P : Program} {id : Nat} {Q : Exit → Act → World → Prop} {a : Act} {w : World} {l : List Oper} (n : Nat) (hm : P.follows .mixedOrders = true) (hB : Region.lexTailB .any l.toArray n = true)
    (h : wpStill P l.toArray w.drew (fun a' => wpList P l.toArray Q (l.drop n) a' w.drew) (l.take n) a) : (Code.region id l.toArray true).wp P Q a w := wp_region_still_tail n hm hB h
set_option maxRecDepth 100000 in
set_option maxHeartbeats 6400000 in
theorem top_gen (hl hr nl nr m q : Nat) (lp rp ka va : Option Addr) (kc vc : Nat) (w : World) (b1 : hl ≤ 4611686018427387904) (b2 : hr ≤ 4611686018427387904) (b3 : nl ≤ 2305843009213693952) (b4 : nr ≤ 2305843009213693952)
    (H1 : Hid (∀ W, w.grownBy W none → Calls Try.prog 30 #[.pointer lp] W fun e w' => e = .returned (.int .i64 hl) ∧ W = w'))
    (H2 : Hid (∀ W, w.grownBy W none → Calls Try.prog 30 #[.pointer rp] W fun e w' => e = .returned (.int .i64 hr) ∧ W = w'))
    (H3 : Hid (∀ W, w.grownBy W none → Calls Try.prog 38 #[.pointer lp] W fun e w' => e = .returned (.int .i64 nl) ∧ W = w'))
    (H4 : Hid (∀ W, w.grownBy W none → Calls Try.prog 38 #[.pointer rp] W fun e w' => e = .returned (.int .i64 nr) ∧ W = w')) :
    Calls Try.prog 58 #[.pointer lp, .agg #[.slice ka m kc, .slice va q vc], .pointer rp] w fun e w' => e = .returned (.pointer (some ⟨w.heap.size + 1, 0, none⟩)) ∧ w.grownBy w' none ∧ w'.heap[w.heap.size + 1]? = some (.cells #[.slice ka m kc, .slice va q vc, .pointer lp, .pointer rp, .int .i64 (max (hl : Int) hr + 1), .int .i64 ((nl : Int) + 1 + nr)] 88) := by
  have K0 := Lib.hid (World.grownBy_alloc w (.cells #[.slice ka m kc, .slice va q vc] 86) none)
  go_enter Try.func58, Try.ntmps58
  go_wp2_with fail
  refine region_tailT 16 (by kernel_rfl) (by kernel_rfl) ?_
  simp only [List.take_succ_cons, List.take_zero, List.drop_succ_cons, List.drop_zero]
  repeat still_step
  still_call ((H1.out _ (grown_drewT K0.out)).mono fun e w'' h => ⟨h.1, h.2.symm⟩)
  repeat still_step
  still_call ((H2.out _ (grown_drewT K0.out)).mono fun e w'' h => ⟨h.1, h.2.symm⟩)
  repeat still_step
  still_call ((H3.out _ (grown_drewT K0.out)).mono fun e w'' h => ⟨h.1, h.2.symm⟩)
  repeat still_step
  still_call ((H4.out _ (grown_drewT K0.out)).mono fun e w'' h => ⟨h.1, h.2.symm⟩)
  repeat still_step
  refine wpStill_nil ?_
  go_wp2_with fail
  go_ret
  have e1 : IntKind.i64.wrap (max (hl : Int) hr + 1) = max (hl : Int) hr + 1 := by rw [IntKind.wrap_i64]; omega
  have e2 : IntKind.i64.wrap ((nl : Int) + 1) = (nl : Int) + 1 := by rw [IntKind.wrap_i64]; omega
  have e3 : IntKind.i64.wrap ((nl : Int) + 1 + nr) = (nl : Int) + 1 + nr := by rw [IntKind.wrap_i64]; omega
  simp only [e1, e2, e3]
  refine ⟨rfl, grown_drewT (K0.out.trans (World.grownBy_alloc _ _ none)), ?_⟩
  have e := heap_alloc_new (w.alloc (.cells #[.slice ka m kc, .slice va q vc] 86)) (.cells #[.slice ka m kc, .slice va q vc, .pointer lp, .pointer rp, .int .i64 (max (hl : Int) hr + 1), .int .i64 ((nl : Int) + 1 + nr)] 88)
  rw [World.size_alloc] at e
  exact e
/-- A node that is made. -/
theorem top_any (S : Nat → Prop) (l r : Tre) (k v : List Vl) (lp rp ka va : Option Addr) (kc vc : Nat) (w : World) (hS : ∀ b, w.heap.size ≤ b → S b) (hl : TrAt S w l lp) (hr : TrAt S w r rp) (hk : RwS S w ka k) (hv : RwS S w va v) (hn : l.n + r.n ≤ 1073741824) :
    Calls Try.prog 58 #[.pointer lp, .agg #[.slice ka k.length kc, .slice va v.length vc], .pointer rp] w fun e w' => (∃ q, e = .returned (.pointer q) ∧ TrAt S w' (.node l k v r) q) ∧ w.grownBy w' none := by
  have a1 := Tr.h_le l
  have a2 := Tr.h_le r
  refine (top_gen l.h r.h l.n r.n k.length v.length lp rp ka va kc vc w (by omega) (by omega) (by omega) (by omega) (Lib.hid fun W hW => height_any S l lp W (hl.keep (.of hW))) (Lib.hid fun W hW => height_any S r rp W (hr.keep (.of hW))) (Lib.hid fun W hW => len_any S l lp W (hl.keep (.of hW))) (Lib.hid fun W hW => len_any S r rp W (hr.keep (.of hW)))).mono ?_
  rintro e w' ⟨rfl, hg, hb⟩
  refine ⟨⟨_, rfl, w.heap.size + 1, ka, kc, va, vc, lp, rp, rfl, hS _ (by omega), (Array.getElem?_eq_some_iff.1 hb).1, ⟨cell_of_row _ _ 0 _ _ _ hb, cell_of_row _ _ 1 _ _ _ hb, cell_of_row _ _ 2 _ _ _ hb, cell_of_row _ _ 3 _ _ _ hb, ?_, ?_⟩, hk.keep (.of hg), hv.keep (.of hg), hl.keep (.of hg), hr.keep (.of hg)⟩, hg⟩
  · rw [cell_of_row _ _ 4 _ _ _ hb]
    show some (Value.int .i64 (max (l.h : Int) r.h + 1)) = _
    congr 2
    simp only [Tr.h]
    omega
  · rw [cell_of_row _ _ 5 _ _ _ hb]
    show some (Value.int .i64 ((l.n : Int) + 1 + r.n)) = _
    congr 2
end Go.Proofs.Ytlmoefiajioeoaa
