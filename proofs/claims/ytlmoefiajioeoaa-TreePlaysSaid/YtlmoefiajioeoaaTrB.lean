/- Trees in memory. -/
import Derived.Test.YtlmoefiajioeoaaRowC7
import Derived.Test.YtlmoefiajioeoaaTr
import Derived.Deep.AppendLies
import Derived.Maps.AppendAt
namespace Go.Proofs.Ytlmoefiajioeoaa
open Go.RowKit

abbrev Tre := Tr (List Vl) (List Vl)
theorem grown_reflT (w : World) (row : Option Nat) : w.grownBy w row := ⟨rfl, rfl, rfl, Nat.le_refl _, fun _ _ _ => rfl⟩
theorem grown_drewT {w w' : World} {row : Option Nat} (h : w.grownBy w' row) : w.grownBy w'.drew row := ⟨h.os, h.tape, h.output, h.size, h.block⟩
theorem grown_drewNT {w w' : World} {row : Option Nat} (h : w.grownBy w' row) (n : Nat) : w.grownBy (w'.drewN n) row := ⟨h.os, h.tape, h.output, h.size, h.block⟩
theorem grown_belowT {w w' : World} (h : Below w.heap.size w w') (row : Option Nat) : w.grownBy w' row := ⟨h.os, h.tape, h.output, h.size, fun i hi _ => h.block i hi⟩
theorem below_grownT {w w' : World} (h : w.grownBy w' none) : Below w.heap.size w w' := ⟨h.os, h.tape, h.output, h.size, fun k hk => h.block k hk (by simp)⟩
/-- A row that lies in blocks of S. -/
def RwS (S : Nat → Prop) (w : World) (a : Option Addr) (l : List Vl) : Prop :=
  l.length ≤ 4294967296 ∧ (∀ x ∈ l, x.s.size ≤ maxLen) ∧ (l = [] ∨ ∃ b off, a = some ⟨b, off, none⟩ ∧ S b ∧ b < w.heap.size ∧ ∀ i, i < l.length → w.cell? ⟨b, off + i * 3, none⟩ = some (.int .i64 (l.getD i default).k) ∧ w.cell? ⟨b, off + i * 3 + 1, none⟩ = some (.int .i64 (l.getD i default).n) ∧ w.cell? ⟨b, off + i * 3 + 2, none⟩ = some (.string (l.getD i default).s))
theorem RwS.row {S : Nat → Prop} {w : World} {a : Option Addr} {l : List Vl} (h : RwS S w a l) : RowAt w a l :=
  ⟨by have := h.1; omega, h.2.1, h.2.2.imp id fun ⟨b, off, e, _, hlt, hc⟩ => ⟨b, off, e, hlt, hc⟩⟩
/-- What lies in S stays. -/
def Stays (S : Nat → Prop) (w w' : World) : Prop := w.heap.size ≤ w'.heap.size ∧ ∀ b, S b → b < w.heap.size → w'.heap[b]? = w.heap[b]?
theorem Stays.of {S : Nat → Prop} {w w' : World} (h : w.grownBy w' none) : Stays S w w' := ⟨h.size, fun b _ hb => h.block b hb (by simp)⟩
theorem RwS.keep {S : Nat → Prop} {w w' : World} {a : Option Addr} {l : List Vl} (h : RwS S w a l) (hk : Stays S w w') : RwS S w' a l := by
  refine ⟨h.1, h.2.1, h.2.2.imp id fun ⟨b, off, e, hs, hlt, hc⟩ => ⟨b, off, e, hs, Nat.lt_of_lt_of_le hlt hk.1, fun i hi => ?_⟩⟩
  have hb := hk.2 b hs hlt
  exact ⟨(World.cell?_of_block (a := ⟨b, _, none⟩) hb).trans (hc i hi).1, (World.cell?_of_block (a := ⟨b, _, none⟩) hb).trans (hc i hi).2.1, (World.cell?_of_block (a := ⟨b, _, none⟩) hb).trans (hc i hi).2.2⟩
theorem RwS.mono {S S' : Nat → Prop} {w : World} {a : Option Addr} {l : List Vl} (h : RwS S w a l) (hs : ∀ b, b < w.heap.size → S b → S' b) : RwS S' w a l :=
  ⟨h.1, h.2.1, h.2.2.imp id fun ⟨b, off, e, h1, h2, hc⟩ => ⟨b, off, e, hs b h2 h1, h2, hc⟩⟩
/-- A tree that lies in blocks of S. -/
def TrAt (S : Nat → Prop) (w : World) : Tre → Option Addr → Prop
  | .nil, p => p = none
  | .node l k v r, p => ∃ b ka kc va vc lp rp, p = some ⟨b, 0, none⟩ ∧ S b ∧ b < w.heap.size
      ∧ (w.cell? ⟨b, 0, none⟩ = some (.slice ka k.length kc) ∧ w.cell? ⟨b, 1, none⟩ = some (.slice va v.length vc) ∧ w.cell? ⟨b, 2, none⟩ = some (.pointer lp) ∧ w.cell? ⟨b, 3, none⟩ = some (.pointer rp) ∧ w.cell? ⟨b, 4, none⟩ = some (.int .i64 (Tr.h (.node l k v r) : Nat)) ∧ w.cell? ⟨b, 5, none⟩ = some (.int .i64 (Tr.n (.node l k v r) : Nat)))
      ∧ RwS S w ka k ∧ RwS S w va v ∧ TrAt S w l lp ∧ TrAt S w r rp
theorem TrAt.keep {S : Nat → Prop} {w w' : World} (hk : Stays S w w') : ∀ {t : Tre} {p : Option Addr}, TrAt S w t p → TrAt S w' t p
  | .nil, _, h => h
  | .node _ _ _ _, _, ⟨b, ka, kc, va, vc, lp, rp, e, hs, hb, ⟨c0, c1, c2, c3, c4, c5⟩, h1, h2, h3, h4⟩ => by
    have hbb := hk.2 b hs hb
    have g : ∀ {o : Nat} {x : Value}, w.cell? ⟨b, o, none⟩ = some x → w'.cell? ⟨b, o, none⟩ = some x := fun {o x} h => (World.cell?_of_block (a := ⟨b, o, none⟩) hbb).trans h
    exact ⟨b, ka, kc, va, vc, lp, rp, e, hs, Nat.lt_of_lt_of_le hb hk.1, ⟨g c0, g c1, g c2, g c3, g c4, g c5⟩, h1.keep hk, h2.keep hk, TrAt.keep hk h3, TrAt.keep hk h4⟩
theorem TrAt.mono {S S' : Nat → Prop} {w : World} (hs : ∀ b, b < w.heap.size → S b → S' b) : ∀ {t : Tre} {p : Option Addr}, TrAt S w t p → TrAt S' w t p
  | .nil, _, h => h
  | .node _ _ _ _, _, ⟨b, ka, kc, va, vc, lp, rp, e, hb1, hb, hc, h1, h2, h3, h4⟩ =>
    ⟨b, ka, kc, va, vc, lp, rp, e, hs b hb hb1, hb, hc, h1.mono hs, h2.mono hs, TrAt.mono hs h3, TrAt.mono hs h4⟩
set_option maxHeartbeats 1600000 in
theorem len_any (S : Nat → Prop) (t : Tre) (p : Option Addr) (w : World) (h : TrAt S w t p) :
    Calls Try.prog 38 #[.pointer p] w fun e w' => e = .returned (.int .i64 (t.n : Nat)) ∧ w = w' := by
  cases t with
  | nil =>
    obtain rfl : p = none := h
    go_enter Try.func38, Try.ntmps38
    go_wp2_with fail
    go_ret
    exact ⟨rfl, rfl⟩
  | node l k v r =>
    obtain ⟨b, ka, kc, va, vc, lp, rp, rfl, _, _, ⟨c0, c1, c2, c3, c4, c5⟩, _⟩ := h
    generalize Tr.n (.node l k v r) = n at *
    go_enter Try.func38, Try.ntmps38
    go_wp2_with fail
    go_ret
    exact ⟨rfl, rfl⟩
set_option maxHeartbeats 1600000 in
theorem height_any (S : Nat → Prop) (t : Tre) (p : Option Addr) (w : World) (h : TrAt S w t p) :
    Calls Try.prog 30 #[.pointer p] w fun e w' => e = .returned (.int .i64 (t.h : Nat)) ∧ w = w' := by
  cases t with
  | nil =>
    obtain rfl : p = none := h
    go_enter Try.func30, Try.ntmps30
    go_wp2_with fail
    go_ret
    exact ⟨rfl, rfl⟩
  | node l k v r =>
    obtain ⟨b, ka, kc, va, vc, lp, rp, rfl, _, _, ⟨c0, c1, c2, c3, c4, c5⟩, _⟩ := h
    generalize Tr.h (.node l k v r) = n at *
    go_enter Try.func30, Try.ntmps30
    go_wp2_with fail
    go_ret
    exact ⟨rfl, rfl⟩
end Go.Proofs.Ytlmoefiajioeoaa
