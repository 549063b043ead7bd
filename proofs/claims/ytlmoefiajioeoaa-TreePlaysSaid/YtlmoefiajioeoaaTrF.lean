/- tree's From. -/
import Derived.Test.YtlmoefiajioeoaaTrN
namespace Go.Proofs.Ytlmoefiajioeoaa
open Go.RowKit

/-- A row as a slice. -/
structure Rw where
  a : Ptr
  cap : Nat
  l : List Vl
instance : Inhabited Rw := ⟨⟨none, 0, []⟩⟩
def Rw.v (x : Rw) : Value := .slice x.a x.l.length x.cap
theorem own_only {w w' : World} {B : Nat} {e : TypeId} {size n : Nat} {v : Value} {xs : List Value} {M : Nat → Prop} (h : w.ownsRow B e size v n xs) (o : Only M w w') (hM : ∀ g, v.ownBlock = some g → ¬ M g) : w'.ownsRow B e size v n xs := by
  refine ⟨h.1, ?_⟩
  rcases h.2 with hn | ⟨g, cap, cur, rfl, hb, hgg, rest⟩
  · exact .inl hn
  · exact .inr ⟨g, cap, cur, rfl, hb, (o.block g (lt_of_block hgg) (hM g rfl)).trans hgg, rest⟩
/-- Where rows that have been made lie. -/
def Sr (w : World) (pp : Nat) (v vo : Value) (b : Nat) : Prop := w.heap.size ≤ b ∧ b ≠ pp ∧ v.ownBlock ≠ some b ∧ vo.ownBlock ≠ some b
structure FromInv (w : World) (kp pp dp : Nat) (ka : Ptr) (kc : Nat) (key : List Vl) (R : List (List Vl)) (vo : Value) (wr : World) (v : Value) (xs : List (Ptr × Tre)) (done : List Rw) (rest : List (List Vl × List Vl)) : Prop where
  wlk : Wlk (fun b => b < w.heap.size) w.heap.size wr kp pp dp ka kc key v xs
  rem : remS key xs = rest
  all : done.map Rw.l ++ rest.map Prod.snd = R
  own : wr.ownsRow w.heap.size 24 1 vo done.length (done.map Rw.v)
  rows : ∀ x ∈ done, RwS (Sr w pp v vo) wr x.a x.l
  o_pp : vo.ownBlock ≠ some pp
  o_kp : vo.ownBlock ≠ some kp
  o_dp : vo.ownBlock ≠ some dp
  o_v : ∀ g, vo.ownBlock = some g → v.ownBlock ≠ some g
  grown : w.grownBy wr none
/-- The walk has gone on. -/
theorem FromInv.next {w : World} {kp pp dp : Nat} {ka : Ptr} {kc : Nat} {key : List Vl} {R : List (List Vl)} {vo : Value} {wr w1 : World} {v v' : Value} {xs xs' : List (Ptr × Tre)} {done : List Rw} {k r : List Vl} {rest : List (List Vl × List Vl)} (h : FromInv w kp pp dp ka kc key R vo wr v xs done ((k, r) :: rest))
    (hw : Wlk (fun b => b < w.heap.size) w.heap.size w1 kp pp dp ka kc key v' xs') (hg : ∀ g, v'.ownBlock = some g → v.ownBlock = some g ∨ wr.heap.size ≤ g) (ho : Only (Wlk.M pp v) wr w1) :
    w1.ownsRow w.heap.size 24 1 vo done.length (done.map Rw.v) ∧ (∀ x ∈ done, RwS (Sr w pp v' vo) w1 x.a x.l) ∧ (∀ g, vo.ownBlock = some g → v'.ownBlock ≠ some g) ∧ w.grownBy w1 none := by
  have hvo : ∀ g, vo.ownBlock = some g → g < wr.heap.size := fun g hg => (World.ownsRow.lt h.own g hg).2
  refine ⟨own_only h.own ho (fun g hg' hm => ?_), fun x hx => ?_, fun g hg' hv => ?_, only_grown h.grown ho (fun b hb => ?_)⟩
  · rcases hm with rfl | hm
    · exact h.o_pp hg'
    · exact h.o_v g hg' hm
  · have h1 := (h.rows x hx).mono (S' := fun b => Sr w pp v vo b ∧ Sr w pp v' vo b) (fun b hb hs => ⟨hs, hs.1, hs.2.1, fun e => by
      rcases hg b e with q | q
      · exact hs.2.2.1 q
      · omega, hs.2.2.2⟩)
    refine (h1.keep (ho.stays (fun b hs _ hm => ?_))).mono (fun b _ hs => hs.2)
    rcases hm with rfl | hm
    · exact hs.1.2.1 rfl
    · exact hs.1.2.2.1 hm
  · rcases hg g hv with q | q
    · exact h.o_v g hg' q
    · have := hvo g hg'; omega
  · rcases hb with rfl | hb
    · exact h.wlk.bp
    · exact (World.ownsRow.lt h.wlk.own b hb).1
/-- A row has been appended. -/
theorem FromInv.push {w : World} {kp pp dp : Nat} {ka : Ptr} {kc : Nat} {key : List Vl} {R : List (List Vl)} {vo : Value} {wr w1 w2 w4 : World} {v v' : Value} {xs xs' : List (Ptr × Tre)} {done : List Rw} {k r : List Vl} {rest : List (List Vl × List Vl)} (h : FromInv w kp pp dp ka kc key R vo wr v xs done ((k, r) :: rest))
    (hw : Wlk (fun b => b < w.heap.size) w.heap.size w1 kp pp dp ka kc key v' xs') (hg : ∀ g, v'.ownBlock = some g → v.ownBlock = some g ∨ wr.heap.size ≤ g) (ho : Only (Wlk.M pp v) wr w1) (hr : remS key xs' = rest)
    {ra : Ptr} {rc : Nat} (hrow : RwS (fun b => w1.heap.size ≤ b) w2 ra r) (h12 : w1.grownBy w2 none) {o : Obj} {g cap : Nat}
    (hown : w4.ownsRow w.heap.size 24 1 (.slice (some ⟨g, 0, none⟩) (done.length + 1) cap) (done.length + 1) (done.map Rw.v ++ [.slice ra r.length rc])) (hgr : (w2.alloc o).grownBy w4 vo.ownBlock) (hgb : vo.ownBlock = some g ∨ g = (w2.alloc o).heap.size) :
    FromInv w kp pp dp ka kc key R (.slice (some ⟨g, 0, none⟩) (done.length + 1) cap) w4 v' xs' (done ++ [⟨ra, rc, r⟩]) rest := by
  obtain ⟨a1, a2, a3, a4⟩ := h.next hw hg ho
  have g13 : w1.grownBy (w2.alloc o) none := h12.trans (World.grownBy_alloc w2 o none)
  have hw3 := hw.grown g13
  have o34 : Only (fun b => vo.ownBlock = some b) (w2.alloc o) w4 := (Only.refl _ _).grown hgr (fun j hj => .inl hj)
  have hvo : ∀ b, vo.ownBlock = some b → w.heap.size ≤ b ∧ b < wr.heap.size := fun b hb => World.ownsRow.lt h.own b hb
  have hw4 := hw3.keep o34 (fun b hb => ⟨(hvo b hb).1, fun e => h.o_kp (by rw [hb, e]), fun e => h.o_pp (by rw [hb, e]), fun e => h.o_dp (by rw [hb, e]), a3 b hb⟩)
  obtain ⟨l1, l2, l3⟩ := hw.lt
  have s12 := h12.size
  have s01 := ho.size
  have s3 : (w2.alloc o).heap.size = w2.heap.size + 1 := by simp
  have hv' : ∀ b, v'.ownBlock = some b → b < w1.heap.size := fun b hb => (World.ownsRow.lt hw.own b hb).2
  refine ⟨hw4, hr, ?_, ?_, fun x hx => ?_, fun e => ?_, fun e => ?_, fun e => ?_, fun b hb e => ?_, ?_⟩
  · rw [← h.all]; simp
  · rw [List.length_append, List.map_append]; exact hown
  · rcases List.mem_append.1 hx with hx | hx
    · have b1 := (a2 x hx).keep (.of g13)
      have b2 := (a2 x hx).mono (S' := fun b => b < w1.heap.size ∧ Sr w pp v' vo b) (fun b hb hs => ⟨hb, hs⟩)
      refine ((b2.keep (.of g13)).keep (o34.stays (fun b hs _ hm => hs.2.2.2.2 hm))).mono (fun b _ hs => ⟨hs.2.1, hs.2.2.1, hs.2.2.2.1, fun e => ?_⟩)
      have e' : g = b := by simpa [Value.ownBlock] using e
      rcases hgb with q | q
      · exact hs.2.2.2.2 (by rw [q, e'])
      · have := hs.1; omega
    · obtain rfl := List.mem_singleton.1 hx
      have b2 := hrow.mono (S' := fun b => b < w2.heap.size ∧ w1.heap.size ≤ b) (fun b hb hs => ⟨hb, hs⟩)
      refine ((b2.keep (.of (World.grownBy_alloc w2 o none))).keep (o34.stays (fun b hs _ hm => by have := (hvo b hm).2; have := hs.2; omega))).mono (fun b _ hs => ⟨by have := a4.size; have := hs.2; omega, fun e => by have := hs.2; omega, fun e => by have := hv' b e; have := hs.2; omega, fun e => ?_⟩)
      have e' : g = b := by simpa [Value.ownBlock] using e
      rcases hgb with q | q
      · have := (hvo g q).2; have := hs.2; omega
      · have := hs.1; omega
  · have e' : g = pp := by simpa [Value.ownBlock] using e
    rcases hgb with q | q
    · exact h.o_pp (by rw [q, e'])
    · omega
  · have e' : g = kp := by simpa [Value.ownBlock] using e
    rcases hgb with q | q
    · exact h.o_kp (by rw [q, e'])
    · omega
  · have e' : g = dp := by simpa [Value.ownBlock] using e
    rcases hgb with q | q
    · exact h.o_dp (by rw [q, e'])
    · omega
  · have e' : g = b := by simpa [Value.ownBlock] using hb
    subst e'
    rcases hgb with q | q
    · exact a3 g q e
    · have := hv' g e; omega
  · exact only_grown (a4.trans g13) o34 (fun b hb => (hvo b hb).1)
end Go.Proofs.Ytlmoefiajioeoaa
