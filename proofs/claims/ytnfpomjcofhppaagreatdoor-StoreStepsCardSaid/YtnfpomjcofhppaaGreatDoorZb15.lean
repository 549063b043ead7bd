/- tree's walk: its next. tree's From. Windows of elements in memory: what is appended to them, and what is deleted in front. -/
import Derived.Test.YtnfpomjcofhppaaGreatDoorZb14
import Derived.ArgAppend
import Derived.Maps.AppendAt
import Derived.Deep.RegionLaw
import Derived.Deep.MidRow
import Derived.Lib.Hide
import Derived.Lib.SliceRun
namespace Go.Proofs.YtnfpomjcofhppaaGreatDoor
open Go.RowKit

/-- A node's pair in memory. -/
def PairAt (S : Nat → Prop) (w : World) (p : Ptr) (k r : List Vl) : Prop :=
  ∃ b ka kc va vc, p = some ⟨b, 0, none⟩ ∧ S b ∧ b < w.heap.size ∧ w.cell? ⟨b, 0, none⟩ = some (.slice ka k.length kc) ∧ w.cell? ⟨b, 1, none⟩ = some (.slice va r.length vc) ∧ RwS S w ka k ∧ RwS S w va r
theorem own_front {w : World} {B : Nat} {e : TypeId} {g n cap : Nat} {xs : List Value} {x : Value} (h : w.ownsRow B e 1 (.slice (some ⟨g, 0, none⟩) (n + 1) cap) (n + 1) (xs ++ [x])) (hn : xs.length = n) : w.ownsRow B e 1 (.slice (some ⟨g, 0, none⟩) n cap) n xs := by
  refine ⟨by omega, .inr ?_⟩
  rcases h.2 with ⟨e, _⟩ | ⟨g', cap', cur, e, hb, hg, h1, h2, h3, h4⟩
  · cases e
  · cases e
    refine ⟨g, cap, cur, rfl, hb, hg, by omega, h2, h3, ?_⟩
    have := congrArg (List.take n) h4
    rw [List.take_take, List.take_left' hn] at this
    rw [← this, Nat.mul_one]
    congr 1
    omega
set_option maxHeartbeats 3200000 in
theorem next_nil (S : Nat → Prop) (B kp pp dp : Nat) (ka : Ptr) (kc : Nat) (key : List Vl) (v : Value) (w : World) (h : Wlk S B w kp pp dp ka kc key v []) :
    Calls Tryz.prog 85 #[.pointer (some ⟨pp, 0, none⟩), .pointer (some ⟨dp, 0, none⟩)] w fun e w' => e = .returned (.pointer none) ∧ w = w' := by
  have pc := cell_of_one h.path
  obtain ⟨a, cap, rfl⟩ : ∃ a cap, v = .slice a 0 cap := by
    rcases h.own.2 with ⟨e, _⟩ | ⟨g, cap, _, e, _⟩
    · exact ⟨none, 0, e⟩
    · exact ⟨_, cap, e⟩
  clear h
  go_enter Tryz.func85, Tryz.ntmps85
  go_wp2_with fail
  go_ret
  exact ⟨rfl, rfl⟩
theorem Wlk.pop {S : Nat → Prop} {B : Nat} {w : World} {kp pp dp : Nat} {ka : Ptr} {kc : Nat} {key : List Vl} {g cap : Nat} {ys : List (Ptr × Tre)} {x : Ptr × Tre} (h : Wlk S B w kp pp dp ka kc key (.slice (some ⟨g, 0, none⟩) (ys.length + 1) cap) (ys ++ [x])) :
    Wlk S B (w.setCell ⟨pp, 0, none⟩ (.slice (some ⟨g, 0, none⟩) ys.length cap)) kp pp dp ka kc key (.slice (some ⟨g, 0, none⟩) ys.length cap) ys ∧ Only (Wlk.M pp (.slice (some ⟨g, 0, none⟩) (ys.length + 1) cap)) w (w.setCell ⟨pp, 0, none⟩ (.slice (some ⟨g, 0, none⟩) ys.length cap)) := by
  have o := h.push_only (u := .slice (some ⟨g, 0, none⟩) ys.length cap) (grown_reflT w _)
  have hst := h.stays o
  have hown := h.own
  rw [List.length_append, List.map_append] at hown
  have of := own_front (n := ys.length) hown (by simp)
  have hgpp : g ≠ pp := fun e => h.v_pp (by simp [Value.ownBlock, e])
  have nkp : ¬ Wlk.M pp (.slice (some ⟨g, 0, none⟩) (ys.length + 1) cap) kp := fun hm => hm.elim (fun e => h.kp_pp e) (fun e => h.v_kp e)
  have ndp : ¬ Wlk.M pp (.slice (some ⟨g, 0, none⟩) (ys.length + 1) cap) dp := fun hm => hm.elim (fun e => h.dp_pp e) (fun e => h.v_dp e)
  exact ⟨⟨one_setCell h.path, ownsRow_setCell_other of (fun e => hgpp (by simpa [Value.ownBlock] using e)) _, h.bp, o.cell h.kbox nkp, h.krow.keep hst, o.cell h.dbox ndp, h.kp_pp, h.dp_pp, h.v_pp, h.v_kp, h.v_dp, fun y hy => ⟨(h.trees y (List.mem_append_left _ hy)).1.keep hst, (h.trees y (List.mem_append_left _ hy)).2⟩, h.low, Nat.le_trans h.bw o.size⟩, o⟩
set_option maxRecDepth 100000 in
set_option maxHeartbeats 6400000 in
theorem next_some (hc : Tr.IsOrd rowsOrd) (S : Nat → Prop) (B kp pp dp : Nat) (ka : Ptr) (kc : Nat) (key : List Vl) (v : Value) (ys : List (Ptr × Tre)) (px : Ptr) (l r : Tre) (k r' : List Vl) (w : World) (h : Wlk S B w kp pp dp ka kc key v (ys ++ [(px, .node l k r' r)])) (hn : ys.length + r.n ≤ 1000000000 ∧ r.n ≤ 500000000) :
    Calls Tryz.prog 85 #[.pointer (some ⟨pp, 0, none⟩), .pointer (some ⟨dp, 0, none⟩)] w fun e w' => e = .returned (.pointer px) ∧ (∃ v' xs, Wlk S B w' kp pp dp ka kc key v' xs ∧ (∀ g, v'.ownBlock = some g → v.ownBlock = some g ∨ w.heap.size ≤ g) ∧ remS key xs = fromL key r.toL ++ remS key ys ∧ xs.length ≤ ys.length + r.n) ∧ Only (Wlk.M pp v) w w' := by
  obtain ⟨g, cap, rfl, hBg, hg⟩ : ∃ g cap, v = .slice (some ⟨g, 0, none⟩) (ys.length + 1) cap ∧ B ≤ g ∧ g < w.heap.size := by
    have := World.ownsRow.form h.own (by simp)
    simpa using this
  obtain ⟨hp, ho⟩ := h.pop
  have pc := cell_of_one h.path
  have pf := free_of_one h.path
  have cx : w.cell? ⟨g, ys.length, none⟩ = some (.pointer px) := by
    have := World.ownsRow.cells h.own (g := g) rfl ys.length (.pointer px) (by simp)
    rw [add_atT] at this
    simpa using this
  obtain ⟨⟨b, tka, tkc, tva, tvc, lp, rp, rfl, hSb, _, ⟨_, _, _, c3, _, _⟩, _, _, h3, h4⟩, _, hs⟩ := h.trees (px, .node l k r' r) (by simp)
  have hst := h.stays ho
  have HD := Lib.hid (down_any hc S B kp pp dp ka kc key (.slice (some ⟨g, 0, none⟩) ys.length cap) ys r rp _ (hp.grown (grown_drewT (grown_reflT _ _))) ((h4.keep hst).keep (.of (grown_drewT (grown_reflT _ _)))) (sorted_r hs) hn)
  have hcap : ys.length + 1 ≤ cap := by
    have hown := h.own
    rw [List.length_append, List.length_singleton] at hown
    rcases hown.2 with ⟨e, _⟩ | ⟨_, _, _, e, _, _, q, _⟩
    · cases e
    · cases e; exact q
  have hdb := (hp.dbox)
  have hneb : b ≠ pp := fun e => by have := h.low b hSb; have := h.bp; omega
  have hned : dp ≠ pp := h.dp_pp
  have hdb0 := h.dbox
  have OO := Lib.hid ho
  have e3 := ho.cell c3 (fun hm => by
    rcases hm with e | e
    · exact hneb e
    · have : g = b := by simpa [Value.ownBlock] using e
      have := h.low b hSb
      omega)
  generalize hy : ys.length = m at *
  have i0 : (0 : Int) ≤ (m : Int) := Int.natCast_nonneg _
  have i1 : (m : Int) < (m : Int) + 1 := by omega
  have i2 : (m : Int) ≤ cap := by omega
  have i4 : IntKind.i64.wrap ((m : Int) + 1 - 1) = (m : Int) := by rw [IntKind.wrap_i64]; omega
  have i5 : ¬ (m : Int) < 0 := by omega
  have i7 : wrap64 (m : Int) = (m : Int) := by unfold wrap64; omega
  have i6 : (m : Int) ≤ (m : Int) + 1 := by omega
  clear h hp ho h3 h4 hs hst hn hc
  go_enter Tryz.func85, Tryz.ntmps85
  go_upto_region 6 with fail
  generalize w.setCell ⟨pp, 0, none⟩ (.slice (some ⟨g, 0, none⟩) m cap) = w1 at *
  go_region_with (go_at_call 84; (with_reducible refine HD.out.mono ?_); rintro e w2 ⟨rfl, ⟨v', xs, hw, hg', hr, hl⟩, ho2⟩; have D := Lib.hid (And.intro hw (And.intro hg' (And.intro hr (And.intro hl ho2)))); clear hw hg' hr hl ho2)
  all_goals
    go_wp2_with fail
    go_ret
    obtain ⟨hw, hg', hr, hl, ho2⟩ := D.out
    exact ⟨rfl, ⟨v', xs, hw, fun x hx => (hg' x hx).imp id (fun hq => Nat.le_trans OO.out.size hq), hr, hl⟩, OO.out.drew.trans ho2 (fun b hb => .inl hb)⟩
/-- The next of a walk: nothing more. -/
theorem next_none (S : Nat → Prop) (B kp pp dp : Nat) (ka : Ptr) (kc : Nat) (key : List Vl) (v : Value) (xs : List (Ptr × Tre)) (w : World) (h : Wlk S B w kp pp dp ka kc key v xs) (hr : remS key xs = []) :
    Calls Tryz.prog 85 #[.pointer (some ⟨pp, 0, none⟩), .pointer (some ⟨dp, 0, none⟩)] w fun e w' => e = .returned (.pointer none) ∧ w = w' := by
  rcases List.eq_nil_or_concat xs with rfl | ⟨ys, x, rfl⟩
  · exact next_nil S B kp pp dp ka kc key v w h
  · rw [List.concat_eq_append] at hr h
    rw [remS_snoc] at hr
    obtain ⟨_, ⟨h0, _⟩, _⟩ := h.trees x (by simp)
    obtain ⟨px, tx⟩ := x
    cases tx with
    | nil => simp [Tr.n] at h0
    | node l k v r => simp [pendT] at hr
theorem pend_len (key : List Vl) : ∀ l : List (Ptr × Tre), (∀ x ∈ l, 0 < x.2.n) → l.length ≤ (l.flatMap fun x => pendT key x.2).length
  | [], _ => by simp
  | (px, .nil) :: l, h => by have := h (px, .nil) (by simp); simp [Tr.n] at this
  | (px, .node a b c d) :: l, h => by
    have := pend_len key l (fun x hx => h x (by simp [hx]))
    rw [List.flatMap_cons, List.length_append]
    have e : (pendT key (Tr.node a b c d)).length = (fromL key d.toL).length + 1 := by simp [pendT]
    simp only [List.length_cons]
    omega
theorem remS_len {S : Nat → Prop} {B : Nat} {w : World} {kp pp dp : Nat} {ka : Ptr} {kc : Nat} {key : List Vl} {v : Value} {xs : List (Ptr × Tre)} (h : Wlk S B w kp pp dp ka kc key v xs) : xs.length ≤ (remS key xs).length := by
  have := pend_len key xs.reverse (fun x hx => (h.trees x (by simpa using hx)).2.1.1)
  rw [List.length_reverse] at this
  exact this
/-- The next of a walk: a pair, and what comes behind it. -/
theorem next_more (hc : Tr.IsOrd rowsOrd) (S : Nat → Prop) (B kp pp dp : Nat) (ka : Ptr) (kc : Nat) (key : List Vl) (v : Value) (xs : List (Ptr × Tre)) (w : World) (k r' : List Vl) (rest : List (List Vl × List Vl)) (h : Wlk S B w kp pp dp ka kc key v xs) (hr : remS key xs = (k, r') :: rest) (hN : rest.length ≤ 400000000) :
    Calls Tryz.prog 85 #[.pointer (some ⟨pp, 0, none⟩), .pointer (some ⟨dp, 0, none⟩)] w fun e w' => (∃ p, e = .returned (.pointer p) ∧ PairAt S w' p k r') ∧ (∃ v' xs', Wlk S B w' kp pp dp ka kc key v' xs' ∧ (∀ g, v'.ownBlock = some g → v.ownBlock = some g ∨ w.heap.size ≤ g) ∧ remS key xs' = rest) ∧ Only (Wlk.M pp v) w w' := by
  have hlen := remS_len h
  rw [hr] at hlen
  rcases List.eq_nil_or_concat xs with rfl | ⟨ys, x, rfl⟩
  · simp [remS] at hr
  · rw [List.concat_eq_append] at hr h hlen
    rw [remS_snoc] at hr
    obtain ⟨ht, ⟨h0, hn5⟩, _⟩ := h.trees x (by simp)
    obtain ⟨px, tx⟩ := x
    cases tx with
    | nil => simp [Tr.n] at h0
    | node l k0 v0 r =>
      simp only [pendT, List.cons_append, List.cons.injEq, Prod.mk.injEq] at hr
      obtain ⟨⟨rfl, rfl⟩, hr⟩ := hr
      simp only [Tr.n] at hn5
      simp only [List.length_append, List.length_cons, List.length_nil] at hlen
      refine (next_some hc S B kp pp dp ka kc key v ys px l r k0 v0 w h ⟨by omega, by omega⟩).mono ?_
      rintro e w' ⟨rfl, ⟨v', xs', hw', hg', hr', _⟩, ho⟩
      obtain ⟨b, tka, tkc, tva, tvc, lp, rp, hpx, hSb, hb, ⟨c0, c1, _, _, _, _⟩, h1, h2, _, _⟩ := ht
      have hst := h.stays ho
      have hM : ¬ Wlk.M pp v b := fun hm => by
        have := h.low b hSb
        rcases hm with rfl | hm
        · have := h.bp; omega
        · have := (World.ownsRow.lt h.own b hm).1; omega
      exact ⟨⟨px, rfl, b, tka, tkc, tva, tvc, hpx, hSb, Nat.lt_of_lt_of_le hb ho.size, ho.cell c0 hM, ho.cell c1 hM, h1.keep hst, h2.keep hst⟩, ⟨v', xs', hw', hg', by rw [hr', hr]⟩, ho⟩
end Go.Proofs.YtnfpomjcofhppaaGreatDoor
namespace Go.Proofs.YtnfpomjcofhppaaGreatDoor
open Go.RowKit

/-- A row as a slice. -/
structure Rw where
  a : Ptr
  cap : Nat
  l : List Vl
instance : Inhabited Rw := ⟨⟨none, 0, []⟩⟩
def Rw.v (x : Rw) : Value := .slice x.a x.l.length x.cap
theorem own_only {w w' : World} {B : Nat} {e : TypeId} {size n : Nat} {v : Value} {xs : List Value} {M : Nat → Prop} (h : w.ownsRow B e size v n xs) (o : Only M w w') (hM : ∀ g, v.ownBlock = some g → ¬ M g) : w'.ownsRow B e size v n xs := by
  refine ⟨h.1, ?_⟩
  rcases h.2 with hn | ⟨g, cap, cur, rfl, hb, hgg, rest⟩
  · exact .inl hn
  · exact .inr ⟨g, cap, cur, rfl, hb, (o.block g (lt_of_block hgg) (hM g rfl)).trans hgg, rest⟩
/-- Where rows that have been made lie. -/
def Sr (w : World) (pp : Nat) (v vo : Value) (b : Nat) : Prop := w.heap.size ≤ b ∧ b ≠ pp ∧ v.ownBlock ≠ some b ∧ vo.ownBlock ≠ some b
structure FromInv (w : World) (kp pp dp : Nat) (ka : Ptr) (kc : Nat) (key : List Vl) (R : List (List Vl)) (vo : Value) (wr : World) (v : Value) (xs : List (Ptr × Tre)) (done : List Rw) (rest : List (List Vl × List Vl)) : Prop where
  wlk : Wlk (fun b => b < w.heap.size) w.heap.size wr kp pp dp ka kc key v xs
  rem : remS key xs = rest
  all : done.map Rw.l ++ rest.map Prod.snd = R
  own : wr.ownsRow w.heap.size 55 1 vo done.length (done.map Rw.v)
  rows : ∀ x ∈ done, RwS (Sr w pp v vo) wr x.a x.l
  o_pp : vo.ownBlock ≠ some pp
  o_kp : vo.ownBlock ≠ some kp
  o_dp : vo.ownBlock ≠ some dp
  o_v : ∀ g, vo.ownBlock = some g → v.ownBlock ≠ some g
  grown : w.grownBy wr none
/-- The walk has gone on. -/
theorem FromInv.next {w : World} {kp pp dp : Nat} {ka : Ptr} {kc : Nat} {key : List Vl} {R : List (List Vl)} {vo : Value} {wr w1 : World} {v v' : Value} {xs xs' : List (Ptr × Tre)} {done : List Rw} {k r : List Vl} {rest : List (List Vl × List Vl)} (h : FromInv w kp pp dp ka kc key R vo wr v xs done ((k, r) :: rest))
    (hw : Wlk (fun b => b < w.heap.size) w.heap.size w1 kp pp dp ka kc key v' xs') (hg : ∀ g, v'.ownBlock = some g → v.ownBlock = some g ∨ wr.heap.size ≤ g) (ho : Only (Wlk.M pp v) wr w1) :
    w1.ownsRow w.heap.size 55 1 vo done.length (done.map Rw.v) ∧ (∀ x ∈ done, RwS (Sr w pp v' vo) w1 x.a x.l) ∧ (∀ g, vo.ownBlock = some g → v'.ownBlock ≠ some g) ∧ w.grownBy w1 none := by
  have hvo : ∀ g, vo.ownBlock = some g → g < wr.heap.size := fun g hg => (World.ownsRow.lt h.own g hg).2
  refine ⟨own_only h.own ho (fun g hg' hm => ?_), fun x hx => ?_, fun g hg' hv => ?_, only_grown h.grown ho (fun b hb => ?_)⟩
  · rcases hm with rfl | hm
    · exact h.o_pp hg'
    · exact h.o_v g hg' hm
  · have h1 := (h.rows x hx).mono (S' := fun b => Sr w pp v vo b ∧ Sr w pp v' vo b) (fun b hb hs => ⟨hs, hs.1, hs.2.1, fun e => by
      rcases hg b e with q | q
      · exact hs.2.2.1 q
      · omega, hs.2.2.2⟩)
    refine (h1.keep (ho.stays (fun b hs _ hm => ?_))).mono (fun b _ hs => hs.2)
    rcases hm with rfl | hm
    · exact hs.1.2.1 rfl
    · exact hs.1.2.2.1 hm
  · rcases hg g hv with q | q
    · exact h.o_v g hg' q
    · have := hvo g hg'; omega
  · rcases hb with rfl | hb
    · exact h.wlk.bp
    · exact (World.ownsRow.lt h.wlk.own b hb).1
/-- A row has been appended. -/
theorem FromInv.push {w : World} {kp pp dp : Nat} {ka : Ptr} {kc : Nat} {key : List Vl} {R : List (List Vl)} {vo : Value} {wr w1 w2 w4 : World} {v v' : Value} {xs xs' : List (Ptr × Tre)} {done : List Rw} {k r : List Vl} {rest : List (List Vl × List Vl)} (h : FromInv w kp pp dp ka kc key R vo wr v xs done ((k, r) :: rest))
    (hw : Wlk (fun b => b < w.heap.size) w.heap.size w1 kp pp dp ka kc key v' xs') (hg : ∀ g, v'.ownBlock = some g → v.ownBlock = some g ∨ wr.heap.size ≤ g) (ho : Only (Wlk.M pp v) wr w1) (hr : remS key xs' = rest)
    {ra : Ptr} {rc : Nat} (hrow : RwS (fun b => w1.heap.size ≤ b) w2 ra r) (h12 : w1.grownBy w2 none) {o : Obj} {g cap : Nat}
    (hown : w4.ownsRow w.heap.size 55 1 (.slice (some ⟨g, 0, none⟩) (done.length + 1) cap) (done.length + 1) (done.map Rw.v ++ [.slice ra r.length rc])) (hgr : (w2.alloc o).grownBy w4 vo.ownBlock) (hgb : vo.ownBlock = some g ∨ g = (w2.alloc o).heap.size) :
    FromInv w kp pp dp ka kc key R (.slice (some ⟨g, 0, none⟩) (done.length + 1) cap) w4 v' xs' (done ++ [⟨ra, rc, r⟩]) rest := by
  obtain ⟨a1, a2, a3, a4⟩ := h.next hw hg ho
  have g13 : w1.grownBy (w2.alloc o) none := h12.trans (World.grownBy_alloc w2 o none)
  have hw3 := hw.grown g13
  have o34 : Only (fun b => vo.ownBlock = some b) (w2.alloc o) w4 := (Only.refl _ _).grown hgr (fun j hj => .inl hj)
  have hvo : ∀ b, vo.ownBlock = some b → w.heap.size ≤ b ∧ b < wr.heap.size := fun b hb => World.ownsRow.lt h.own b hb
  have hw4 := hw3.keep o34 (fun b hb => ⟨(hvo b hb).1, fun e => h.o_kp (by rw [hb, e]), fun e => h.o_pp (by rw [hb, e]), fun e => h.o_dp (by rw [hb, e]), a3 b hb⟩)
  obtain ⟨l1, l2, l3⟩ := hw.lt
  have s12 := h12.size
  have s01 := ho.size
  have s3 : (w2.alloc o).heap.size = w2.heap.size + 1 := by simp
  have hv' : ∀ b, v'.ownBlock = some b → b < w1.heap.size := fun b hb => (World.ownsRow.lt hw.own b hb).2
  refine ⟨hw4, hr, ?_, ?_, fun x hx => ?_, fun e => ?_, fun e => ?_, fun e => ?_, fun b hb e => ?_, ?_⟩
  · rw [← h.all]; simp
  · rw [List.length_append, List.map_append]; exact hown
  · rcases List.mem_append.1 hx with hx | hx
    · have b1 := (a2 x hx).keep (.of g13)
      have b2 := (a2 x hx).mono (S' := fun b => b < w1.heap.size ∧ Sr w pp v' vo b) (fun b hb hs => ⟨hb, hs⟩)
      refine ((b2.keep (.of g13)).keep (o34.stays (fun b hs _ hm => hs.2.2.2.2 hm))).mono (fun b _ hs => ⟨hs.2.1, hs.2.2.1, hs.2.2.2.1, fun e => ?_⟩)
      have e' : g = b := by simpa [Value.ownBlock] using e
      rcases hgb with q | q
      · exact hs.2.2.2.2 (by rw [q, e'])
      · have := hs.1; omega
    · obtain rfl := List.mem_singleton.1 hx
      have b2 := hrow.mono (S' := fun b => b < w2.heap.size ∧ w1.heap.size ≤ b) (fun b hb hs => ⟨hb, hs⟩)
      refine ((b2.keep (.of (World.grownBy_alloc w2 o none))).keep (o34.stays (fun b hs _ hm => by have := (hvo b hm).2; have := hs.2; omega))).mono (fun b _ hs => ⟨by have := a4.size; have := hs.2; omega, fun e => by have := hs.2; omega, fun e => by have := hv' b e; have := hs.2; omega, fun e => ?_⟩)
      have e' : g = b := by simpa [Value.ownBlock] using e
      rcases hgb with q | q
      · have := (hvo g q).2; have := hs.2; omega
      · have := hs.1; omega
  · have e' : g = pp := by simpa [Value.ownBlock] using e
    rcases hgb with q | q
    · exact h.o_pp (by rw [q, e'])
    · omega
  · have e' : g = kp := by simpa [Value.ownBlock] using e
    rcases hgb with q | q
    · exact h.o_kp (by rw [q, e'])
    · omega
  · have e' : g = dp := by simpa [Value.ownBlock] using e
    rcases hgb with q | q
    · exact h.o_dp (by rw [q, e'])
    · omega
  · have e' : g = b := by simpa [Value.ownBlock] using hb
    subst e'
    rcases hgb with q | q
    · exact a3 g q e
    · have := hv' g e; omega
  · exact only_grown (a4.trans g13) o34 (fun b hb => (hvo b hb).1)
end Go.Proofs.YtnfpomjcofhppaaGreatDoor
namespace Go.Proofs.YtnfpomjcofhppaaGreatDoor
open Go.RowKit

/-- The block of an address. -/
def bk (a : Option Addr) (k : Nat) : Prop := a.map Addr.block = some k
theorem bk_some (g o : Nat) (s : Option Nat) (k : Nat) : bk (some ⟨g, o, s⟩) k ↔ g = k := by simp [bk]
theorem Only.keepS {M : Nat → Prop} {w w' : World} (h : Only M w w') {b : Nat} (hb : b < w.heap.size) (hM : ¬ M b) (o : Nat) : w'.cell? ⟨b, o, none⟩ = w.cell? ⟨b, o, none⟩ ∧ w'.frozen? ⟨b, o, none⟩ = w.frozen? ⟨b, o, none⟩ :=
  ⟨World.cell?_of_block (a := ⟨b, o, none⟩) (h.block b hb hM), World.frozen?_of_block (a := ⟨b, o, none⟩) (h.block b hb hM)⟩
theorem Only.of_grown {w w' : World} {row : Option Nat} (h : w.grownBy w' row) : Only (fun k => row = some k) w w' := ⟨h.os, h.tape, h.output, h.size, fun b hb hM => h.block b hb (fun e => hM e.symm)⟩
theorem Only.of_none {M : Nat → Prop} {w w' : World} (h : w.grownBy w' none) : Only M w w' := ⟨h.os, h.tape, h.output, h.size, fun b hb _ => h.block b hb (by simp)⟩
theorem Only.mono {M M' : Nat → Prop} {w w' : World} (h : Only M w w') (hM : ∀ k, k < w.heap.size → M k → M' k) : Only M' w w' := ⟨h.os, h.tape, h.output, h.size, fun b hb hn => h.block b hb (fun e => hn (hM b hb e))⟩
/-- n elements of sz cells each that read as xs, in a window with room. -/
structure Win (sz : Nat) (w : World) (a : Option Addr) (cap n : Nat) (xs : List Value) : Prop where
  len : xs.length = n * sz
  le : n ≤ cap
  max : cap ≤ maxLen
  lt : ∀ k, bk a k → k < w.heap.size
  mem : cap = 0 ∨ ∃ g off, a = some ⟨g, off, none⟩ ∧ (∀ j u, xs[j]? = some u → w.cell? ⟨g, off + j, none⟩ = some u) ∧ (∀ j, j < cap * sz → (w.cell? ⟨g, off + j, none⟩).isSome = true) ∧ ∀ o, w.frozen? ⟨g, o, none⟩ = false
theorem Win.nil (sz : Nat) (w : World) : Win sz w none 0 0 [] := ⟨by simp, Nat.le_refl _, Nat.zero_le _, fun k h => by simp [bk] at h, .inl rfl⟩
theorem Win.keep {sz : Nat} {w w' : World} {a : Option Addr} {cap n : Nat} {xs : List Value} {M : Nat → Prop} (h : Win sz w a cap n xs) (ho : Only M w w') (hM : ∀ k, bk a k → ¬ M k) : Win sz w' a cap n xs := by
  refine ⟨h.len, h.le, h.max, fun k hk => Nat.lt_of_lt_of_le (h.lt k hk) ho.size, h.mem.imp id fun ⟨g, off, e, hc, hs, hf⟩ => ⟨g, off, e, ?_, ?_, ?_⟩⟩
  all_goals
    have hg : bk a g := by rw [e, bk_some]
    have hk := fun o => ho.keepS (h.lt g hg) (hM g hg) o
  · intro j u hj; rw [(hk _).1]; exact hc j u hj
  · intro j hj; rw [(hk _).1]; exact hs j hj
  · intro o; rw [(hk _).2]; exact hf o
theorem Win.keepG {sz : Nat} {w w' : World} {a : Option Addr} {cap n : Nat} {xs : List Value} (h : Win sz w a cap n xs) (hg : w.grownBy w' none) : Win sz w' a cap n xs := h.keep (M := fun _ => False) (.of_none hg) (fun _ _ e => e)
theorem own_win {B : Nat} {w : World} {e : TypeId} {sz n : Nat} {v : Value} {xs : List Value} (h : w.ownsRow B e sz v n xs) : ∃ a cap, v = .slice a n cap ∧ Win sz w a cap n xs ∧ (∀ k, bk a k → v.ownBlock = some k) := by
  rcases h.2 with ⟨hv, h0⟩ | ⟨g, cap, cur, hv, hb, hg, hc, hm, hcs, htk⟩
  · exact ⟨none, 0, by rw [hv, h0], ⟨h.1, by omega, Nat.zero_le _, fun k h => by simp [bk] at h, .inl rfl⟩, fun k h => by simp [bk] at h⟩
  · refine ⟨some ⟨g, 0, none⟩, cap, hv, ⟨h.1, hc, hm, fun k hk => ?_, .inr ⟨g, 0, rfl, fun j u hj => ?_, fun j hj => ?_, fun o => by simp [World.frozen?, hg]⟩⟩, fun k hk => ?_⟩
    · rw [bk_some] at hk; subst hk; exact (Array.getElem?_eq_some_iff.1 hg).1
    · have := h.cells (g := g) (by rw [hv]; rfl) j u hj
      rw [add_atT] at this
      exact this
    · rw [cell_of_row w g _ cur _ _ hg, Array.getElem?_eq_getElem (by omega)]; rfl
    · rw [bk_some] at hk; subst hk; rw [hv]; rfl
/-- A type of elements, and that of their slices. -/
structure ElT (sl e : TypeId) (z : Value) (sz by' : Nat) : Prop where
  und : Tryz.prog.underlying sl = some (.slice e)
  inf : ∃ i, Tryz.prog.info? e = some i ∧ i.zero = some z ∧ i.size = sz ∧ i.bytes = by'
  zc : z.cells.size = sz
  pos : 0 < sz
  few : by' ≤ 128
theorem setCells_size (b : Nat) : ∀ (vs : List Value) (o : Nat) (w : World), (w.setCells b o vs).heap.size = w.heap.size
  | [], _, _ => rfl
  | v :: vs, o, w => by
    show ((w.setCell ⟨b, o, none⟩ v).setCells b (o + 1) vs).heap.size = _
    rw [setCells_size b vs]; simp [World.setCell]
theorem only_setCells (b : Nat) : ∀ (vs : List Value) (o : Nat) (w : World), Only (fun k => b = k) w (w.setCells b o vs)
  | [], _, w => Only.refl _ w
  | v :: vs, o, w => (((Only.refl (fun k => b = k) w).set (.inl rfl) o v).trans (only_setCells b vs (o + 1) _) (fun _ h => .inl h))
/-- Behind a store into a window. -/
theorem Win.put {sz : Nat} {w : World} {g off cap n m : Nat} {xs ys vs : List Value} {o : Nat} (h : Win sz w (some ⟨g, off, none⟩) cap n xs) (hcap : cap ≠ 0) (ho : o + vs.length ≤ cap * sz) (hl : ys.length = m * sz) (hm : m ≤ cap)
    (hys : ∀ j u, ys[j]? = some u → (o ≤ j ∧ vs[j - o]? = some u) ∨ ((j < o ∨ o + vs.length ≤ j) ∧ xs[j]? = some u)) : Win sz (w.setCells g (off + o) vs) (some ⟨g, off, none⟩) cap m ys := by
  rcases h.mem with h0 | ⟨g', off', e, hc, hs, hf⟩
  · exact absurd h0 hcap
  · cases e
    have hin := World.cell?_setCells_in g vs (off + o) w (fun j hj => by rw [Nat.add_assoc]; exact hs _ (by omega))
    refine ⟨hl, hm, h.max, fun k hk => by rw [setCells_size]; exact h.lt k hk, .inr ⟨g, off, rfl, fun j u hj => ?_, fun j hj => World.isSome_setCells g vs _ w _ (hs j hj), fun i => by rw [World.frozen?_setCells]; exact hf i⟩⟩
    rcases hys j u hj with ⟨h1, h2⟩ | ⟨h1, h2⟩
    · obtain ⟨hjl, hju⟩ := List.getElem?_eq_some_iff.1 h2
      have := hin (j - o) hjl
      rw [show off + o + (j - o) = off + j by omega] at this
      rw [this, hju]
    · rw [World.cell?_setCells_out g vs (off + o) w ⟨g, off + j, none⟩ (fun _ _ => by
        show off + j < off + o ∨ off + o + vs.length ≤ off + j
        omega)]
      exact hc j u h2
/-- One element more. -/
theorem run_append_win {sl e : TypeId} {z : Value} {sz by' : Nat} (E : ElT sl e z sz by') {w : World} {a : Option Addr} {cap n : Nat} {xs : List Value} (h : Win sz w a cap n xs) (hn : n ≤ 1000000)
    (ad : Addr) (c : Nat) (news : List Value) (hnl : news.length = sz) (hnews : ∀ j u, news[j]? = some u → w.cell? (ad.add j) = some u) (h1 : ∀ u ∈ news, u.oneCell' = true) (ty : TypeId) :
    ∃ a' cap' w', (Builtin.append_ #[sl, sl] ty #[.slice a n cap, .slice (some ad) 1 c]).run Tryz.prog w = .ok (.slice a' (n + 1) cap') w' ∧ Win sz w' a' cap' (n + 1) (xs ++ news) ∧ Only (bk a) w w' ∧ (∀ k, bk a' k → bk a k ∨ w.heap.size ≤ k) := by
  obtain ⟨i0, hi, hz0, hz1, hz2⟩ := E.inf
  have hlen := h.len
  have hpos := E.pos
  have hby := E.few
  have hmx : n + 1 ≤ maxLen := by unfold maxLen; omega
  have hbb : (n + 1) * by' ≤ 140737488355328 := by
    have : (n + 1) * by' ≤ 1000001 * 128 := Nat.mul_le_mul (by omega) hby
    omega
  have fin : ∀ v' w', (Builtin.append_ #[sl, sl] ty #[.slice a n cap, .slice (some ad) 1 c]).run Tryz.prog w = .ok v' w' → w'.ownsRow w.heap.size e sz v' (n + 1) (xs ++ news) → w.grownBy w' none → ∃ a' cap' w', (Builtin.append_ #[sl, sl] ty #[.slice a n cap, .slice (some ad) 1 c]).run Tryz.prog w = .ok (.slice a' (n + 1) cap') w' ∧ Win sz w' a' cap' (n + 1) (xs ++ news) ∧ Only (bk a) w w' ∧ (∀ k, bk a' k → bk a k ∨ w.heap.size ≤ k) := by
    intro v' w' hr ho hg
    obtain ⟨a', cap', rfl, hw, hb⟩ := own_win ho
    exact ⟨a', cap', w', hr, hw, .of_none hg, fun k hk => .inr (World.ownsRow.lt ho k (hb k hk)).1⟩
  by_cases hroom : n + 1 ≤ cap
  · rcases h.mem with h0 | ⟨g, off, rfl, hc, hs, hf⟩
    · omega
    · have hsz : n * sz + sz ≤ cap * sz := by
        have := Nat.mul_le_mul_right sz hroom
        rw [Nat.add_mul] at this; omega
      have hr := run_append_room_cells (P := Tryz.prog) w sl ty e i0 E.und hi g off n cap ad 1 c news (by rw [hz1, hnl]; omega) hnews h1 hroom
        (fun j hj => by rw [hz1, Nat.add_assoc]; exact hs _ (by omega)) (fun j hj => hf _)
      rw [hz1] at hr
      refine ⟨_, _, _, hr, h.put (by omega) (by omega) (by rw [List.length_append, hlen, hnl, Nat.add_mul]; omega) hroom (fun j u hj => ?_), (only_setCells g news _ w).mono (fun k _ e => by rw [bk_some]; exact e), fun k hk => .inl hk⟩
      by_cases hlt : j < n * sz
      · rw [List.getElem?_append_left (by omega)] at hj
        exact .inr ⟨.inl hlt, hj⟩
      · rw [List.getElem?_append_right (by omega), hlen] at hj
        exact .inl ⟨by omega, hj⟩
  · obtain rfl : cap = n := by have := h.le; omega
    rcases h.mem with h0 | ⟨g, off, rfl, hc, hs, hf⟩
    · subst h0
      have hxs : xs = [] := List.eq_nil_of_length_eq_zero (by omega)
      subst hxs
      cases a with
      | none =>
        obtain ⟨v', w', hrun, r1, r2, _⟩ := run_append_own (P := Tryz.prog) w w.heap.size sl ty e i0 z sz by' E.und hi hz0 hz1 hz2 E.zc hpos (.slice none 0 0) 0 [] (World.ownsRow_nil w _ _ sz) ad 1 c news (by omega) hnews h1 (by omega) (by omega) (Nat.le_refl _)
        exact fin v' w' hrun r1 ⟨r2.os, r2.tape, r2.output, r2.size, fun k hk _ => r2.block k hk (by simp [Value.ownBlock])⟩
      | some a' =>
        obtain ⟨v', w', hrun, r1, r2⟩ := run_append_arg_grows (P := Tryz.prog) w sl ty e i0 z sz by' E.und hi hz0 hz1 hz2 E.zc hpos a' 0 0 [] (by simp) (by intro _ _ h'; simp at h') ad 1 c news (by omega) hnews (by omega) (by omega) (by omega)
        exact fin v' w' hrun r1 r2
    · obtain ⟨v', w', hrun, r1, r2⟩ := run_append_arg_grows (P := Tryz.prog) w sl ty e i0 z sz by' E.und hi hz0 hz1 hz2 E.zc hpos ⟨g, off, none⟩ cap cap xs hlen (fun j u hj => by rw [add_atT]; exact hc j u hj) ad 1 c news (by omega) hnews (by omega) hmx hbb
      exact fin v' w' hrun r1 r2
/-- One element more, at a step of a region that draws. -/
theorem step_append_win {ops : Array Oper} {o : Oper} {act : Act} {K : Act → World → Prop} {Q : Exit → Act → World → Prop} {F : Prop} {w : World} (hgd : o.guard = none) (s x : Operand) {sl e : TypeId} {z : Value} {sz by' : Nat} (E : ElT sl e z sz by')
    (ho : o.op = .call { callee := .builtin .append, args := #[s, x], argTypes := #[sl, sl] })
    {a : Option Addr} {cap n : Nat} {xs : List Value} (h : Win sz w a cap n xs) (hn : n ≤ 1000000)
    (hs : act.eval s = .slice a n cap) (ad : Addr) (c : Nat) (hx : act.eval x = .slice (some ad) 1 c) (news : List Value) (hnl : news.length = sz) (hnews : ∀ j u, news[j]? = some u → w.cell? (ad.add j) = some u) (h1 : ∀ u ∈ news, u.oneCell' = true)
    (hk : ∀ a' cap' w', Win sz w' a' cap' (n + 1) (xs ++ news) → Only (bk a) w w' → (∀ k, bk a' k → bk a k ∨ w.heap.size ≤ k) → K (act.put o.dst (.slice a' (n + 1) cap')) w') :
    if Region.wanted o (yielded ops act.tmps) = true then Oper.wp Tryz.prog o act w K Q else F := by
  have hw : Region.wanted o (yielded ops act.tmps) = true := by simp [Region.wanted, hgd]
  rw [if_pos hw]
  obtain ⟨a', cap', w', hr, h2, h3, h4⟩ := run_append_win E h hn ad c news hnl hnews h1 o.type
  unfold Oper.wp execOp
  simp only [ho, resolve, invoke, builtin, Sem.run_bind, Sem.run_pure, Result.andThen_ok, List.map_toArray, List.map_cons, List.map_nil, hs, hx, hr]
  exact hk a' cap' w' h2 h3 h4
end Go.Proofs.YtnfpomjcofhppaaGreatDoor
