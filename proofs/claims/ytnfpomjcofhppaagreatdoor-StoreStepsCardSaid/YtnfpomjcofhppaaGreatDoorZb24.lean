/- tree's From, with what is known of the memory of its rows: it may be written. Trees and lists that are kept, one after the other. The store's copied: a catalog in new memory. -/
import Derived.Test.YtnfpomjcofhppaaGreatDoorZb23
namespace Go.Proofs.YtnfpomjcofhppaaGreatDoor
open Go.RowKit

/-- A row's block is known whole, and not frozen; it has room for what it holds. -/
def Fz (S : Nat → Prop) (W : World) (x : Rw) : Prop := x.l.length ≤ x.cap ∧ (x.l = [] ∨ ∃ b off cs T, x.a = some ⟨b, off, none⟩ ∧ S b ∧ b < W.heap.size ∧ W.heap[b]? = some (.cells cs T (0, 0)))
def RwF (S : Nat → Prop) (W : World) (x : Rw) : Prop := RwS S W x.a x.l ∧ Fz S W x
theorem RwF.keep {S : Nat → Prop} {w w' : World} {x : Rw} (h : RwF S w x) (hk : Stays S w w') : RwF S w' x :=
  ⟨h.1.keep hk, h.2.1, h.2.2.imp id fun ⟨b, off, cs, T, e, hs, hlt, hc⟩ => ⟨b, off, cs, T, e, hs, Nat.lt_of_lt_of_le hlt hk.1, (hk.2 b hs hlt).trans hc⟩⟩
theorem RwF.mono {S S' : Nat → Prop} {w : World} {x : Rw} (h : RwF S w x) (hs : ∀ b, b < w.heap.size → S b → S' b) : RwF S' w x :=
  ⟨h.1.mono hs, h.2.1, h.2.2.imp id fun ⟨b, off, cs, T, e, h1, hlt, hc⟩ => ⟨b, off, cs, T, e, hs b hlt h1, hlt, hc⟩⟩
theorem own_rwF {S : Nat → Prop} {B cap : Nat} {w : World} {a : Ptr} {l : List Vl} (h : w.ownsRow B 74 3 (.slice a l.length cap) l.length (l.flatMap vCT)) (hS : ∀ b, B ≤ b → S b) (hl : l.length ≤ 4294967296) (hs : ∀ x ∈ l, x.s.size ≤ maxLen) : RwF S w ⟨a, cap, l⟩ := by
  obtain ⟨a', cap', hv, hr⟩ := own_rw h hS hl hs
  cases hv
  refine ⟨hr, ?_⟩
  rcases h.2 with ⟨_, h0⟩ | ⟨g, cc, cur, e, hb, hg, hc, _⟩
  · exact ⟨by show l.length ≤ cap; omega, .inl (List.eq_nil_of_length_eq_zero h0)⟩
  · cases e
    exact ⟨hc, .inr ⟨g, 0, cur, _, rfl, hS g hb, (Array.getElem?_eq_some_iff.1 hg).1, hg⟩⟩
set_option maxRecDepth 100000 in
set_option maxHeartbeats 1600000 in
theorem clone2_any (S : Nat → Prop) (a : Option Addr) (cap : Nat) (l : List Vl) (w : World) (h : RowAt w a l) (hl : l.length ≤ 4294967296) (hS : ∀ b, w.heap.size ≤ b → S b) :
    Calls Tryz.prog 68 #[.slice a l.length cap] w fun e w' => (∃ a' cap', e = .returned (.slice a' l.length cap') ∧ RwF S w' ⟨a', cap', l⟩) ∧ w.grownBy w' none := by
  cases a with
  | none =>
    obtain rfl : l = [] := by
      rcases h.2.2 with h | ⟨b, off, e, _⟩
      · exact h
      · cases e
    have hE : ∀ w, (binOp .eql 55 (.slice none 0 cap) (.slice none 0 0)).run Tryz.prog w = .ok (.bool true) w := fun w => Lib.run_eql_slice_nil w _ _ _ _ _ _ _ Tryz.underlying55
    clear h hS hl
    go_enter Tryz.func68, Tryz.ntmps68
    go_wp2_with fail
    go_ret
    exact ⟨⟨none, 0, rfl, ⟨by simp, by simp, .inl rfl⟩, Nat.le_refl _, .inl rfl⟩, grown_reflT _ _⟩
  | some ad =>
    have HC : Hid (∀ W, w.grownBy W none → ∀ j u, (l.flatMap vCT)[j]? = some u → W.cell? (ad.add j) = some u) := Lib.hid fun W hW j u hj => by
      rcases h.2.2 with h0 | ⟨b, off, e, hlt, hc⟩
      · rw [h0] at hj; simp at hj
      · cases e
        have := vl_cells (w := W) (b := b) (off := off) (r := l) (fun i hi => ⟨hW.cell (hc i hi).1 (by simp), hW.cell (hc i hi).2.1 (by simp), hW.cell (hc i hi).2.2 (by simp)⟩) l.length 0 (by omega) j u (by simpa using hj)
        simpa using this
    have Hs := Lib.hid h.2.1
    have HL := Lib.hid (vCT_len l)
    obtain ⟨m, hm⟩ : ∃ m, m = l.length := ⟨_, rfl⟩
    have Hm := Lib.hid hm
    rw [← hm] at HL hl ⊢
    clear h hm
    obtain ⟨i0, hi, hz0, hz1, hz2⟩ := info_partsT val_infoT
    have hE : ∀ w, (binOp .eql 55 (.slice (some ad) m cap) (.slice none 0 0)).run Tryz.prog w = .ok (.bool false) w := fun w => Lib.run_eql_slice_nil w _ _ _ _ _ _ _ Tryz.underlying55
    go_enter Tryz.func68, Tryz.ntmps68
    go_wp2_with (at_builtin; refine wpList_append_own _ rfl _ _ 55 rfl w.heap.size 74 i0 (.agg #[.int .i64 0, .int .i64 0, .string ⟨#[]⟩]) 3 32 Tryz.underlying55 hi hz0 hz1 hz2 rfl (by decide) _ 0 [] rfl (own_madeT _ _ w _ _ rfl (Nat.le_refl _)) ad m cap (l.flatMap vCT) rfl HL.out ?c1 ?c2 ?c3 ?c4 ?c5 ?_)
    case c1 => exact HC.out _ (World.grownBy_alloc _ _ _)
    case c2 => exact vCT_one _
    case c3 => unfold maxLen; omega
    case c4 => omega
    case c5 => simp
    intro v' w3 hown' hgrow _
    have K3 := Lib.hid (grown_thenT (World.grownBy_alloc w _ none) hgrow (by intro j hj; simp [Value.ownBlock] at hj; omega))
    have O3 := Lib.hid (show w3.ownsRow w.heap.size 74 3 v' l.length (l.flatMap vCT) by rw [← Hm.out]; simpa using hown')
    clear hown' hgrow
    go_wp2_with fail
    go_ret
    obtain ⟨a', cap', hv, hr⟩ := own_rw O3.out hS (by rw [← Hm.out]; exact hl) Hs.out
    have O4 := O3.out
    rw [hv] at O4
    have hF := own_rwF O4 hS (by rw [← Hm.out]; exact hl) Hs.out
    rw [← Hm.out] at hv
    exact ⟨⟨a', cap', congrArg Ending.returned hv, hF⟩, K3.out⟩
structure FromInv2 (w : World) (kp pp dp : Nat) (ka : Ptr) (kc : Nat) (key : List Vl) (R : List (List Vl)) (vo : Value) (wr : World) (v : Value) (xs : List (Ptr × Tre)) (done : List Rw) (rest : List (List Vl × List Vl)) : Prop where
  wlk : Wlk (fun b => b < w.heap.size) w.heap.size wr kp pp dp ka kc key v xs
  rem : remS key xs = rest
  all : done.map Rw.l ++ rest.map Prod.snd = R
  own : wr.ownsRow w.heap.size 55 1 vo done.length (done.map Rw.v)
  rows : ∀ x ∈ done, RwF (Sr w pp v vo) wr x
  o_pp : vo.ownBlock ≠ some pp
  o_kp : vo.ownBlock ≠ some kp
  o_dp : vo.ownBlock ≠ some dp
  o_v : ∀ g, vo.ownBlock = some g → v.ownBlock ≠ some g
  grown : w.grownBy wr none
/-- The walk has gone on. -/
theorem FromInv2.next {w : World} {kp pp dp : Nat} {ka : Ptr} {kc : Nat} {key : List Vl} {R : List (List Vl)} {vo : Value} {wr w1 : World} {v v' : Value} {xs xs' : List (Ptr × Tre)} {done : List Rw} {k r : List Vl} {rest : List (List Vl × List Vl)} (h : FromInv2 w kp pp dp ka kc key R vo wr v xs done ((k, r) :: rest))
    (hw : Wlk (fun b => b < w.heap.size) w.heap.size w1 kp pp dp ka kc key v' xs') (hg : ∀ g, v'.ownBlock = some g → v.ownBlock = some g ∨ wr.heap.size ≤ g) (ho : Only (Wlk.M pp v) wr w1) :
    w1.ownsRow w.heap.size 55 1 vo done.length (done.map Rw.v) ∧ (∀ x ∈ done, RwF (Sr w pp v' vo) w1 x) ∧ (∀ g, vo.ownBlock = some g → v'.ownBlock ≠ some g) ∧ w.grownBy w1 none := by
  have hvo : ∀ g, vo.ownBlock = some g → g < wr.heap.size := fun g hg => (World.ownsRow.lt h.own g hg).2
  refine ⟨own_only h.own ho (fun g hg' hm => ?_), fun x hx => ?_, fun g hg' hv => ?_, only_grown h.grown ho (fun b hb => ?_)⟩
  · rcases hm with rfl | hm
    · exact h.o_pp hg'
    · exact h.o_v g hg' hm
  · have h1 := (h.rows x hx).mono (S' := fun b => Sr w pp v vo b ∧ Sr w pp v' vo b) (fun b hb hs => ⟨hs, hs.1, hs.2.1, fun e => by
      rcases hg b e with q | q
      · exact hs.2.2.1 q
      · omega, hs.2.2.2⟩)
    refine (h1.keep (ho.stays (fun b hs _ hm => ?_))).mono (fun b _ hs => hs.2)
    rcases hm with rfl | hm
    · exact hs.1.2.1 rfl
    · exact hs.1.2.2.1 hm
  · rcases hg g hv with q | q
    · exact h.o_v g hg' q
    · have := hvo g hg'; omega
  · rcases hb with rfl | hb
    · exact h.wlk.bp
    · exact (World.ownsRow.lt h.wlk.own b hb).1
/-- A row has been appended. -/
theorem FromInv2.push {w : World} {kp pp dp : Nat} {ka : Ptr} {kc : Nat} {key : List Vl} {R : List (List Vl)} {vo : Value} {wr w1 w2 w4 : World} {v v' : Value} {xs xs' : List (Ptr × Tre)} {done : List Rw} {k r : List Vl} {rest : List (List Vl × List Vl)} (h : FromInv2 w kp pp dp ka kc key R vo wr v xs done ((k, r) :: rest))
    (hw : Wlk (fun b => b < w.heap.size) w.heap.size w1 kp pp dp ka kc key v' xs') (hg : ∀ g, v'.ownBlock = some g → v.ownBlock = some g ∨ wr.heap.size ≤ g) (ho : Only (Wlk.M pp v) wr w1) (hr : remS key xs' = rest)
    {ra : Ptr} {rc : Nat} (hrow : RwF (fun b => w1.heap.size ≤ b) w2 ⟨ra, rc, r⟩) (h12 : w1.grownBy w2 none) {o : Obj} {g cap : Nat}
    (hown : w4.ownsRow w.heap.size 55 1 (.slice (some ⟨g, 0, none⟩) (done.length + 1) cap) (done.length + 1) (done.map Rw.v ++ [.slice ra r.length rc])) (hgr : (w2.alloc o).grownBy w4 vo.ownBlock) (hgb : vo.ownBlock = some g ∨ g = (w2.alloc o).heap.size) :
    FromInv2 w kp pp dp ka kc key R (.slice (some ⟨g, 0, none⟩) (done.length + 1) cap) w4 v' xs' (done ++ [⟨ra, rc, r⟩]) rest := by
  obtain ⟨a1, a2, a3, a4⟩ := h.next hw hg ho
  have g13 : w1.grownBy (w2.alloc o) none := h12.trans (World.grownBy_alloc w2 o none)
  have hw3 := hw.grown g13
  have o34 : Only (fun b => vo.ownBlock = some b) (w2.alloc o) w4 := (Only.refl _ _).grown hgr (fun j hj => .inl hj)
  have hvo : ∀ b, vo.ownBlock = some b → w.heap.size ≤ b ∧ b < wr.heap.size := fun b hb => World.ownsRow.lt h.own b hb
  have hw4 := hw3.keep o34 (fun b hb => ⟨(hvo b hb).1, fun e => h.o_kp (by rw [hb, e]), fun e => h.o_pp (by rw [hb, e]), fun e => h.o_dp (by rw [hb, e]), a3 b hb⟩)
  obtain ⟨l1, l2, l3⟩ := hw.lt
  have s12 := h12.size
  have s01 := ho.size
  have s3 : (w2.alloc o).heap.size = w2.heap.size + 1 := by simp
  have hv' : ∀ b, v'.ownBlock = some b → b < w1.heap.size := fun b hb => (World.ownsRow.lt hw.own b hb).2
  refine ⟨hw4, hr, ?_, ?_, fun x hx => ?_, fun e => ?_, fun e => ?_, fun e => ?_, fun b hb e => ?_, ?_⟩
  · rw [← h.all]; simp
  · rw [List.length_append, List.map_append]; exact hown
  · rcases List.mem_append.1 hx with hx | hx
    · have b1 := (a2 x hx).keep (.of g13)
      have b2 := (a2 x hx).mono (S' := fun b => b < w1.heap.size ∧ Sr w pp v' vo b) (fun b hb hs => ⟨hb, hs⟩)
      refine ((b2.keep (.of g13)).keep (o34.stays (fun b hs _ hm => hs.2.2.2.2 hm))).mono (fun b _ hs => ⟨hs.2.1, hs.2.2.1, hs.2.2.2.1, fun e => ?_⟩)
      have e' : g = b := by simpa [Value.ownBlock] using e
      rcases hgb with q | q
      · exact hs.2.2.2.2 (by rw [q, e'])
      · have := hs.1; omega
    · obtain rfl := List.mem_singleton.1 hx
      have b2 := hrow.mono (S' := fun b => b < w2.heap.size ∧ w1.heap.size ≤ b) (fun b hb hs => ⟨hb, hs⟩)
      refine ((b2.keep (.of (World.grownBy_alloc w2 o none))).keep (o34.stays (fun b hs _ hm => by have := (hvo b hm).2; have := hs.2; omega))).mono (fun b _ hs => ⟨by have := a4.size; have := hs.2; omega, fun e => by have := hs.2; omega, fun e => by have := hv' b e; have := hs.2; omega, fun e => ?_⟩)
      have e' : g = b := by simpa [Value.ownBlock] using e
      rcases hgb with q | q
      · have := (hvo g q).2; have := hs.2; omega
      · have := hs.1; omega
  · have e' : g = pp := by simpa [Value.ownBlock] using e
    rcases hgb with q | q
    · exact h.o_pp (by rw [q, e'])
    · omega
  · have e' : g = kp := by simpa [Value.ownBlock] using e
    rcases hgb with q | q
    · exact h.o_kp (by rw [q, e'])
    · omega
  · have e' : g = dp := by simpa [Value.ownBlock] using e
    rcases hgb with q | q
    · exact h.o_dp (by rw [q, e'])
    · omega
  · have e' : g = b := by simpa [Value.ownBlock] using hb
    subst e'
    rcases hgb with q | q
    · exact a3 g q e
    · have := hv' g e; omega
  · exact only_grown (a4.trans g13) o34 (fun b hb => (hvo b hb).1)
set_option maxRecDepth 100000 in
set_option maxHeartbeats 6400000 in
theorem from2_any (hc : Tr.IsOrd rowsOrd) (S : Nat → Prop) (t : Tre) (p : Ptr) (ka : Ptr) (kc : Nat) (key : List Vl) (n : Int) (w : World) (ht : TrAt S w t p) (hs : Tr.Sorted rowsOrd t.toL) (hn : t.n ≤ 100000000) (hk : RowAt w ka key) (hkl : key.length ≤ 4294967296) :
    Calls Tryz.prog 52 #[.pointer p, .slice ka key.length kc, .int .i64 n] w fun e w' => (∃ (vo : Value) (done : List Rw), e = .returned vo ∧ w'.ownsRow w.heap.size 55 1 vo done.length (done.map Rw.v) ∧ (∀ x ∈ done, RwF (fun b => w.heap.size ≤ b ∧ vo.ownBlock ≠ some b) w' x) ∧ done.map Rw.l = ((fromL key t.toL).map Prod.snd).take n.toNat) ∧ w.grownBy w' none := by
  have HW := Lib.hid (walk_any hc S t p ka kc key w ht hs (by omega) hk hkl)
  have HC := Lib.hid hc
  have hR : (fromL key t.toL).length ≤ t.n := by rw [Tr.n_toL]; exact List.length_filter_le _ _
  obtain ⟨R, hRe⟩ : ∃ R, R = (fromL key t.toL).map Prod.snd := ⟨_, rfl⟩
  have HRe := Lib.hid hRe
  have hRl : R.length ≤ 100000000 := by rw [hRe, List.length_map]; omega
  obtain ⟨i0, hi, hz0, hz1, hz2⟩ := info_partsT row_info
  rw [← hRe]
  generalize hm : key.length = m0 at *
  clear ht hs hn hk hkl hR hRe hc
  go_enter Tryz.func52, Tryz.ntmps52
  go_wp2_with fail
  refine HW.out.mono ?_
  rintro e w1 ⟨⟨v1, xs1, rfl, hw, hr, hl⟩, hg⟩
  have I0 := Lib.hid (show ∃ (v : Value) (xs : List (Ptr × Tre)) (done : List Rw) (rest : List (List Vl × List Vl)), FromInv2 w w.heap.size (w.heap.size + 1) (w.heap.size + 1 + 1) ka kc key R (.slice none 0 0) w1 v xs done rest ∧ done.length = 0 ∧ ((0 : Nat) = 0 ∨ ((0 : Nat) : Int) ≤ n) from ⟨v1, xs1, [], _, ⟨hw, hr, by rw [HRe.out]; rfl, World.ownsRow_nil _ _ _ _, by simp, by simp [Value.ownBlock], by simp [Value.ownBlock], by simp [Value.ownBlock], by simp [Value.ownBlock], hg⟩, rfl, .inl rfl⟩)
  clear hw hr hl hg HW
  go_wp2_with fail
  go_loopw [7] (fun s wr => ∃ (ao : Ptr) (m co : Nat), s = .slice ao m co ∧ m ≤ 100000000 ∧ Hid (∃ (v : Value) (xs : List (Ptr × Tre)) (done : List Rw) (rest : List (List Vl × List Vl)), FromInv2 w w.heap.size (w.heap.size + 1) (w.heap.size + 1 + 1) ka kc key R (.slice ao m co) wr v xs done rest ∧ done.length = m ∧ (m = 0 ∨ (m : Int) ≤ n))) (fun s _ => R.length + 1 - slLen s)
  case atStart =>
    refine ⟨none, 0, 0, rfl, by omega, Lib.hid ?_⟩
    obtain ⟨q1, q2, q3, q4, q5, q6, _⟩ := I0.out
    exact ⟨q1, q2, q3, q4, q5, q6, .inl rfl⟩
  case round =>
    obtain ⟨ao, m, co, rfl, hm8, I⟩ := hrel
    clear I0
    by_cases hlt : (m : Int) < n
    · obtain ⟨v, xs, done, rest, hI, hdl, hmn⟩ := I.out
      cases rest with
      | nil =>
        have HN := Lib.hid (next_none _ _ _ _ _ _ _ _ _ _ _ hI.wlk hI.rem)
        have HI := Lib.hid (And.intro hI (And.intro hdl hmn))
        clear hI hdl hmn I
        go_wp2_with fail
        refine HN.out.mono ?_
        rintro e w2 ⟨rfl, rfl⟩
        go_wp2_with fail
        go_ret
        obtain ⟨hI, hdl, hmn⟩ := HI.out
        refine ⟨⟨_, done, rfl, by have := hI.own; rw [hdl] at this ⊢; exact this, fun x hx => (hI.rows x hx).mono (fun b _ hs => ⟨hs.1, hs.2.2.2⟩), ?_⟩, hI.grown⟩
        have := hI.all
        simp only [List.map_nil, List.append_nil] at this
        rw [this, List.take_of_length_le]
        rw [← this, List.length_map]
        omega
      | cons kr rest =>
        obtain ⟨k, r⟩ := kr
        have hrl : rest.length ≤ 400000000 := by
          have := congrArg List.length hI.all
          simp at this
          omega
        have hml : m + 1 ≤ R.length := by
          have := congrArg List.length hI.all
          simp at this
          omega
        have HN := Lib.hid (next_more HC.out _ _ _ _ _ _ _ _ _ _ _ k r rest hI.wlk hI.rem hrl)
        have HI := Lib.hid (And.intro hI (And.intro hdl hmn))
        have hB0 : w.heap.size ≤ wr.heap.size := hI.grown.size
        clear hI hmn I hrl
        go_wp2_with fail
        refine HN.out.mono ?_
        rintro e w2 ⟨⟨px, rfl, hp⟩, ⟨v', xs', hw', hg', hr'⟩, ho⟩
        obtain ⟨b, ka', kc', va, vc, rfl, hb, hb2, c0, c1, h1, h2⟩ := hp
        have HCl := Lib.hid (clone2_any (fun b => w2.heap.size ≤ b) va vc r w2 h2.row h2.1 (fun b hb => hb))
        have E := Lib.hid (And.intro hw' (And.intro hg' (And.intro hr' ho)))
        have hB2 : w.heap.size ≤ w2.heap.size := Nat.le_trans hB0 ho.size
        have O2 := Lib.hid (HI.out.1.next hw' hg' ho).1
        clear hw' hg' hr' ho h1 h2 hb hb2
        obtain ⟨rn, hrn⟩ : ∃ rn, rn = r.length := ⟨_, rfl⟩
        have Hrn := Lib.hid hrn
        rw [← hrn] at c1 HCl
        clear hrn
        go_wp2_with fail
        refine HCl.out.mono ?_
        rintro e w3 ⟨⟨ra, rc, rfl, hrow⟩, hg3⟩
        have ER := Lib.hid (And.intro hrow hg3)
        have O3 := Lib.hid (World.ownsRow.kept O2.out hg3 (by cases (Value.slice ao m co).ownBlock <;> simp))
        have hB3 : w.heap.size ≤ w3.heap.size := Nat.le_trans hB2 hg3.size
        rw [hdl] at O3
        clear hrow hg3 c0 c1 O2
        go_wp2_with (at_builtin; refine wpList_append_lies _ rfl _ _ 51 rfl w.heap.size 55 i0 (.slice none 0 0) 1 24 Tryz.underlying51 hi hz0 hz1 hz2 rfl (by decide) (.slice ao m co) m (done.map Rw.v) rfl (World.ownsRow.alloc O3.out _) ⟨w3.heap.size, 0, none⟩ 1 1 [.slice ra rn rc] rfl rfl (one_atT (cell_of_row _ _ 0 _ _ _ (heap_alloc_new w3 _))) (one_oneS _ _ _) (by decide) (by unfold maxLen; omega) (by omega) (by simp; omega) _ rfl ?_)
        intro g cap w4 hown4 hgrow4 hgb hg4
        have EF := Lib.hid (And.intro hown4 (And.intro hgrow4 hgb))
        clear hown4 hgrow4 hgb hg4
        go_wp2_with fail
        go_roundw
        case rel =>
          obtain ⟨hI, hdl, hmn⟩ := HI.out
          obtain ⟨hw', hg', hr', ho⟩ := E.out
          obtain ⟨hrow, hg3⟩ := ER.out
          obtain ⟨hown4, hgrow4, hgb⟩ := EF.out
          rw [Hrn.out, ← hdl] at hown4
          have hp := hI.push hw' hg' ho hr' hrow hg3 hown4 hgrow4 (hgb.imp id (fun e => by rw [e]; simp))
          rw [hdl] at hp
          exact ⟨some ⟨g, 0, none⟩, m + 1, cap, rfl, by omega, Lib.hid ⟨v', xs', _, rest, hp, by simp [hdl], .inr (by omega)⟩⟩
        case measure => simp only [slLen]; omega
    · have HI := I
      clear I
      go_wp2_with fail
      go_ret
      obtain ⟨v, xs, done, rest, hI, hdl, hmn⟩ := HI.out
      refine ⟨⟨_, rfl, done, by have := hI.own; rw [hdl] at this ⊢; exact this, fun x hx => (hI.rows x hx).mono (fun b _ hs => ⟨hs.1, hs.2.2.2⟩), ?_⟩, hI.grown⟩
      rw [← hI.all, List.take_left']
      rw [List.length_map, hdl]
      omega
end Go.Proofs.YtnfpomjcofhppaaGreatDoor
namespace Go.Proofs.YtnfpomjcofhppaaGreatDoor
open Go.RowKit

structure St where
  t : Tre
  p : Ptr
  a : Ptr
  cap : Nat
  l : List Pw
instance : Inhabited St := ⟨⟨.nil, none, none, 0, []⟩⟩
def St.pv (s : St) : Value := .pointer s.p
def St.lv (s : St) : Value := .slice s.a s.l.length s.cap
def St.at (S : Nat → Prop) (W : World) (s : St) : Prop := TrAt S W s.t s.p ∧ PsS S W s.a s.l ∧ s.l.length ≤ s.cap ∧ Eq7 s.t s.l 90000
theorem St.at.keep {S : Nat → Prop} {w w' : World} {s : St} (h : s.at S w) (hk : Stays S w w') : s.at S w' := ⟨h.1.keep hk, h.2.1.keep hk, h.2.2⟩
theorem St.at.mono {S S' : Nat → Prop} {w : World} {s : St} (h : s.at S w) (hs : ∀ b, b < w.heap.size → S b → S' b) : s.at S' w := ⟨h.1.mono hs, h.2.1.mono hs, h.2.2⟩
def blk (x : Ptr) : Option Nat := x.map Addr.block
theorem own_blk (x : Ptr) (n c : Nat) : (Value.slice x n c).ownBlock = blk x := by cases x <;> rfl
/-- All blocks but two. -/
def Sx (x y : Ptr) : Nat → Prop := fun b => blk x ≠ some b ∧ blk y ≠ some b
structure Hist (B : Nat) (W : World) (x y : Ptr) (i c d : Nat) (hs : List St) : Prop where
  len : hs.length = i
  own3 : W.ownsRow B 79 1 (.slice x i c) i (hs.map St.pv)
  own4 : W.ownsRow B 56 1 (.slice y i d) i (hs.map St.lv)
  apart : ∀ b, blk x = some b → blk y ≠ some b
  at_ : ∀ s ∈ hs, s.at (Sx x y) W
theorem Hist.nil (B : Nat) (W : World) : Hist B W none none 0 0 0 [] := ⟨rfl, World.ownsRow_nil _ _ _ _, World.ownsRow_nil _ _ _ _, (fun b h => by cases h), by simp⟩
theorem stays_sx {w w' : World} (x y : Ptr) (h : w.grownBy w' none) : Stays (Sx x y) w w' := .of h
theorem Hist.keep {B : Nat} {W W' : World} {x y : Ptr} {i c d : Nat} {hs : List St} (h : Hist B W x y i c d hs) (hg : W.grownBy W' none) : Hist B W' x y i c d hs :=
  ⟨h.len, World.ownsRow.kept h.own3 hg (by cases (Value.slice x i c).ownBlock <;> simp), World.ownsRow.kept h.own4 hg (by cases (Value.slice y i d).ownBlock <;> simp), h.apart, fun s hs' => (h.at_ s hs').keep (.of hg)⟩
theorem Hist.lt {B : Nat} {W : World} {x y : Ptr} {i c d : Nat} {hs : List St} (h : Hist B W x y i c d hs) : (∀ b, blk x = some b → B ≤ b ∧ b < W.heap.size) ∧ (∀ b, blk y = some b → B ≤ b ∧ b < W.heap.size) :=
  ⟨fun b hb => World.ownsRow.lt h.own3 b (by rw [own_blk]; exact hb), fun b hb => World.ownsRow.lt h.own4 b (by rw [own_blk]; exact hb)⟩
theorem Hist.sx {B : Nat} {W : World} {x y : Ptr} {i c d : Nat} {hs : List St} (h : Hist B W x y i c d hs) : ∀ b, W.heap.size ≤ b → Sx x y b :=
  fun b hb => ⟨fun e => by have := (h.lt.1 b e).2; omega, fun e => by have := (h.lt.2 b e).2; omega⟩
theorem Hist.push {B : Nat} {W Wa Wb Wc Wd : World} {x y : Ptr} {i c d g c' g' d' : Nat} {hs : List St} {s : St} (h : Hist B W x y i c d hs) (hs' : s.at (Sx x y) W)
    (ha : W.grownBy Wa none) (hown : Wb.ownsRow B 79 1 (.slice (some ⟨g, 0, none⟩) (i + 1) c') (i + 1) (hs.map St.pv ++ [s.pv])) (hb : Wa.grownBy Wb (blk x)) (hg : blk x = some g ∨ g = Wa.heap.size) (hgl : g < Wb.heap.size)
    (hc : Wb.grownBy Wc none) (hown' : Wd.ownsRow B 56 1 (.slice (some ⟨g', 0, none⟩) (i + 1) d') (i + 1) (hs.map St.lv ++ [s.lv])) (hd : Wc.grownBy Wd (blk y)) (hg' : blk y = some g' ∨ g' = Wc.heap.size) :
    Hist B Wd (some ⟨g, 0, none⟩) (some ⟨g', 0, none⟩) (i + 1) c' d' (hs ++ [s]) ∧ s.at (Sx (some ⟨g, 0, none⟩) (some ⟨g', 0, none⟩)) Wd ∧ (∀ W0 : World, W0.grownBy W none → W0.heap.size ≤ B → W0.grownBy Wd none) := by
  have lx := h.lt.1
  have ly := h.lt.2
  have s1 := ha.size
  have s2 := hb.size
  have s3 := hc.size
  have s4 := hd.size
  have hgy : blk y ≠ some g := fun e => by
    rcases hg with e' | e'
    · exact h.apart g e' e
    · have := (ly g e).2; omega
  have hgg : g ≠ g' := fun e => by
    rcases hg' with e' | e'
    · rw [← e] at e'; exact hgy e'
    · omega
  have hst : ∀ b, b < W.heap.size → Sx x y b → Wd.heap[b]? = W.heap[b]? := fun b hlt hsx => by
    rw [hd.block b (by omega) (fun e => hsx.2 e.symm), hc.block b (by omega) (by simp), hb.block b (by omega) (fun e => hsx.1 e.symm), ha.block b hlt (by simp)]
  have hall : ∀ s : St, s.at (Sx x y) W → s.at (Sx (some ⟨g, 0, none⟩) (some ⟨g', 0, none⟩)) Wd := fun s hs => by
    refine ((hs.mono (S' := fun b => Sx x y b ∧ b < W.heap.size) (fun b hlt h => ⟨h, hlt⟩)).keep (w' := Wd) ⟨by omega, fun b hS hlt => hst b hlt hS.1⟩).mono (fun b _ hS => ⟨fun e => ?_, fun e => ?_⟩)
    · have e : g = b := by simpa [blk] using e
      rcases hg with e' | e'
      · exact hS.1.1 (by rw [e', e])
      · have := hS.2; omega
    · have e : g' = b := by simpa [blk] using e
      rcases hg' with e' | e'
      · exact hS.1.2 (by rw [e', e])
      · have := hS.2; omega
  refine ⟨⟨by rw [List.length_append, h.len]; rfl, ?_, ?_, fun b e e' => ?_, fun t ht => ?_⟩, hall s hs', fun W0 h0 hB => ?_⟩
  · rw [List.map_append]
    exact World.ownsRow.kept (World.ownsRow.kept hown hc (.inr (by simp [Value.ownBlock]))) hd (.inr fun e => hgy (by rw [← e]; rfl))
  · rw [List.map_append]; exact hown'
  · have e1 : g = b := by simpa [blk] using e
    have e2 : g' = b := by simpa [blk] using e'
    omega
  · rw [List.mem_append] at ht
    rcases ht with ht | ht
    · exact hall t (h.at_ t ht)
    · obtain rfl := List.mem_singleton.1 ht
      exact hall _ hs'
  · refine grown_thenT (grown_thenT (h0.trans ha) hb (fun b e => ?_)|>.trans hc) hd (fun b e => ?_)
    · have := (lx b e).1; omega
    · have := (ly b e).1; omega
end Go.Proofs.YtnfpomjcofhppaaGreatDoor
namespace Go.Proofs.YtnfpomjcofhppaaGreatDoor
open Go.RowKit

def Cl.c (x : Cl) : List Value := [.string x.n, .int .i64 x.k, .bool x.b]
theorem cl_len (l : List Cl) : (l.flatMap Cl.c).length = l.length * 3 := by
  induction l with
  | nil => rfl
  | cons x l ih => rw [List.flatMap_cons, List.length_append, ih]; simp [Cl.c]; omega
theorem cl_at (l : List Cl) : ∀ i, i < l.length → (l.flatMap Cl.c)[i * 3]? = some (.string (l.getD i default).n) ∧ (l.flatMap Cl.c)[i * 3 + 1]? = some (.int .i64 (l.getD i default).k) ∧ (l.flatMap Cl.c)[i * 3 + 2]? = some (.bool (l.getD i default).b) := by
  induction l with
  | nil => intro i hi; simp at hi
  | cons x l ih =>
    intro i hi
    rw [List.flatMap_cons]
    match i, hi with
    | 0, _ => exact ⟨rfl, rfl, rfl⟩
    | i + 1, hi =>
      have := ih i (by simpa using hi)
      have e : ∀ o, (Cl.c x ++ l.flatMap Cl.c)[(i + 1) * 3 + o]? = (l.flatMap Cl.c)[i * 3 + o]? := fun o => by
        rw [List.getElem?_append_right (by simp [Cl.c]; omega)]
        congr 1
        simp [Cl.c]
        omega
      have e0 := e 0
      simp only [Nat.add_zero] at e0
      rw [e0, e 1, e 2]
      simpa [List.getD] using this
theorem cl_one (l : List Cl) : ∀ u ∈ l.flatMap Cl.c, u.oneCell' = true := by
  intro u hu
  rw [List.mem_flatMap] at hu
  obtain ⟨x, _, hu⟩ := hu
  simp only [Cl.c, List.mem_cons, List.not_mem_nil, or_false] at hu
  rcases hu with rfl | rfl | rfl <;> rfl
theorem cl_info : (Tryz.prog.info? 114).map (fun i => (i.zero, i.size, i.bytes)) = some (some (.agg #[.string ⟨#[]⟩, .int .i64 0, .bool false]), 3, 32) := by kernel_rfl
def Tb.c (x : Tb) : List Value := [.string x.n, .slice x.a x.l.length x.cap, .int .i64 x.k]
def Tb.p (x : Tb) : ByteArray × List Cl × Int := (x.n, x.l, x.k)
theorem tb_len (l : List Tb) : (l.flatMap Tb.c).length = l.length * 3 := by
  induction l with
  | nil => rfl
  | cons x l ih => rw [List.flatMap_cons, List.length_append, ih]; simp [Tb.c]; omega
theorem tb_at (l : List Tb) : ∀ i, i < l.length → (l.flatMap Tb.c)[i * 3]? = some (.string (l.getD i default).n) ∧ (l.flatMap Tb.c)[i * 3 + 1]? = some (.slice (l.getD i default).a (l.getD i default).l.length (l.getD i default).cap) ∧ (l.flatMap Tb.c)[i * 3 + 2]? = some (.int .i64 (l.getD i default).k) := by
  induction l with
  | nil => intro i hi; simp at hi
  | cons x l ih =>
    intro i hi
    rw [List.flatMap_cons]
    match i, hi with
    | 0, _ => exact ⟨rfl, rfl, rfl⟩
    | i + 1, hi =>
      have := ih i (by simpa using hi)
      have e : ∀ o, (Tb.c x ++ l.flatMap Tb.c)[(i + 1) * 3 + o]? = (l.flatMap Tb.c)[i * 3 + o]? := fun o => by
        rw [List.getElem?_append_right (by simp [Tb.c]; omega)]
        congr 1
        simp [Tb.c]
        omega
      have e0 := e 0
      simp only [Nat.add_zero] at e0
      rw [e0, e 1, e 2]
      simpa [List.getD] using this
theorem tb_one (l : List Tb) : ∀ u ∈ l.flatMap Tb.c, u.oneCell' = true := by
  intro u hu
  rw [List.mem_flatMap] at hu
  obtain ⟨x, _, hu⟩ := hu
  simp only [Tb.c, List.mem_cons, List.not_mem_nil, or_false] at hu
  rcases hu with rfl | rfl | rfl <;> rfl
theorem tb_info : (Tryz.prog.info? 50).map (fun i => (i.zero, i.size, i.bytes)) = some (some (.agg #[.string ⟨#[]⟩, .slice none 0 0, .int .i64 0]), 3, 48) := by kernel_rfl
/-- Cells of three, one element after the other. -/
theorem three_cells {w : World} {b off n : Nat} {xs : List Value} {f : Nat → Value × Value × Value} (hl : xs.length = n * 3) (hx : ∀ i, i < n → xs[i * 3]? = some (f i).1 ∧ xs[i * 3 + 1]? = some (f i).2.1 ∧ xs[i * 3 + 2]? = some (f i).2.2)
    (hc : ∀ i, i < n → w.cell? ⟨b, off + i * 3, none⟩ = some (f i).1 ∧ w.cell? ⟨b, off + i * 3 + 1, none⟩ = some (f i).2.1 ∧ w.cell? ⟨b, off + i * 3 + 2, none⟩ = some (f i).2.2) : ∀ j u, xs[j]? = some u → w.cell? ((⟨b, off, none⟩ : Addr).add j) = some u := by
  intro j u hj
  have hjl : j < n * 3 := by have := (List.getElem?_eq_some_iff.1 hj).1; omega
  have hk := hx (j / 3) (by omega)
  have hcc := hc (j / 3) (by omega)
  rw [add_atT]
  obtain h3 | h3 | h3 : j = j / 3 * 3 ∨ j = j / 3 * 3 + 1 ∨ j = j / 3 * 3 + 2 := by omega
  · rw [h3] at hj ⊢
    rw [hk.1] at hj; cases hj; exact hcc.1
  · rw [h3] at hj ⊢
    rw [show off + (j / 3 * 3 + 1) = off + j / 3 * 3 + 1 by omega]
    rw [hk.2.1] at hj; cases hj; exact hcc.2.1
  · rw [h3] at hj ⊢
    rw [show off + (j / 3 * 3 + 2) = off + j / 3 * 3 + 2 by omega]
    rw [hk.2.2] at hj; cases hj; exact hcc.2.2
theorem cls_cells {S : Nat → Prop} {w : World} {ad : Addr} {l : List Cl} (h : ClsS S w (some ad) l) : ∀ j u, (l.flatMap Cl.c)[j]? = some u → w.cell? (ad.add j) = some u := by
  rcases h.2 with h0 | ⟨b, off, e, _, hlt, hc⟩
  · intro j u hj; rw [h0] at hj; simp at hj
  · cases e
    exact three_cells (n := l.length) (f := fun i => (.string (l.getD i default).n, .int .i64 (l.getD i default).k, .bool (l.getD i default).b)) (cl_len l) (cl_at l) hc
theorem tbs_cells {S : Nat → Prop} {w : World} {ad : Addr} {l : List Tb} (h : TbsS S w (some ad) l) : ∀ j u, (l.flatMap Tb.c)[j]? = some u → w.cell? (ad.add j) = some u := by
  rcases h.2.2 with h0 | ⟨b, off, e, _, hlt, hc⟩
  · intro j u hj; rw [h0] at hj; simp at hj
  · cases e
    exact three_cells (n := l.length) (f := fun i => (.string (l.getD i default).n, .slice (l.getD i default).a (l.getD i default).l.length (l.getD i default).cap, .int .i64 (l.getD i default).k)) (tb_len l) (tb_at l) hc
theorem own_cls {S : Nat → Prop} {B n : Nat} {w : World} {v : Value} {l : List Cl} (h : w.ownsRow B 114 3 v n (l.flatMap Cl.c)) (hn : n = l.length) (hS : ∀ b, B ≤ b → S b) (hl : l.length ≤ 9223372036854775807) : ∃ a cap, v = .slice a n cap ∧ n ≤ cap ∧ ClsS S w a l := by
  subst hn
  rcases h.2 with ⟨hv, h0⟩ | ⟨g, cap, cur, hv, hb, hg, hc, _⟩
  · exact ⟨none, 0, by rw [hv, h0], by omega, hl, .inl (List.eq_nil_of_length_eq_zero h0)⟩
  · have hlt := (h.lt g (by rw [hv]; rfl)).2
    refine ⟨some ⟨g, 0, none⟩, cap, hv, hc, hl, .inr ⟨g, 0, rfl, hS g hb, hlt, fun i hi => ?_⟩⟩
    have c := h.cells (g := g) (by rw [hv]; rfl)
    have k := cl_at l i hi
    have c0 := c _ _ k.1
    have c1 := c _ _ k.2.1
    have c2 := c _ _ k.2.2
    rw [add_atT] at c0 c1 c2
    exact ⟨c0, c1, c2⟩
theorem own_tbs {S : Nat → Prop} {B n : Nat} {w : World} {v : Value} {l : List Tb} (h : w.ownsRow B 50 3 v n (l.flatMap Tb.c)) (hn : n = l.length) (hS : ∀ b, B ≤ b → S b) (hl : l.length ≤ 9223372036854775807) (hs : ∀ t ∈ l, ClsS S w t.a t.l) : ∃ a cap, v = .slice a n cap ∧ n ≤ cap ∧ TbsS S w a l := by
  subst hn
  rcases h.2 with ⟨hv, h0⟩ | ⟨g, cap, cur, hv, hb, hg, hc, _⟩
  · exact ⟨none, 0, by rw [hv, h0], by omega, hl, hs, .inl (List.eq_nil_of_length_eq_zero h0)⟩
  · have hlt := (h.lt g (by rw [hv]; rfl)).2
    refine ⟨some ⟨g, 0, none⟩, cap, hv, hc, hl, hs, .inr ⟨g, 0, rfl, hS g hb, hlt, fun i hi => ?_⟩⟩
    have c := h.cells (g := g) (by rw [hv]; rfl)
    have k := tb_at l i hi
    have c0 := c _ _ k.1
    have c1 := c _ _ k.2.1
    have c2 := c _ _ k.2.2
    rw [add_atT] at c0 c1 c2
    exact ⟨c0, c1, c2⟩
set_option maxRecDepth 100000 in
set_option maxHeartbeats 1600000 in
theorem cloneCl_any (S : Nat → Prop) (a : Option Addr) (cap : Nat) (l : List Cl) (w : World) (h : ClsS S w a l) (hl : l.length ≤ 100) :
    Calls Tryz.prog 57 #[.slice a l.length cap] w fun e w' => (∃ a' cap', e = .returned (.slice a' l.length cap') ∧ l.length ≤ cap' ∧ ClsS (fun b => w.heap.size ≤ b) w' a' l) ∧ w.grownBy w' none := by
  cases a with
  | none =>
    obtain rfl : l = [] := by
      rcases h.2 with h | ⟨b, off, e, _⟩
      · exact h
      · cases e
    have hE : ∀ w, (binOp .eql 48 (.slice none 0 cap) (.slice none 0 0)).run Tryz.prog w = .ok (.bool true) w := fun w => Lib.run_eql_slice_nil w _ _ _ _ _ _ _ Tryz.underlying48
    clear h hl
    go_enter Tryz.func57, Tryz.ntmps57
    go_wp2_with fail
    go_ret
    exact ⟨⟨none, 0, rfl, Nat.le_refl _, by simp, .inl rfl⟩, grown_reflT _ _⟩
  | some ad =>
    have HC : Hid (∀ W, w.grownBy W none → ∀ j u, (l.flatMap Cl.c)[j]? = some u → W.cell? (ad.add j) = some u) := Lib.hid fun W hW => cls_cells (h.keep (.of hW))
    have HL := Lib.hid (cl_len l)
    obtain ⟨m, hm⟩ : ∃ m, m = l.length := ⟨_, rfl⟩
    have Hm := Lib.hid hm
    rw [← hm] at HL hl ⊢
    clear h hm
    obtain ⟨i0, hi, hz0, hz1, hz2⟩ := info_partsT cl_info
    have hE : ∀ w, (binOp .eql 48 (.slice (some ad) m cap) (.slice none 0 0)).run Tryz.prog w = .ok (.bool false) w := fun w => Lib.run_eql_slice_nil w _ _ _ _ _ _ _ Tryz.underlying48
    go_enter Tryz.func57, Tryz.ntmps57
    go_wp2_with (at_builtin; refine wpList_append_own _ rfl _ _ 48 rfl w.heap.size 114 i0 (.agg #[.string ⟨#[]⟩, .int .i64 0, .bool false]) 3 32 Tryz.underlying48 hi hz0 hz1 hz2 rfl (by decide) _ 0 [] rfl (own_madeT _ _ w _ _ rfl (Nat.le_refl _)) ad m cap (l.flatMap Cl.c) rfl HL.out ?c1 ?c2 ?c3 ?c4 ?c5 ?_)
    case c1 => exact HC.out _ (World.grownBy_alloc _ _ _)
    case c2 => exact cl_one _
    case c3 => unfold maxLen; omega
    case c4 => omega
    case c5 => simp
    intro v' w3 hown' hgrow _
    have K3 := Lib.hid (grown_thenT (World.grownBy_alloc w _ none) hgrow (by intro j hj; simp [Value.ownBlock] at hj; omega))
    have O3 := Lib.hid (show w3.ownsRow w.heap.size 114 3 v' m (l.flatMap Cl.c) by simpa using hown')
    clear hown' hgrow
    go_wp2_with fail
    go_ret
    obtain ⟨a', cap', hv, h1, h2⟩ := own_cls (S := fun b => w.heap.size ≤ b) O3.out Hm.out (fun _ h => h) (by rw [← Hm.out]; omega)
    exact ⟨⟨a', cap', congrArg Ending.returned hv, h1, h2⟩, K3.out⟩
set_option maxRecDepth 100000 in
set_option maxHeartbeats 1600000 in
theorem cloneTb_any (S : Nat → Prop) (a : Option Addr) (cap : Nat) (l : List Tb) (w : World) (h : TbsS S w a l) (hl : l.length ≤ 100) :
    Calls Tryz.prog 56 #[.slice a l.length cap] w fun e w' => (∃ a' cap', e = .returned (.slice a' l.length cap') ∧ l.length ≤ cap' ∧ w'.ownsRow w.heap.size 50 3 (.slice a' l.length cap') l.length (l.flatMap Tb.c)) ∧ w.grownBy w' none := by
  cases a with
  | none =>
    obtain rfl : l = [] := by
      rcases h.2.2 with h | ⟨b, off, e, _⟩
      · exact h
      · cases e
    have hE : ∀ w, (binOp .eql 22 (.slice none 0 cap) (.slice none 0 0)).run Tryz.prog w = .ok (.bool true) w := fun w => Lib.run_eql_slice_nil w _ _ _ _ _ _ _ Tryz.underlying22
    clear h hl
    go_enter Tryz.func56, Tryz.ntmps56
    go_wp2_with fail
    go_ret
    exact ⟨⟨none, 0, rfl, Nat.le_refl _, World.ownsRow_nil _ _ _ _⟩, grown_reflT _ _⟩
  | some ad =>
    have HC : Hid (∀ W, w.grownBy W none → ∀ j u, (l.flatMap Tb.c)[j]? = some u → W.cell? (ad.add j) = some u) := Lib.hid fun W hW => tbs_cells (h.keep (.of hW))
    have HL := Lib.hid (tb_len l)
    obtain ⟨m, hm⟩ : ∃ m, m = l.length := ⟨_, rfl⟩
    rw [← hm] at HL hl ⊢
    clear h hm
    obtain ⟨i0, hi, hz0, hz1, hz2⟩ := info_partsT tb_info
    have hE : ∀ w, (binOp .eql 22 (.slice (some ad) m cap) (.slice none 0 0)).run Tryz.prog w = .ok (.bool false) w := fun w => Lib.run_eql_slice_nil w _ _ _ _ _ _ _ Tryz.underlying22
    go_enter Tryz.func56, Tryz.ntmps56
    go_wp2_with (at_builtin; refine wpList_append_own _ rfl _ _ 22 rfl w.heap.size 50 i0 (.agg #[.string ⟨#[]⟩, .slice none 0 0, .int .i64 0]) 3 48 Tryz.underlying22 hi hz0 hz1 hz2 rfl (by decide) _ 0 [] rfl (own_madeT _ _ w _ _ rfl (Nat.le_refl _)) ad m cap (l.flatMap Tb.c) rfl HL.out ?c1 ?c2 ?c3 ?c4 ?c5 ?_)
    case c1 => exact HC.out _ (World.grownBy_alloc _ _ _)
    case c2 => exact tb_one _
    case c3 => unfold maxLen; omega
    case c4 => omega
    case c5 => simp
    intro v' w3 hown' hgrow _
    have K3 := Lib.hid (grown_thenT (World.grownBy_alloc w _ none) hgrow (by intro j hj; simp [Value.ownBlock] at hj; omega))
    have O3 := Lib.hid (show w3.ownsRow w.heap.size 50 3 v' m (l.flatMap Tb.c) by simpa using hown')
    clear hown' hgrow
    go_wp2_with fail
    go_ret
    obtain ⟨a', cap', hv, hw, _⟩ := own_win O3.out
    have hO := O3.out
    rw [hv] at hO
    exact ⟨⟨a', cap', congrArg Ending.returned hv, hw.le, hO⟩, K3.out⟩
/-- The first tables are copied. -/
structure CopT (S : Nat → Prop) (k : Nat) (w : World) (l D : List Tb) : Prop where
  len : D.length = k
  le : k ≤ l.length
  same : D.map Tb.p = (l.take k).map Tb.p
  at_ : ∀ x ∈ D, ClsS S w x.a x.l ∧ x.l.length ≤ x.cap
theorem CopT.keep {S : Nat → Prop} {k : Nat} {w w' : World} {l D : List Tb} (h : CopT S k w l D) (hk : Stays S w w') : CopT S k w' l D :=
  ⟨h.len, h.le, h.same, fun x hx => ⟨(h.at_ x hx).1.keep hk, (h.at_ x hx).2⟩⟩
theorem CopT.push {S : Nat → Prop} {k : Nat} {w : World} {l D : List Tb} (h : CopT S k w l D) (hk : k < l.length) {a : Option Addr} {cap : Nat} (h1 : ClsS S w a (l.getD k default).l) (h2 : (l.getD k default).l.length ≤ cap) : CopT S (k + 1) w l (D ++ [⟨(l.getD k default).n, a, cap, (l.getD k default).l, (l.getD k default).k⟩]) := by
  refine ⟨by simp [h.len], hk, ?_, fun x hx => ?_⟩
  · rw [List.take_succ_eq_append_getElem hk, List.map_append, List.map_append, h.same]
    congr 1
    simp [Tb.p, List.getD, hk]
  · rw [List.mem_append, List.mem_singleton] at hx
    rcases hx with hx | rfl
    · exact h.at_ x hx
    · exact ⟨h1, h2⟩
theorem copT_set (D R : List Tb) (x : Tb) (a : Option Addr) (cap : Nat) (k : Nat) (hk : D.length = k) : ((D ++ x :: R).flatMap Tb.c).set (k * 3 + 1) (.slice a x.l.length cap) = (D ++ ⟨x.n, a, cap, x.l, x.k⟩ :: R).flatMap Tb.c := by
  have hl := tb_len D
  rw [List.flatMap_append, List.flatMap_append, List.set_append_right _ _ (by omega)]
  rw [List.flatMap_cons, List.flatMap_cons, hl, hk]
  have e1 : k * 3 + 1 - k * 3 = 1 := by omega
  rw [e1]
  rfl
theorem tb_drop {l : List Tb} {k : Nat} (h : k < l.length) : l.drop k = l.getD k default :: l.drop (k + 1) := by
  rw [List.drop_eq_getElem_cons h]; simp [List.getD, h]
set_option maxRecDepth 100000 in
set_option maxHeartbeats 6400000 in
theorem copiedT_any (S : Nat → Prop) (a : Ptr) (cap : Nat) (l : List Tb) (w : World) (h : TbsS S w a l) (hl : l.length ≤ 100) (hcl : ∀ t ∈ l, t.l.length ≤ 100) :
    Calls Tryz.prog 38 #[.slice a l.length cap] w fun e w' => (∃ a' cap' l', e = .returned (.slice a' l.length cap') ∧ l'.length = l.length ∧ l.length ≤ cap' ∧ l'.map Tb.p = l.map Tb.p ∧ TbsS (fun b => w.heap.size ≤ b) w' a' l' ∧ ∀ t ∈ l', t.l.length ≤ t.cap) ∧ w.grownBy w' none := by
  have HC := Lib.hid (cloneTb_any S a cap l w h hl)
  have HR := Lib.hid (fun k (hk : k < l.length) W (hW : Below w.heap.size w W) => cloneCl_any S (l.getD k default).a (l.getD k default).cap (l.getD k default).l W ((h.2.1 _ (tb_mem hk)).keep (.of (grown_belowT hW none))) (hcl _ (tb_mem hk)))
  obtain ⟨n, hn⟩ : ∃ n, n = l.length := ⟨_, rfl⟩
  have Hn := Lib.hid hn
  rw [← hn] at HC HR hl ⊢
  clear h hn hcl
  go_enter Tryz.func38, Tryz.ntmps38
  go_wp2_with fail
  refine HC.out.mono ?_
  rintro e w1 ⟨⟨a', cap', rfl, hcap', hown⟩, hg1⟩
  have I0 := Lib.hid (show CopT (fun b => w.heap.size ≤ b ∧ ¬ bk a' b) 0 w1 l [] ∧ w1.ownsRow w.heap.size 50 3 (.slice a' n cap') n (([] ++ l.drop 0).flatMap Tb.c) ∧ Below w.heap.size w w1 from ⟨⟨rfl, Nat.zero_le _, by simp, by simp⟩, by simpa using hown, below_grownT hg1⟩)
  clear hg1 hown
  go_wp2_with fail
  go_loopw [8] (fun i wr => ∃ k : Nat, i = .int .i64 k ∧ k ≤ n ∧ Hid (∃ D, CopT (fun b => w.heap.size ≤ b ∧ ¬ bk a' b) k wr l D ∧ wr.ownsRow w.heap.size 50 3 (.slice a' n cap') n ((D ++ l.drop k).flatMap Tb.c) ∧ Below w.heap.size w wr)) (fun i _ => n - (intOf i).toNat)
  case atStart => exact ⟨0, rfl, by omega, Lib.hid ⟨[], I0.out⟩⟩
  case round =>
    obtain ⟨k, rfl, hk, I⟩ := hrel
    obtain ⟨D, hD, hown, hb⟩ := I.out
    by_cases hlt : k < n
    · obtain ⟨g, cp, e, hgB, hgl⟩ := World.ownsRow.form hown (by omega)
      obtain ⟨rfl, rfl⟩ : a' = some ⟨g, 0, none⟩ ∧ cap' = cp := by simpa using e
      have hkl : k < l.length := by rw [← Hn.out]; exact hlt
      have HX := Lib.hid (HR.out k hlt)
      have hd := tb_drop hkl
      have hlen1 := hD.len
      have hcl := tb_len D
      have c1 := World.ownsRow.cellAt hown (k * 3 + 1) (by omega)
      rw [List.flatMap_append, List.getElem?_append_right (by omega), hcl, hlen1, show k * 3 + 1 - k * 3 = 1 by omega, hd] at c1
      simp only [List.flatMap_cons, Tb.c, List.cons_append, List.getElem?_cons_zero, List.getElem?_cons_succ] at c1
      obtain ⟨x, hx⟩ : ∃ x, x = l.getD k default := ⟨_, rfl⟩
      rw [← hx] at c1 hd HX
      have Hx := Lib.hid (And.intro hx (And.intro hD (And.intro hb (And.intro hown hd))))
      obtain ⟨xn, xa, xc, xl, xk⟩ := x
      simp only at c1 HX
      obtain ⟨q, hq⟩ : ∃ q, q = xl.length := ⟨_, rfl⟩
      rw [← hq] at c1 HX
      have Hq := Lib.hid hq
      have HXb := Lib.hid (HX.out wr hb)
      clear hx hD hb hown hd I hq hcl
      go_wp2_with fail
      refine HXb.out.mono ?_
      rintro e w2 ⟨⟨ya, yc, rfl, hyc, hys⟩, hg2⟩
      have c2 := hg2.cell c1 (by simp)
      have f2 : w2.frozen? ⟨g, k * 3 + 1, none⟩ = false := World.ownsRow.frozenAt (World.ownsRow.kept Hx.out.2.2.2.1 hg2 (.inr (by simp [Value.ownBlock]))) _
      have Z := Lib.hid (And.intro hyc (And.intro hys hg2))
      clear c1 hys hg2 hyc
      go_wp2_with fail
      go_roundw
      case rel =>
        obtain ⟨hyc, hys, hg2⟩ := Z.out
        obtain ⟨hx, hD, hb, hown, hd⟩ := Hx.out
        have h5 := World.ownsRow.stored (World.ownsRow.kept hown hg2 (.inr (by simp [Value.ownBlock]))) (k * 3 + 1) (.slice ya q yc)
        have h6 := copT_set D (l.drop (k + 1)) ⟨xn, xa, xc, xl, xk⟩ ya yc k hlen1
        simp only at h6
        rw [← Hq.out] at h6
        rw [hd, h6] at h5
        have hst : Stays (fun b => w.heap.size ≤ b ∧ ¬ bk (some ⟨g, 0, none⟩ : Ptr) b) w2 (w2.setCell ⟨g, k * 3 + 1, none⟩ (.slice ya q yc)) := (Only.one g w2 _ _).stays (fun b hb _ e => hb.2 (by rw [bk_some]; exact e.symm))
        refine ⟨k + 1, by go_num, by omega, Lib.hid ⟨D ++ [⟨(l.getD k default).n, ya, yc, (l.getD k default).l, (l.getD k default).k⟩], ?_, ?_, ?_⟩⟩
        · refine ((hD.keep (.of hg2)).keep hst).push hkl ?_ (by rw [← hx]; simp only; rw [← Hq.out]; exact hyc)
          rw [← hx]
          exact (hys.mono (fun b _ hb5 => ⟨by have := hb.size; omega, fun e => by rw [bk_some] at e; omega⟩)).keep hst
        · rw [List.append_assoc, ← hx]
          exact h5.1
        · exact (hb.trans ((below_grownT hg2).mono hb.size)).setCell (p := ⟨g, _, none⟩) hgB _
      case measure => simp [intOf]; omega
    · obtain rfl : k = n := by omega
      go_wp2_with fail
      go_ret
      have hkl : k = l.length := Hn.out
      have hd0 : l.drop k = [] := List.drop_of_length_le (by omega)
      rw [hd0, List.append_nil] at hown
      obtain ⟨a2, c2, e2, hc2, hcg⟩ := own_tbs (S := fun b => w.heap.size ≤ b) hown hD.len.symm (fun b hb => hb) (by rw [hD.len]; omega) (fun x hx => (hD.at_ x hx).1.mono (fun b _ h => h.1))
      have e3 : a2 = a' ∧ c2 = cap' := by
        have := Value.slice.inj e2
        exact ⟨this.1.symm, this.2.2.symm⟩
      obtain ⟨rfl, rfl⟩ := e3
      have hs := hD.same
      rw [List.take_of_length_le (by omega)] at hs
      exact ⟨⟨a2, c2, D, rfl, hD.len, hc2, hs, hcg, fun t ht => (hD.at_ t ht).2⟩, grown_belowT hb none⟩
end Go.Proofs.YtnfpomjcofhppaaGreatDoor
