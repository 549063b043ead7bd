/- tree's From, with what is known of the memory of its rows: it may be written. -/
import Derived.Test.YtlmoefiajioeoaaTkD
import Derived.Test.YtlmoefiajioeoaaTkFit
namespace Go.Proofs.Ytlmoefiajioeoaa
open Go.RowKit

/-- A row's block is known whole, and not frozen. -/
def Fz (S : Nat → Prop) (W : World) (x : Rw) : Prop := x.l = [] ∨ ∃ b off cs T, x.a = some ⟨b, off, none⟩ ∧ S b ∧ b < W.heap.size ∧ W.heap[b]? = some (.cells cs T (0, 0))
def RwF (S : Nat → Prop) (W : World) (x : Rw) : Prop := RwS S W x.a x.l ∧ Fz S W x
theorem RwF.keep {S : Nat → Prop} {w w' : World} {x : Rw} (h : RwF S w x) (hk : Stays S w w') : RwF S w' x :=
  ⟨h.1.keep hk, h.2.imp id fun ⟨b, off, cs, T, e, hs, hlt, hc⟩ => ⟨b, off, cs, T, e, hs, Nat.lt_of_lt_of_le hlt hk.1, (hk.2 b hs hlt).trans hc⟩⟩
theorem RwF.mono {S S' : Nat → Prop} {w : World} {x : Rw} (h : RwF S w x) (hs : ∀ b, b < w.heap.size → S b → S' b) : RwF S' w x :=
  ⟨h.1.mono hs, h.2.imp id fun ⟨b, off, cs, T, e, h1, hlt, hc⟩ => ⟨b, off, cs, T, e, hs b hlt h1, hlt, hc⟩⟩
theorem own_rwF {S : Nat → Prop} {B cap : Nat} {w : World} {a : Ptr} {l : List Vl} (h : w.ownsRow B 36 3 (.slice a l.length cap) l.length (l.flatMap vCT)) (hS : ∀ b, B ≤ b → S b) (hl : l.length ≤ 4294967296) (hs : ∀ x ∈ l, x.s.size ≤ maxLen) : RwF S w ⟨a, cap, l⟩ := by
  obtain ⟨a', cap', hv, hr⟩ := own_rw h hS hl hs
  cases hv
  refine ⟨hr, ?_⟩
  rcases h.2 with ⟨_, h0⟩ | ⟨g, cc, cur, e, hb, hg, _⟩
  · exact .inl (List.eq_nil_of_length_eq_zero h0)
  · cases e
    exact .inr ⟨g, 0, cur, _, rfl, hS g hb, (Array.getElem?_eq_some_iff.1 hg).1, hg⟩
set_option maxRecDepth 100000 in
set_option maxHeartbeats 1600000 in
theorem clone2_any (S : Nat → Prop) (a : Option Addr) (cap : Nat) (l : List Vl) (w : World) (h : RowAt w a l) (hl : l.length ≤ 4294967296) (hS : ∀ b, w.heap.size ≤ b → S b) :
    Calls Try.prog 42 #[.slice a l.length cap] w fun e w' => (∃ a' cap', e = .returned (.slice a' l.length cap') ∧ RwF S w' ⟨a', cap', l⟩) ∧ w.grownBy w' none := by
  cases a with
  | none =>
    obtain rfl : l = [] := by
      rcases h.2.2 with h | ⟨b, off, e, _⟩
      · exact h
      · cases e
    have hE : ∀ w, (binOp .eql 24 (.slice none 0 cap) (.slice none 0 0)).run Try.prog w = .ok (.bool true) w := fun w => Lib.run_eql_slice_nil w _ _ _ _ _ _ _ Try.underlying24
    clear h hS hl
    go_enter Try.func42, Try.ntmps42
    go_wp2_with fail
    go_ret
    exact ⟨⟨none, 0, rfl, ⟨by simp, by simp, .inl rfl⟩, .inl rfl⟩, grown_reflT _ _⟩
  | some ad =>
    have HC : Hid (∀ W, w.grownBy W none → ∀ j u, (l.flatMap vCT)[j]? = some u → W.cell? (ad.add j) = some u) := Lib.hid fun W hW j u hj => by
      rcases h.2.2 with h0 | ⟨b, off, e, hlt, hc⟩
      · rw [h0] at hj; simp at hj
      · cases e
        have := vl_cells (w := W) (b := b) (off := off) (r := l) (fun i hi => ⟨hW.cell (hc i hi).1 (by simp), hW.cell (hc i hi).2.1 (by simp), hW.cell (hc i hi).2.2 (by simp)⟩) l.length 0 (by omega) j u (by simpa using hj)
        simpa using this
    have Hs := Lib.hid h.2.1
    have HL := Lib.hid (vCT_len l)
    obtain ⟨m, hm⟩ : ∃ m, m = l.length := ⟨_, rfl⟩
    have Hm := Lib.hid hm
    rw [← hm] at HL hl ⊢
    clear h hm
    obtain ⟨i0, hi, hz0, hz1, hz2⟩ := info_partsT val_infoT
    have hE : ∀ w, (binOp .eql 24 (.slice (some ad) m cap) (.slice none 0 0)).run Try.prog w = .ok (.bool false) w := fun w => Lib.run_eql_slice_nil w _ _ _ _ _ _ _ Try.underlying24
    go_enter Try.func42, Try.ntmps42
    go_wp2_with (at_builtin; refine wpList_append_own _ rfl _ _ 24 rfl w.heap.size 36 i0 (.agg #[.int .i64 0, .int .i64 0, .string ⟨#[]⟩]) 3 32 Try.underlying24 hi hz0 hz1 hz2 rfl (by decide) _ 0 [] rfl (own_madeT _ _ w _ _ rfl (Nat.le_refl _)) ad m cap (l.flatMap vCT) rfl HL.out ?c1 ?c2 ?c3 ?c4 ?c5 ?_)
    case c1 => exact HC.out _ (World.grownBy_alloc _ _ _)
    case c2 => exact vCT_one _
    case c3 => unfold maxLen; omega
    case c4 => omega
    case c5 => simp
    intro v' w3 hown' hgrow _
    have K3 := Lib.hid (grown_thenT (World.grownBy_alloc w _ none) hgrow (by intro j hj; simp [Value.ownBlock] at hj; omega))
    have O3 := Lib.hid (show w3.ownsRow w.heap.size 36 3 v' l.length (l.flatMap vCT) by rw [← Hm.out]; simpa using hown')
    clear hown' hgrow
    go_wp2_with fail
    go_ret
    obtain ⟨a', cap', hv, hr⟩ := own_rw O3.out hS (by rw [← Hm.out]; exact hl) Hs.out
    have O4 := O3.out
    rw [hv] at O4
    have hF := own_rwF O4 hS (by rw [← Hm.out]; exact hl) Hs.out
    rw [← Hm.out] at hv
    exact ⟨⟨a', cap', congrArg Ending.returned hv, hF⟩, K3.out⟩
structure FromInv2 (w : World) (kp pp dp : Nat) (ka : Ptr) (kc : Nat) (key : List Vl) (R : List (List Vl)) (vo : Value) (wr : World) (v : Value) (xs : List (Ptr × Tre)) (done : List Rw) (rest : List (List Vl × List Vl)) : Prop where
  wlk : Wlk (fun b => b < w.heap.size) w.heap.size wr kp pp dp ka kc key v xs
  rem : remS key xs = rest
  all : done.map Rw.l ++ rest.map Prod.snd = R
  own : wr.ownsRow w.heap.size 24 1 vo done.length (done.map Rw.v)
  rows : ∀ x ∈ done, RwF (Sr w pp v vo) wr x
  o_pp : vo.ownBlock ≠ some pp
  o_kp : vo.ownBlock ≠ some kp
  o_dp : vo.ownBlock ≠ some dp
  o_v : ∀ g, vo.ownBlock = some g → v.ownBlock ≠ some g
  grown : w.grownBy wr none
/-- The walk has gone on. -/
theorem FromInv2.next {w : World} {kp pp dp : Nat} {ka : Ptr} {kc : Nat} {key : List Vl} {R : List (List Vl)} {vo : Value} {wr w1 : World} {v v' : Value} {xs xs' : List (Ptr × Tre)} {done : List Rw} {k r : List Vl} {rest : List (List Vl × List Vl)} (h : FromInv2 w kp pp dp ka kc key R vo wr v xs done ((k, r) :: rest))
    (hw : Wlk (fun b => b < w.heap.size) w.heap.size w1 kp pp dp ka kc key v' xs') (hg : ∀ g, v'.ownBlock = some g → v.ownBlock = some g ∨ wr.heap.size ≤ g) (ho : Only (Wlk.M pp v) wr w1) :
    w1.ownsRow w.heap.size 24 1 vo done.length (done.map Rw.v) ∧ (∀ x ∈ done, RwF (Sr w pp v' vo) w1 x) ∧ (∀ g, vo.ownBlock = some g → v'.ownBlock ≠ some g) ∧ w.grownBy w1 none := by
  have hvo : ∀ g, vo.ownBlock = some g → g < wr.heap.size := fun g hg => (World.ownsRow.lt h.own g hg).2
  refine ⟨own_only h.own ho (fun g hg' hm => ?_), fun x hx => ?_, fun g hg' hv => ?_, only_grown h.grown ho (fun b hb => ?_)⟩
  · rcases hm with rfl | hm
    · exact h.o_pp hg'
    · exact h.o_v g hg' hm
  · have h1 := (h.rows x hx).mono (S' := fun b => Sr w pp v vo b ∧ Sr w pp v' vo b) (fun b hb hs => ⟨hs, hs.1, hs.2.1, fun e => by
      rcases hg b e with q | q
      · exact hs.2.2.1 q
      · omega, hs.2.2.2⟩)
    refine (h1.keep (ho.stays (fun b hs _ hm => ?_))).mono (fun b _ hs => hs.2)
    rcases hm with rfl | hm
    · exact hs.1.2.1 rfl
    · exact hs.1.2.2.1 hm
  · rcases hg g hv with q | q
    · exact h.o_v g hg' q
    · have := hvo g hg'; omega
  · rcases hb with rfl | hb
    · exact h.wlk.bp
    · exact (World.ownsRow.lt h.wlk.own b hb).1
/-- A row has been appended. -/
theorem FromInv2.push {w : World} {kp pp dp : Nat} {ka : Ptr} {kc : Nat} {key : List Vl} {R : List (List Vl)} {vo : Value} {wr w1 w2 w4 : World} {v v' : Value} {xs xs' : List (Ptr × Tre)} {done : List Rw} {k r : List Vl} {rest : List (List Vl × List Vl)} (h : FromInv2 w kp pp dp ka kc key R vo wr v xs done ((k, r) :: rest))
    (hw : Wlk (fun b => b < w.heap.size) w.heap.size w1 kp pp dp ka kc key v' xs') (hg : ∀ g, v'.ownBlock = some g → v.ownBlock = some g ∨ wr.heap.size ≤ g) (ho : Only (Wlk.M pp v) wr w1) (hr : remS key xs' = rest)
    {ra : Ptr} {rc : Nat} (hrow : RwF (fun b => w1.heap.size ≤ b) w2 ⟨ra, rc, r⟩) (h12 : w1.grownBy w2 none) {o : Obj} {g cap : Nat}
    (hown : w4.ownsRow w.heap.size 24 1 (.slice (some ⟨g, 0, none⟩) (done.length + 1) cap) (done.length + 1) (done.map Rw.v ++ [.slice ra r.length rc])) (hgr : (w2.alloc o).grownBy w4 vo.ownBlock) (hgb : vo.ownBlock = some g ∨ g = (w2.alloc o).heap.size) :
    FromInv2 w kp pp dp ka kc key R (.slice (some ⟨g, 0, none⟩) (done.length + 1) cap) w4 v' xs' (done ++ [⟨ra, rc, r⟩]) rest := by
  obtain ⟨a1, a2, a3, a4⟩ := h.next hw hg ho
  have g13 : w1.grownBy (w2.alloc o) none := h12.trans (World.grownBy_alloc w2 o none)
  have hw3 := hw.grown g13
  have o34 : Only (fun b => vo.ownBlock = some b) (w2.alloc o) w4 := (Only.refl _ _).grown hgr (fun j hj => .inl hj)
  have hvo : ∀ b, vo.ownBlock = some b → w.heap.size ≤ b ∧ b < wr.heap.size := fun b hb => World.ownsRow.lt h.own b hb
  have hw4 := hw3.keep o34 (fun b hb => ⟨(hvo b hb).1, fun e => h.o_kp (by rw [hb, e]), fun e => h.o_pp (by rw [hb, e]), fun e => h.o_dp (by rw [hb, e]), a3 b hb⟩)
  obtain ⟨l1, l2, l3⟩ := hw.lt
  have s12 := h12.size
  have s01 := ho.size
  have s3 : (w2.alloc o).heap.size = w2.heap.size + 1 := by simp
  have hv' : ∀ b, v'.ownBlock = some b → b < w1.heap.size := fun b hb => (World.ownsRow.lt hw.own b hb).2
  refine ⟨hw4, hr, ?_, ?_, fun x hx => ?_, fun e => ?_, fun e => ?_, fun e => ?_, fun b hb e => ?_, ?_⟩
  · rw [← h.all]; simp
  · rw [List.length_append, List.map_append]; exact hown
  · rcases List.mem_append.1 hx with hx | hx
    · have b1 := (a2 x hx).keep (.of g13)
      have b2 := (a2 x hx).mono (S' := fun b => b < w1.heap.size ∧ Sr w pp v' vo b) (fun b hb hs => ⟨hb, hs⟩)
      refine ((b2.keep (.of g13)).keep (o34.stays (fun b hs _ hm => hs.2.2.2.2 hm))).mono (fun b _ hs => ⟨hs.2.1, hs.2.2.1, hs.2.2.2.1, fun e => ?_⟩)
      have e' : g = b := by simpa [Value.ownBlock] using e
      rcases hgb with q | q
      · exact hs.2.2.2.2 (by rw [q, e'])
      · have := hs.1; omega
    · obtain rfl := List.mem_singleton.1 hx
      have b2 := hrow.mono (S' := fun b => b < w2.heap.size ∧ w1.heap.size ≤ b) (fun b hb hs => ⟨hb, hs⟩)
      refine ((b2.keep (.of (World.grownBy_alloc w2 o none))).keep (o34.stays (fun b hs _ hm => by have := (hvo b hm).2; have := hs.2; omega))).mono (fun b _ hs => ⟨by have := a4.size; have := hs.2; omega, fun e => by have := hs.2; omega, fun e => by have := hv' b e; have := hs.2; omega, fun e => ?_⟩)
      have e' : g = b := by simpa [Value.ownBlock] using e
      rcases hgb with q | q
      · have := (hvo g q).2; have := hs.2; omega
      · have := hs.1; omega
  · have e' : g = pp := by simpa [Value.ownBlock] using e
    rcases hgb with q | q
    · exact h.o_pp (by rw [q, e'])
    · omega
  · have e' : g = kp := by simpa [Value.ownBlock] using e
    rcases hgb with q | q
    · exact h.o_kp (by rw [q, e'])
    · omega
  · have e' : g = dp := by simpa [Value.ownBlock] using e
    rcases hgb with q | q
    · exact h.o_dp (by rw [q, e'])
    · omega
  · have e' : g = b := by simpa [Value.ownBlock] using hb
    subst e'
    rcases hgb with q | q
    · exact a3 g q e
    · have := hv' g e; omega
  · exact only_grown (a4.trans g13) o34 (fun b hb => (hvo b hb).1)
set_option maxRecDepth 100000 in
set_option maxHeartbeats 6400000 in
theorem from2_any (hc : Tr.IsOrd rowsOrd) (S : Nat → Prop) (t : Tre) (p : Ptr) (ka : Ptr) (kc : Nat) (key : List Vl) (n : Int) (w : World) (ht : TrAt S w t p) (hs : Tr.Sorted rowsOrd t.toL) (hn : t.n ≤ 100000000) (hk : RowAt w ka key) (hkl : key.length ≤ 4294967296) :
    Calls Try.prog 14 #[.pointer p, .slice ka key.length kc, .int .i64 n] w fun e w' => (∃ (vo : Value) (done : List Rw), e = .returned vo ∧ w'.ownsRow w.heap.size 24 1 vo done.length (done.map Rw.v) ∧ (∀ x ∈ done, RwF (fun b => w.heap.size ≤ b ∧ vo.ownBlock ≠ some b) w' x) ∧ done.map Rw.l = ((fromL key t.toL).map Prod.snd).take n.toNat) ∧ w.grownBy w' none := by
  have HW := Lib.hid (walk_any hc S t p ka kc key w ht hs (by omega) hk hkl)
  have HC := Lib.hid hc
  have hR : (fromL key t.toL).length ≤ t.n := by rw [Tr.n_toL]; exact List.length_filter_le _ _
  obtain ⟨R, hRe⟩ : ∃ R, R = (fromL key t.toL).map Prod.snd := ⟨_, rfl⟩
  have HRe := Lib.hid hRe
  have hRl : R.length ≤ 100000000 := by rw [hRe, List.length_map]; omega
  obtain ⟨i0, hi, hz0, hz1, hz2⟩ := info_partsT row_info
  rw [← hRe]
  generalize hm : key.length = m0 at *
  clear ht hs hn hk hkl hR hRe hc
  go_enter Try.func14, Try.ntmps14
  go_wp2_with fail
  refine HW.out.mono ?_
  rintro e w1 ⟨⟨v1, xs1, rfl, hw, hr, hl⟩, hg⟩
  have I0 := Lib.hid (show ∃ (v : Value) (xs : List (Ptr × Tre)) (done : List Rw) (rest : List (List Vl × List Vl)), FromInv2 w w.heap.size (w.heap.size + 1) (w.heap.size + 1 + 1) ka kc key R (.slice none 0 0) w1 v xs done rest ∧ done.length = 0 ∧ ((0 : Nat) = 0 ∨ ((0 : Nat) : Int) ≤ n) from ⟨v1, xs1, [], _, ⟨hw, hr, by rw [HRe.out]; rfl, World.ownsRow_nil _ _ _ _, by simp, by simp [Value.ownBlock], by simp [Value.ownBlock], by simp [Value.ownBlock], by simp [Value.ownBlock], hg⟩, rfl, .inl rfl⟩)
  clear hw hr hl hg HW
  go_wp2_with fail
  go_loopw [7] (fun s wr => ∃ (ao : Ptr) (m co : Nat), s = .slice ao m co ∧ m ≤ 100000000 ∧ Hid (∃ (v : Value) (xs : List (Ptr × Tre)) (done : List Rw) (rest : List (List Vl × List Vl)), FromInv2 w w.heap.size (w.heap.size + 1) (w.heap.size + 1 + 1) ka kc key R (.slice ao m co) wr v xs done rest ∧ done.length = m ∧ (m = 0 ∨ (m : Int) ≤ n))) (fun s _ => R.length + 1 - slLen s)
  case atStart =>
    refine ⟨none, 0, 0, rfl, by omega, Lib.hid ?_⟩
    obtain ⟨q1, q2, q3, q4, q5, q6, _⟩ := I0.out
    exact ⟨q1, q2, q3, q4, q5, q6, .inl rfl⟩
  case round =>
    obtain ⟨ao, m, co, rfl, hm8, I⟩ := hrel
    clear I0
    by_cases hlt : (m : Int) < n
    · obtain ⟨v, xs, done, rest, hI, hdl, hmn⟩ := I.out
      cases rest with
      | nil =>
        have HN := Lib.hid (next_none _ _ _ _ _ _ _ _ _ _ _ hI.wlk hI.rem)
        have HI := Lib.hid (And.intro hI (And.intro hdl hmn))
        clear hI hdl hmn I
        go_wp2_with fail
        refine HN.out.mono ?_
        rintro e w2 ⟨rfl, rfl⟩
        go_wp2_with fail
        go_ret
        obtain ⟨hI, hdl, hmn⟩ := HI.out
        refine ⟨⟨_, done, rfl, by have := hI.own; rw [hdl] at this ⊢; exact this, fun x hx => (hI.rows x hx).mono (fun b _ hs => ⟨hs.1, hs.2.2.2⟩), ?_⟩, hI.grown⟩
        have := hI.all
        simp only [List.map_nil, List.append_nil] at this
        rw [this, List.take_of_length_le]
        rw [← this, List.length_map]
        omega
      | cons kr rest =>
        obtain ⟨k, r⟩ := kr
        have hrl : rest.length ≤ 400000000 := by
          have := congrArg List.length hI.all
          simp at this
          omega
        have hml : m + 1 ≤ R.length := by
          have := congrArg List.length hI.all
          simp at this
          omega
        have HN := Lib.hid (next_more HC.out _ _ _ _ _ _ _ _ _ _ _ k r rest hI.wlk hI.rem hrl)
        have HI := Lib.hid (And.intro hI (And.intro hdl hmn))
        have hB0 : w.heap.size ≤ wr.heap.size := hI.grown.size
        clear hI hmn I hrl
        go_wp2_with fail
        refine HN.out.mono ?_
        rintro e w2 ⟨⟨px, rfl, hp⟩, ⟨v', xs', hw', hg', hr'⟩, ho⟩
        obtain ⟨b, ka', kc', va, vc, rfl, hb, hb2, c0, c1, h1, h2⟩ := hp
        have HCl := Lib.hid (clone2_any (fun b => w2.heap.size ≤ b) va vc r w2 h2.row h2.1 (fun b hb => hb))
        have E := Lib.hid (And.intro hw' (And.intro hg' (And.intro hr' ho)))
        have hB2 : w.heap.size ≤ w2.heap.size := Nat.le_trans hB0 ho.size
        have O2 := Lib.hid (HI.out.1.next hw' hg' ho).1
        clear hw' hg' hr' ho h1 h2 hb hb2
        obtain ⟨rn, hrn⟩ : ∃ rn, rn = r.length := ⟨_, rfl⟩
        have Hrn := Lib.hid hrn
        rw [← hrn] at c1 HCl
        clear hrn
        go_wp2_with fail
        refine HCl.out.mono ?_
        rintro e w3 ⟨⟨ra, rc, rfl, hrow⟩, hg3⟩
        have ER := Lib.hid (And.intro hrow hg3)
        have O3 := Lib.hid (World.ownsRow.kept O2.out hg3 (by cases (Value.slice ao m co).ownBlock <;> simp))
        have hB3 : w.heap.size ≤ w3.heap.size := Nat.le_trans hB2 hg3.size
        rw [hdl] at O3
        clear hrow hg3 c0 c1 O2
        go_wp2_with (at_builtin; refine wpList_append_lies _ rfl _ _ 38 rfl w.heap.size 24 i0 (.slice none 0 0) 1 24 Try.underlying38 hi hz0 hz1 hz2 rfl (by decide) (.slice ao m co) m (done.map Rw.v) rfl (World.ownsRow.alloc O3.out _) ⟨w3.heap.size, 0, none⟩ 1 1 [.slice ra rn rc] rfl rfl (one_atT (cell_of_row _ _ 0 _ _ _ (heap_alloc_new w3 _))) (one_oneS _ _ _) (by decide) (by unfold maxLen; omega) (by omega) (by simp; omega) _ rfl ?_)
        intro g cap w4 hown4 hgrow4 hgb hg4
        have EF := Lib.hid (And.intro hown4 (And.intro hgrow4 hgb))
        clear hown4 hgrow4 hgb hg4
        go_wp2_with fail
        go_roundw
        case rel =>
          obtain ⟨hI, hdl, hmn⟩ := HI.out
          obtain ⟨hw', hg', hr', ho⟩ := E.out
          obtain ⟨hrow, hg3⟩ := ER.out
          obtain ⟨hown4, hgrow4, hgb⟩ := EF.out
          rw [Hrn.out, ← hdl] at hown4
          have hp := hI.push hw' hg' ho hr' hrow hg3 hown4 hgrow4 (hgb.imp id (fun e => by rw [e]; simp))
          rw [hdl] at hp
          exact ⟨some ⟨g, 0, none⟩, m + 1, cap, rfl, by omega, Lib.hid ⟨v', xs', _, rest, hp, by simp [hdl], .inr (by omega)⟩⟩
        case measure => simp only [slLen]; omega
    · have HI := I
      clear I
      go_wp2_with fail
      go_ret
      obtain ⟨v, xs, done, rest, hI, hdl, hmn⟩ := HI.out
      refine ⟨⟨_, rfl, done, by have := hI.own; rw [hdl] at this ⊢; exact this, fun x hx => (hI.rows x hx).mono (fun b _ hs => ⟨hs.1, hs.2.2.2⟩), ?_⟩, hI.grown⟩
      rw [← hI.all, List.take_left']
      rw [List.length_map, hdl]
      omega
end Go.Proofs.Ytlmoefiajioeoaa
