/- tree's From walked. Changes with their tables' names in memory; slices.Clone at changes; the journal's copied. tree's Rows, Put; the order of rows. -/
import Derived.Test.YtnfpomjcofhppaaGreatDoorZb15
import Derived.Deep.RegionWith
import Derived.Deep.RegionHeld3
import Derived.Deep.QuietTactic
import Derived.BigQuiet
namespace Go.Proofs.YtnfpomjcofhppaaGreatDoor
open Go.RowKit

def slLen : Value → Nat
  | .slice _ n _ => n
  | _ => 0
theorem own_slice {w : World} {B : Nat} {e : TypeId} {size n : Nat} {v : Value} {xs : List Value} (h : w.ownsRow B e size v n xs) : ∃ a cap, v = .slice a n cap := by
  rcases h.2 with ⟨e, h0⟩ | ⟨g, cap, _, e, _⟩
  · exact ⟨none, 0, by rw [e, h0]⟩
  · exact ⟨_, cap, e⟩
theorem row_info : (Tryz.prog.info? 55).map (fun i => (i.zero, i.size, i.bytes)) = some (some (.slice none 0 0), 1, 24) := by kernel_rfl
theorem one_oneS (a : Ptr) (n c : Nat) : ∀ u ∈ [Value.slice a n c], u.oneCell' = true := by
  intro u hu
  obtain rfl := List.mem_singleton.1 hu
  rfl
set_option maxRecDepth 100000 in
set_option maxHeartbeats 6400000 in
theorem from_any (hc : Tr.IsOrd rowsOrd) (S : Nat → Prop) (t : Tre) (p : Ptr) (ka : Ptr) (kc : Nat) (key : List Vl) (n : Int) (w : World) (ht : TrAt S w t p) (hs : Tr.Sorted rowsOrd t.toL) (hn : t.n ≤ 100000000) (hk : RowAt w ka key) (hkl : key.length ≤ 4294967296) :
    Calls Tryz.prog 52 #[.pointer p, .slice ka key.length kc, .int .i64 n] w fun e w' => (∃ (vo : Value) (done : List Rw), e = .returned vo ∧ w'.ownsRow w.heap.size 55 1 vo done.length (done.map Rw.v) ∧ (∀ x ∈ done, RwS (fun b => w.heap.size ≤ b) w' x.a x.l) ∧ done.map Rw.l = ((fromL key t.toL).map Prod.snd).take n.toNat) ∧ w.grownBy w' none := by
  have HW := Lib.hid (walk_any hc S t p ka kc key w ht hs (by omega) hk hkl)
  have HC := Lib.hid hc
  have hR : (fromL key t.toL).length ≤ t.n := by rw [Tr.n_toL]; exact List.length_filter_le _ _
  obtain ⟨R, hRe⟩ : ∃ R, R = (fromL key t.toL).map Prod.snd := ⟨_, rfl⟩
  have HRe := Lib.hid hRe
  have hRl : R.length ≤ 100000000 := by rw [hRe, List.length_map]; omega
  obtain ⟨i0, hi, hz0, hz1, hz2⟩ := info_partsT row_info
  rw [← hRe]
  generalize hm : key.length = m0 at *
  clear ht hs hn hk hkl hR hRe hc
  go_enter Tryz.func52, Tryz.ntmps52
  go_wp2_with fail
  refine HW.out.mono ?_
  rintro e w1 ⟨⟨v1, xs1, rfl, hw, hr, hl⟩, hg⟩
  have I0 := Lib.hid (show ∃ (v : Value) (xs : List (Ptr × Tre)) (done : List Rw) (rest : List (List Vl × List Vl)), FromInv w w.heap.size (w.heap.size + 1) (w.heap.size + 1 + 1) ka kc key R (.slice none 0 0) w1 v xs done rest ∧ done.length = 0 ∧ ((0 : Nat) = 0 ∨ ((0 : Nat) : Int) ≤ n) from ⟨v1, xs1, [], _, ⟨hw, hr, by rw [HRe.out]; rfl, World.ownsRow_nil _ _ _ _, by simp, by simp [Value.ownBlock], by simp [Value.ownBlock], by simp [Value.ownBlock], by simp [Value.ownBlock], hg⟩, rfl, .inl rfl⟩)
  clear hw hr hl hg HW
  go_wp2_with fail
  go_loopw [7] (fun s wr => ∃ (ao : Ptr) (m co : Nat), s = .slice ao m co ∧ m ≤ 100000000 ∧ Hid (∃ (v : Value) (xs : List (Ptr × Tre)) (done : List Rw) (rest : List (List Vl × List Vl)), FromInv w w.heap.size (w.heap.size + 1) (w.heap.size + 1 + 1) ka kc key R (.slice ao m co) wr v xs done rest ∧ done.length = m ∧ (m = 0 ∨ (m : Int) ≤ n))) (fun s _ => R.length + 1 - slLen s)
  case atStart =>
    refine ⟨none, 0, 0, rfl, by omega, Lib.hid ?_⟩
    obtain ⟨q1, q2, q3, q4, q5, q6, _⟩ := I0.out
    exact ⟨q1, q2, q3, q4, q5, q6, .inl rfl⟩
  case round =>
    obtain ⟨ao, m, co, rfl, hm8, I⟩ := hrel
    clear I0
    by_cases hlt : (m : Int) < n
    · obtain ⟨v, xs, done, rest, hI, hdl, hmn⟩ := I.out
      cases rest with
      | nil =>
        have HN := Lib.hid (next_none _ _ _ _ _ _ _ _ _ _ _ hI.wlk hI.rem)
        have HI := Lib.hid (And.intro hI (And.intro hdl hmn))
        clear hI hdl hmn I
        go_wp2_with fail
        refine HN.out.mono ?_
        rintro e w2 ⟨rfl, rfl⟩
        go_wp2_with fail
        go_ret
        obtain ⟨hI, hdl, hmn⟩ := HI.out
        refine ⟨⟨_, done, rfl, by have := hI.own; rw [hdl] at this ⊢; exact this, fun x hx => (hI.rows x hx).mono (fun b _ hs => hs.1), ?_⟩, hI.grown⟩
        have := hI.all
        simp only [List.map_nil, List.append_nil] at this
        rw [this, List.take_of_length_le]
        rw [← this, List.length_map]
        omega
      | cons kr rest =>
        obtain ⟨k, r⟩ := kr
        have hrl : rest.length ≤ 400000000 := by
          have := congrArg List.length hI.all
          simp at this
          omega
        have hml : m + 1 ≤ R.length := by
          have := congrArg List.length hI.all
          simp at this
          omega
        have HN := Lib.hid (next_more HC.out _ _ _ _ _ _ _ _ _ _ _ k r rest hI.wlk hI.rem hrl)
        have HI := Lib.hid (And.intro hI (And.intro hdl hmn))
        have hB0 : w.heap.size ≤ wr.heap.size := hI.grown.size
        clear hI hmn I hrl
        go_wp2_with fail
        refine HN.out.mono ?_
        rintro e w2 ⟨⟨px, rfl, hp⟩, ⟨v', xs', hw', hg', hr'⟩, ho⟩
        obtain ⟨b, ka', kc', va, vc, rfl, hb, hb2, c0, c1, h1, h2⟩ := hp
        have HCl := Lib.hid (clone_any (fun b => w2.heap.size ≤ b) va vc r w2 h2.row h2.1 (fun b hb => hb))
        have E := Lib.hid (And.intro hw' (And.intro hg' (And.intro hr' ho)))
        have hB2 : w.heap.size ≤ w2.heap.size := Nat.le_trans hB0 ho.size
        have O2 := Lib.hid (HI.out.1.next hw' hg' ho).1
        clear hw' hg' hr' ho h1 h2 hb hb2
        obtain ⟨rn, hrn⟩ : ∃ rn, rn = r.length := ⟨_, rfl⟩
        have Hrn := Lib.hid hrn
        rw [← hrn] at c1 HCl
        clear hrn
        go_wp2_with fail
        refine HCl.out.mono ?_
        rintro e w3 ⟨⟨ra, rc, rfl, _, hrow⟩, hg3⟩
        have ER := Lib.hid (And.intro hrow hg3)
        have O3 := Lib.hid (World.ownsRow.kept O2.out hg3 (by cases (Value.slice ao m co).ownBlock <;> simp))
        have hB3 : w.heap.size ≤ w3.heap.size := Nat.le_trans hB2 hg3.size
        rw [hdl] at O3
        clear hrow hg3 c0 c1 O2
        go_wp2_with (at_builtin; refine wpList_append_lies _ rfl _ _ 51 rfl w.heap.size 55 i0 (.slice none 0 0) 1 24 Tryz.underlying51 hi hz0 hz1 hz2 rfl (by decide) (.slice ao m co) m (done.map Rw.v) rfl (World.ownsRow.alloc O3.out _) ⟨w3.heap.size, 0, none⟩ 1 1 [.slice ra rn rc] rfl rfl (one_atT (cell_of_row _ _ 0 _ _ _ (heap_alloc_new w3 _))) (one_oneS _ _ _) (by decide) (by unfold maxLen; omega) (by omega) (by simp; omega) _ rfl ?_)
        intro g cap w4 hown4 hgrow4 hgb hg4
        have EF := Lib.hid (And.intro hown4 (And.intro hgrow4 hgb))
        clear hown4 hgrow4 hgb hg4
        go_wp2_with fail
        go_roundw
        case rel =>
          obtain ⟨hI, hdl, hmn⟩ := HI.out
          obtain ⟨hw', hg', hr', ho⟩ := E.out
          obtain ⟨hrow, hg3⟩ := ER.out
          obtain ⟨hown4, hgrow4, hgb⟩ := EF.out
          rw [Hrn.out, ← hdl] at hown4
          have hp := hI.push hw' hg' ho hr' hrow hg3 hown4 hgrow4 (hgb.imp id (fun e => by rw [e]; simp))
          rw [hdl] at hp
          exact ⟨some ⟨g, 0, none⟩, m + 1, cap, rfl, by omega, Lib.hid ⟨v', xs', _, rest, hp, by simp [hdl], .inr (by omega)⟩⟩
        case measure => simp only [slLen]; omega
    · have HI := I
      clear I
      go_wp2_with fail
      go_ret
      obtain ⟨v, xs, done, rest, hI, hdl, hmn⟩ := HI.out
      refine ⟨⟨_, rfl, done, by have := hI.own; rw [hdl] at this ⊢; exact this, fun x hx => (hI.rows x hx).mono (fun b _ hs => hs.1), ?_⟩, hI.grown⟩
      rw [← hI.all, List.take_left']
      rw [List.length_map, hdl]
      omega
end Go.Proofs.YtnfpomjcofhppaaGreatDoor
namespace Go.Proofs.YtnfpomjcofhppaaGreatDoor
open Go.RowKit

/-- A change: its table's name, the row that was, the one that is. -/
structure Cg where
  t : ByteArray
  o : Rw
  n : Rw
instance : Inhabited Cg := ⟨⟨⟨#[]⟩, default, default⟩⟩
def Cg.c (x : Cg) : List Value := [.string x.t, x.o.v, x.n.v]
/-- The rows of changes have room for what they hold. -/
def capsL (l : List Cg) : Prop := ∀ y ∈ l, y.o.l.length ≤ y.o.cap ∧ y.n.l.length ≤ y.n.cap
/-- What can be told of a change. -/
def Cg.p (x : Cg) : ByteArray × List Vl × List Vl := (x.t, x.o.l, x.n.l)
theorem cg_len (l : List Cg) : (l.flatMap Cg.c).length = l.length * 3 := by
  induction l with
  | nil => rfl
  | cons x l ih => rw [List.flatMap_cons, List.length_append, ih]; simp [Cg.c]; omega
theorem cg_at (l : List Cg) : ∀ i, i < l.length → (l.flatMap Cg.c)[i * 3]? = some (.string (l.getD i default).t) ∧ (l.flatMap Cg.c)[i * 3 + 1]? = some (l.getD i default).o.v ∧ (l.flatMap Cg.c)[i * 3 + 2]? = some (l.getD i default).n.v := by
  induction l with
  | nil => intro i hi; simp at hi
  | cons x l ih =>
    intro i hi
    rw [List.flatMap_cons]
    match i, hi with
    | 0, _ => exact ⟨rfl, rfl, rfl⟩
    | i + 1, hi =>
      have := ih i (by simpa using hi)
      have e : ∀ o, (Cg.c x ++ l.flatMap Cg.c)[(i + 1) * 3 + o]? = (l.flatMap Cg.c)[i * 3 + o]? := fun o => by
        rw [List.getElem?_append_right (by simp [Cg.c]; omega)]
        congr 1
        simp [Cg.c]
        omega
      have e0 := e 0
      simp only [Nat.add_zero] at e0
      rw [e0, e 1, e 2]
      simpa [List.getD] using this
theorem cg_one (l : List Cg) : ∀ u ∈ l.flatMap Cg.c, u.oneCell' = true := by
  intro u hu
  rw [List.mem_flatMap] at hu
  obtain ⟨x, _, hu⟩ := hu
  simp only [Cg.c, List.mem_cons, List.not_mem_nil, or_false] at hu
  rcases hu with rfl | rfl | rfl <;> rfl
theorem cg_info : (Tryz.prog.info? 59).map (fun i => (i.zero, i.size, i.bytes)) = some (some (.agg #[.string ⟨#[]⟩, .slice none 0 0, .slice none 0 0]), 3, 64) := by kernel_rfl
/-- A slice of changes in blocks of S. -/
def CgS (S : Nat → Prop) (w : World) (a : Ptr) (l : List Cg) : Prop :=
  l.length ≤ 1000000 ∧ (∀ x ∈ l, RwS S w x.o.a x.o.l ∧ RwS S w x.n.a x.n.l) ∧ (l = [] ∨ ∃ b off, a = some ⟨b, off, none⟩ ∧ S b ∧ b < w.heap.size ∧ ∀ i, i < l.length → w.cell? ⟨b, off + i * 3, none⟩ = some (.string (l.getD i default).t) ∧ w.cell? ⟨b, off + i * 3 + 1, none⟩ = some (l.getD i default).o.v ∧ w.cell? ⟨b, off + i * 3 + 2, none⟩ = some (l.getD i default).n.v)
theorem CgS.keep {S : Nat → Prop} {w w' : World} {a : Ptr} {l : List Cg} (h : CgS S w a l) (hk : Stays S w w') : CgS S w' a l := by
  refine ⟨h.1, fun x hx => ⟨(h.2.1 x hx).1.keep hk, (h.2.1 x hx).2.keep hk⟩, h.2.2.imp id fun ⟨b, off, e, hs, hlt, hc⟩ => ⟨b, off, e, hs, Nat.lt_of_lt_of_le hlt hk.1, fun i hi => ?_⟩⟩
  have hb := hk.2 b hs hlt
  exact ⟨(World.cell?_of_block (a := ⟨b, _, none⟩) hb).trans (hc i hi).1, (World.cell?_of_block (a := ⟨b, _, none⟩) hb).trans (hc i hi).2.1, (World.cell?_of_block (a := ⟨b, _, none⟩) hb).trans (hc i hi).2.2⟩
theorem CgS.mono {S S' : Nat → Prop} {w : World} {a : Ptr} {l : List Cg} (h : CgS S w a l) (hs : ∀ b, b < w.heap.size → S b → S' b) : CgS S' w a l :=
  ⟨h.1, fun x hx => ⟨(h.2.1 x hx).1.mono hs, (h.2.1 x hx).2.mono hs⟩, h.2.2.imp id fun ⟨b, off, e, h1, h2, hc⟩ => ⟨b, off, e, hs b h2 h1, h2, hc⟩⟩
theorem CgS.at {S : Nat → Prop} {w : World} {a : Ptr} {l : List Cg} (h : CgS S w a l) {i : Nat} (hi : i < l.length) : ∃ b off, a = some ⟨b, off, none⟩ ∧ b < w.heap.size ∧ w.cell? ⟨b, off + i * 3, none⟩ = some (.string (l.getD i default).t) ∧ w.cell? ⟨b, off + i * 3 + 1, none⟩ = some (l.getD i default).o.v ∧ w.cell? ⟨b, off + i * 3 + 2, none⟩ = some (l.getD i default).n.v := by
  rcases h.2.2 with h0 | ⟨b, off, e, _, hlt, hc⟩
  · rw [h0] at hi; simp at hi
  · exact ⟨b, off, e, hlt, hc i hi⟩
/-- A row of changes of one's own lies in S. -/
theorem own_cg {S : Nat → Prop} {B : Nat} {w : World} {v : Value} {l : List Cg} (h : w.ownsRow B 59 3 v l.length (l.flatMap Cg.c)) (hS : ∀ b, B ≤ b → S b) (hl : l.length ≤ 1000000) (hs : ∀ x ∈ l, RwS S w x.o.a x.o.l ∧ RwS S w x.n.a x.n.l) : ∃ a cap, v = .slice a l.length cap ∧ l.length ≤ cap ∧ CgS S w a l := by
  rcases h.2 with ⟨hv, h0⟩ | ⟨g, cap, cur, hv, hb, hg, hc, _⟩
  · exact ⟨none, 0, by rw [hv, h0], by omega, hl, hs, .inl (List.eq_nil_of_length_eq_zero h0)⟩
  · have hlt := (h.lt g (by rw [hv]; rfl)).2
    refine ⟨some ⟨g, 0, none⟩, cap, hv, hc, hl, hs, .inr ⟨g, 0, rfl, hS g hb, hlt, fun i hi => ?_⟩⟩
    have c := h.cells (g := g) (by rw [hv]; rfl)
    have k := cg_at l i hi
    have c0 := c _ _ k.1
    have c1 := c _ _ k.2.1
    have c2 := c _ _ k.2.2
    rw [add_atT] at c0 c1 c2
    exact ⟨c0, c1, c2⟩
theorem cg_cells {S : Nat → Prop} {w : World} {ad : Addr} {l : List Cg} (h : CgS S w (some ad) l) : ∀ j u, (l.flatMap Cg.c)[j]? = some u → w.cell? (ad.add j) = some u := by
  intro j u hj
  rcases h.2.2 with h0 | ⟨b, off, e, _, hlt, hc⟩
  · rw [h0] at hj; simp at hj
  · cases e
    have hjl : j < l.length * 3 := by have := (List.getElem?_eq_some_iff.1 hj).1; rw [cg_len] at this; exact this
    have hk := cg_at l (j / 3) (by omega)
    have hcc := hc (j / 3) (by omega)
    rw [add_atT]
    obtain h3 | h3 | h3 : j = j / 3 * 3 ∨ j = j / 3 * 3 + 1 ∨ j = j / 3 * 3 + 2 := by omega
    · rw [h3] at hj ⊢
      rw [hk.1] at hj; cases hj; exact hcc.1
    · rw [h3] at hj ⊢
      rw [show off + (j / 3 * 3 + 1) = off + j / 3 * 3 + 1 by omega]
      rw [hk.2.1] at hj; cases hj; exact hcc.2.1
    · rw [h3] at hj ⊢
      rw [show off + (j / 3 * 3 + 2) = off + j / 3 * 3 + 2 by omega]
      rw [hk.2.2] at hj; cases hj; exact hcc.2.2
set_option maxRecDepth 100000 in
set_option maxHeartbeats 1600000 in
theorem cloneCg_any (S : Nat → Prop) (a : Option Addr) (cap : Nat) (l : List Cg) (w : World) (h : CgS S w a l) :
    Calls Tryz.prog 69 #[.slice a l.length cap] w fun e w' => (∃ a' cap', e = .returned (.slice a' l.length cap') ∧ l.length ≤ cap' ∧ w'.ownsRow w.heap.size 59 3 (.slice a' l.length cap') l.length (l.flatMap Cg.c)) ∧ w.grownBy w' none := by
  cases a with
  | none =>
    obtain rfl : l = [] := by
      rcases h.2.2 with h | ⟨b, off, e, _⟩
      · exact h
      · cases e
    have hE : ∀ w, (binOp .eql 34 (.slice none 0 cap) (.slice none 0 0)).run Tryz.prog w = .ok (.bool true) w := fun w => Lib.run_eql_slice_nil w _ _ _ _ _ _ _ Tryz.underlying34
    clear h
    go_enter Tryz.func69, Tryz.ntmps69
    go_wp2_with fail
    go_ret
    exact ⟨⟨none, 0, rfl, Nat.le_refl _, World.ownsRow_nil _ _ _ _⟩, grown_reflT _ _⟩
  | some ad =>
    have HC : Hid (∀ W, w.grownBy W none → ∀ j u, (l.flatMap Cg.c)[j]? = some u → W.cell? (ad.add j) = some u) := Lib.hid fun W hW => cg_cells (h.keep (.of hW))
    have HL := Lib.hid (cg_len l)
    have hl := h.1
    obtain ⟨m, hm⟩ : ∃ m, m = l.length := ⟨_, rfl⟩
    have Hm := Lib.hid hm
    rw [← hm] at HL hl ⊢
    clear h hm
    obtain ⟨i0, hi, hz0, hz1, hz2⟩ := info_partsT cg_info
    have hE : ∀ w, (binOp .eql 34 (.slice (some ad) m cap) (.slice none 0 0)).run Tryz.prog w = .ok (.bool false) w := fun w => Lib.run_eql_slice_nil w _ _ _ _ _ _ _ Tryz.underlying34
    go_enter Tryz.func69, Tryz.ntmps69
    go_wp2_with (at_builtin; refine wpList_append_own _ rfl _ _ 34 rfl w.heap.size 59 i0 (.agg #[.string ⟨#[]⟩, .slice none 0 0, .slice none 0 0]) 3 64 Tryz.underlying34 hi hz0 hz1 hz2 rfl (by decide) _ 0 [] rfl (own_madeT _ _ w _ _ rfl (Nat.le_refl _)) ad m cap (l.flatMap Cg.c) rfl HL.out ?c1 ?c2 ?c3 ?c4 ?c5 ?_)
    case c1 => exact HC.out _ (World.grownBy_alloc _ _ _)
    case c2 => exact cg_one _
    case c3 => unfold maxLen; omega
    case c4 => omega
    case c5 => simp
    intro v' w3 hown' hgrow _
    have K3 := Lib.hid (grown_thenT (World.grownBy_alloc w _ none) hgrow (by intro j hj; simp [Value.ownBlock] at hj; omega))
    have O3 := Lib.hid (show w3.ownsRow w.heap.size 59 3 v' m (l.flatMap Cg.c) by simpa using hown')
    clear hown' hgrow
    go_wp2_with fail
    go_ret
    obtain ⟨a', cap', hv, hw, _⟩ := own_win O3.out
    have hO := O3.out
    rw [hv] at hO
    exact ⟨⟨a', cap', congrArg Ending.returned hv, hw.le, hO⟩, K3.out⟩
end Go.Proofs.YtnfpomjcofhppaaGreatDoor
namespace Go.Proofs.YtnfpomjcofhppaaGreatDoor
open Go.RowKit

theorem vlo_trans (x y z : Vl) (h1 : x.ord y ≤ 0) (h2 : y.ord z ≤ 0) : x.ord z ≤ 0 ∧ (x.ord z = 0 → x.ord y = 0 ∧ y.ord z = 0) := ordC_trans x.k x.n x.s y.k y.n y.s z.k z.n z.s h1 h2
theorem ro_trans : ∀ l m n : List Vl, rowsOrd l m < 0 → rowsOrd m n < 0 → rowsOrd l n < 0
  | [], [], _, h, _ => by simp [rowsOrd] at h
  | [], _ :: _, [], _, h => by simp [rowsOrd] at h
  | [], _ :: _, _ :: _, _, _ => by simp [rowsOrd]
  | _ :: _, [], _, h, _ => by simp [rowsOrd] at h
  | _ :: _, _ :: _, [], _, h => by simp [rowsOrd] at h
  | x :: l, y :: m, z :: n, h1, h2 => by
    have ih := ro_trans l m n
    simp only [rowsOrd] at h1 h2 ⊢
    have hxy : x.ord y ≤ 0 := by split at h1 <;> omega
    have hyz : y.ord z ≤ 0 := by split at h2 <;> omega
    have ht := vlo_trans x y z hxy hyz
    by_cases hz : x.ord z = 0
    · obtain ⟨e1, e2⟩ := ht.2 hz
      rw [if_neg (by omega)] at h1 h2
      rw [if_neg (by omega)]
      exact ih h1 h2
    · rw [if_pos hz]
      have := ht.1
      omega
theorem ro_ord : Tr.IsOrd rowsOrd := ⟨ro_zero, ro_turn, ro_trans⟩
theorem from_nil (l : List (List Vl × List Vl)) : fromL [] l = l := by
  unfold fromL
  rw [List.filter_eq_self]
  intro x _
  have : ¬ rowsOrd x.1 [] < 0 := by
    cases x.1 with
    | nil => simp [rowsOrd]
    | cons a l => simp [rowsOrd]
  simp [this]
set_option maxRecDepth 100000 in
set_option maxHeartbeats 3200000 in
theorem rowsT_any (S : Nat → Prop) (t : Tre) (p : Ptr) (w : World) (ht : TrAt S w t p) (hs : Tr.Sorted rowsOrd t.toL) (hn : t.n ≤ 100000000) :
    Calls Tryz.prog 31 #[.pointer p] w fun e w' => (∃ (vo : Value) (done : List Rw), e = .returned vo ∧ w'.ownsRow w.heap.size 55 1 vo done.length (done.map Rw.v) ∧ (∀ x ∈ done, RwS (fun b => w.heap.size ≤ b) w' x.a x.l) ∧ done.map Rw.l = t.toL.map Prod.snd) ∧ w.grownBy w' none := by
  have HL := Lib.hid (len_any S t p w ht)
  have HF := Lib.hid (from_any ro_ord S t p none 0 [] (t.n : Nat) w ht hs hn ⟨by simp, by simp, .inl rfl⟩ (by simp))
  have e : ((fromL [] t.toL).map Prod.snd).take ((t.n : Nat) : Int).toNat = t.toL.map Prod.snd := by
    rw [from_nil, List.take_of_length_le]
    rw [List.length_map, Int.toNat_natCast, Tr.n_toL]
    exact Nat.le_refl _
  rw [e] at HF
  simp only [List.length_nil] at HF
  clear ht hs e
  generalize t.n = n at *
  go_enter Tryz.func31, Tryz.ntmps31
  go_wp2_with fail
  refine HL.out.mono ?_
  rintro e w1 ⟨rfl, rfl⟩
  go_wp2_with fail
  refine HF.out.mono ?_
  rintro e w2 ⟨⟨vo, done, rfl, h1, h2, h3⟩, hg⟩
  have D := Lib.hid (And.intro h1 (And.intro h2 (And.intro h3 hg)))
  obtain ⟨ao, cap, hvo⟩ := own_slice h1
  clear h1 h2 h3 hg
  subst hvo
  go_wp2_with fail
  go_ret
  exact ⟨⟨_, done, rfl, D.out.1, D.out.2.1, D.out.2.2.1⟩, D.out.2.2.2⟩
set_option maxRecDepth 100000 in
set_option maxHeartbeats 3200000 in
theorem Put_any (S : Nat → Prop) (t : Tre) (p ka va : Ptr) (kc vc : Nat) (k v : List Vl) (w : World) (hS : ∀ b, w.heap.size ≤ b → S b) (ht : TrAt S w t p) (hk : RowAt w ka k) (hv : RowAt w va v) (hkl : k.length ≤ 4294967296) (hvl : v.length ≤ 4294967296) (hn : t.n ≤ 1000000000) :
    Makes 67 #[.pointer p, .slice ka k.length kc, .slice va v.length vc] w (fun W q => TrAt S W (Tr.put rowsOrd k v t) q) := by
  have C1 := Lib.hid (clone_any S ka kc k w hk hkl hS)
  have C2 := Lib.hid (fun W (hW : w.grownBy W none) => clone_any S va vc v W (hv.keep (below_grownT hW)) hvl (hsS hS hW))
  have HP := Lib.hid (fun W (hW : w.grownBy W none) ka' kc' va' vc' (h1 : RwS S W ka' k) (h2 : RwS S W va' v) => Makes.calls (put_any S k v ka' va' kc' vc' t p W (hsS hS hW) (ht.keep (.of hW)) h1 h2 hn))
  clear ht hk hv hkl hvl hn hS
  unfold Makes
  generalize k.length = m at *
  generalize v.length = q at *
  go_enter Tryz.func67, Tryz.ntmps67
  go_wp2_with fail
  refine C1.out.mono ?_
  rintro e w1 ⟨⟨a1, c1, rfl, _, h1⟩, hg1⟩
  have G1 := Lib.hid hg1
  have H1 := Lib.hid h1
  clear h1 hg1
  go_wp2_with fail
  refine (C2.out _ G1.out).mono ?_
  rintro e w2 ⟨⟨a2, c2, rfl, _, h2⟩, hg2⟩
  have G2 := Lib.hid (G1.out.trans hg2)
  have HPc := Lib.hid (HP.out _ (G1.out.trans hg2) a1 c1 a2 c2 (H1.out.keep (.of hg2)) h2)
  clear h2 hg2
  go_wp2_with fail
  refine HPc.out.mono ?_
  rintro e w3 ⟨⟨q, rfl, hq⟩, hg3⟩
  have D := Lib.hid (And.intro hq (G2.out.trans hg3))
  clear hq hg3
  go_wp2_with fail
  go_ret
  exact ⟨⟨_, rfl, D.out.1⟩, D.out.2⟩
end Go.Proofs.YtnfpomjcofhppaaGreatDoor
