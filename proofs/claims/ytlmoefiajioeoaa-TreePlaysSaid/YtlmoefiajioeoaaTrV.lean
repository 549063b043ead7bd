/- tree's Get; the document's SameRows at rows that are the same. -/
import Derived.Test.YtlmoefiajioeoaaTrH
namespace Go.Proofs.Ytlmoefiajioeoaa
open Go.RowKit

/-- The row of a key. -/
def lookL (key : List Vl) (l : List (List Vl × List Vl)) : Option (List Vl) := (l.find? fun x => rowsOrd x.1 key == 0).map Prod.snd
def headL (key : List Vl) : List (List Vl × List Vl) → Option (List Vl)
  | [] => none
  | (k, r) :: _ => if rowsOrd k key = 0 then some r else none
theorem look_from {key : List Vl} : ∀ {l : List (List Vl × List Vl)}, Tr.Sorted rowsOrd l → lookL key l = headL key (fromL key l)
  | [], _ => rfl
  | (k, r) :: l, h => by
    have h' := List.pairwise_cons.1 h
    have ih := look_from (key := key) h'.2
    by_cases h0 : rowsOrd k key < 0
    · have e1 : fromL key ((k, r) :: l) = fromL key l := by simp [fromL, h0]
      have e2 : lookL key ((k, r) :: l) = lookL key l := by
        unfold lookL
        rw [List.find?_cons_of_neg (by simp; omega)]
      rw [e1, e2, ih]
    · have e1 : fromL key ((k, r) :: l) = (k, r) :: fromL key l := by unfold fromL; rw [List.filter_cons, if_pos (by simp; omega)]
      rw [e1]
      by_cases hz : rowsOrd k key = 0
      · simp [lookL, headL, hz]
      · have e2 : lookL key ((k, r) :: l) = lookL key l := by
          unfold lookL
          rw [List.find?_cons_of_neg (by simpa using hz)]
        rw [e2]
        simp only [headL, hz, if_false]
        unfold lookL
        rw [List.find?_eq_none.2 (fun x hx e => ?_)]
        · rfl
        · have e' : rowsOrd x.1 key = 0 := by simpa using e
          have := (ro_zero _ _).1 e'
          have hlt := h'.1 x hx
          simp only at hlt
          rw [this] at hlt
          omega
set_option maxRecDepth 100000 in
set_option maxHeartbeats 6400000 in
theorem Get_any (S : Nat → Prop) (t : Tre) (p ka : Ptr) (kc : Nat) (key : List Vl) (w : World) (ht : TrAt S w t p) (hs : Tr.Sorted rowsOrd t.toL) (hn : t.n ≤ 100000000) (hk : RowAt w ka key) (hkl : key.length ≤ 4294967296) :
    Calls Try.prog 35 #[.pointer p, .slice ka key.length kc] w fun e w' => ((∃ a c r, e = .returned (.tuple #[.slice a (List.length r) c, .bool true]) ∧ RwS (fun b => w.heap.size ≤ b) w' a r ∧ lookL key t.toL = some r) ∨ (e = .returned (.tuple #[.slice none 0 0, .bool false]) ∧ lookL key t.toL = none)) ∧ w.grownBy w' none := by
  have HW := Lib.hid (walk_any ro_ord S t p ka kc key w ht hs (by omega) hk hkl)
  have HL := Lib.hid (look_from (key := key) hs)
  have hfl : (fromL key t.toL).length ≤ 100000000 := by
    have : (fromL key t.toL).length ≤ t.toL.length := List.length_filter_le _ _
    rw [← Tr.n_toL] at this
    omega
  have HK := Lib.hid (And.intro hk hfl)
  obtain ⟨m, hm⟩ : ∃ m, m = key.length := ⟨_, rfl⟩
  have Hm := Lib.hid hm
  rw [← hm] at HW ⊢
  clear ht hs hn hk hkl hfl hm
  go_enter Try.func35, Try.ntmps35
  go_wp2_with fail
  refine HW.out.mono ?_
  rintro e w1 ⟨⟨v, xs, rfl, hw, hr, hl⟩, hg1⟩
  cases hf : fromL key t.toL with
  | nil =>
    have HN := Lib.hid (next_none _ _ _ _ _ _ _ _ _ _ w1 hw (hr.trans hf))
    rw [hf] at HL
    simp only [headL] at HL
    have G1 := Lib.hid hg1
    clear hw hr hl hg1 hf HW
    go_wp2_with fail
    refine HN.out.mono ?_
    rintro e w2 ⟨rfl, rfl⟩
    go_wp2_with fail
    go_ret2
    exact ⟨.inr ⟨rfl, HL.out⟩, G1.out⟩
  | cons kr rest =>
    obtain ⟨k, r⟩ := kr
    have hrl : rest.length ≤ 400000000 := by have := HK.out.2; rw [hf] at this; simp at this; omega
    have HN := Lib.hid (next_more ro_ord _ _ _ _ _ _ _ _ _ _ w1 k r rest hw (hr.trans hf) hrl)
    rw [hf] at HL
    have hlow := hw.own
    have hbp := hw.bp
    have G1 := Lib.hid (And.intro hg1 (And.intro hlow hbp))
    clear hw hr hl hg1 hf HW hlow hbp hrl
    go_wp2_with fail
    refine HN.out.mono ?_
    rintro e w2 ⟨⟨px, rfl, b, ka', kc', va, vc, rfl, _, _, c0, c1, h1, h2⟩, _, ho⟩
    have hg2 : w.grownBy w2 none := only_grown G1.out.1 ho (fun b hb => by
      rcases hb with rfl | hb
      · exact G1.out.2.2
      · exact (World.ownsRow.lt G1.out.2.1 b hb).1)
    have HR := Lib.hid (rows_grown ka' ka kc' kc k key w2 h1.row (HK.out.1.keep (below_grownT hg2)))
    rw [← Hm.out] at HR
    have HCl := Lib.hid (fun W (hW : w2.grownBy W none) => clone_any (fun b => w.heap.size ≤ b) va vc r W ((h2.keep (.of hW)).row) h2.1 (fun b hb => Nat.le_trans (Nat.le_trans hg2.size hW.size) hb))
    have F := Lib.hid (fun (W : World) (hW : w2.grownBy W none) => hW.cell c1 (by simp))
    have G2 := Lib.hid hg2
    clear h1 h2 ho hg2 c1
    obtain ⟨km, hkm⟩ : ∃ km, km = k.length := ⟨_, rfl⟩
    obtain ⟨rm, hrm⟩ : ∃ rm, rm = r.length := ⟨_, rfl⟩
    have Hrm := Lib.hid hrm
    rw [← hkm] at c0 HR
    rw [← hrm] at HCl F
    clear hkm hrm
    simp only [headL] at HL
    by_cases hz : rowsOrd k key = 0
    · rw [hz] at HR
      rw [if_pos hz] at HL
      clear hz
      go_wp2_with fail
      refine HR.out.mono ?_
      rintro e w3 ⟨rfl, hg3⟩
      have G3 := Lib.hid hg3
      have c1 := F.out _ hg3
      clear hg3 c0
      go_wp2_with fail
      refine (HCl.out _ G3.out).mono ?_
      rintro e w4 ⟨⟨a', c', rfl, _, hrw⟩, hg4⟩
      have D := Lib.hid (And.intro hrw ((G2.out.trans G3.out).trans hg4))
      clear hrw hg4
      go_wp2_with fail
      go_ret2
      exact ⟨.inl ⟨a', c', r, by rw [← Hrm.out]; rfl, D.out.1, HL.out⟩, D.out.2⟩
    · rw [if_neg hz] at HL
      generalize rowsOrd k key = cc at *
      have hz' : (cc != 0) = true := by simpa using hz
      clear hz
      go_wp2_with fail
      refine HR.out.mono ?_
      rintro e w3 ⟨rfl, hg3⟩
      have G3 := Lib.hid hg3
      clear hg3 c0
      go_wp2_with fail
      go_ret2
      exact ⟨.inr ⟨rfl, HL.out⟩, G2.out.trans G3.out⟩
/-- A slice of rows. -/
def RsAt (w : World) (a : Ptr) (l : List Rw) : Prop :=
  l.length ≤ 1000000000 ∧ (∀ x ∈ l, RowAt w x.a x.l) ∧ (l = [] ∨ ∃ b off, a = some ⟨b, off, none⟩ ∧ b < w.heap.size ∧ ∀ i, i < l.length → w.cell? ⟨b, off + i, none⟩ = some (l.getD i default).v)
theorem RsAt.keep {w w' : World} {a : Ptr} {l : List Rw} (h : RsAt w a l) (hg : w.grownBy w' none) : RsAt w' a l :=
  ⟨h.1, fun x hx => (h.2.1 x hx).keep (below_grownT hg), h.2.2.imp id fun ⟨b, off, e, hlt, hc⟩ => ⟨b, off, e, Nat.lt_of_lt_of_le hlt hg.size, fun i hi => hg.cell (hc i hi) (by simp)⟩⟩
theorem RsAt.at {w : World} {a : Ptr} {l : List Rw} (h : RsAt w a l) {i : Nat} (hi : i < l.length) : (∃ b off, a = some ⟨b, off, none⟩ ∧ w.cell? ⟨b, off + i, none⟩ = some (l.getD i default).v) ∧ RowAt w (l.getD i default).a (l.getD i default).l := by
  refine ⟨?_, h.2.1 _ (by simp [List.getD, hi])⟩
  rcases h.2.2 with h0 | ⟨b, off, e, _, hc⟩
  · rw [h0] at hi; simp at hi
  · exact ⟨b, off, e, hc i hi⟩
theorem own_rs {B : Nat} {S : Nat → Prop} {w : World} {v : Value} {l : List Rw} (h : w.ownsRow B 24 1 v l.length (l.map Rw.v)) (hl : l.length ≤ 1000000000) (hs : ∀ x ∈ l, RwS S w x.a x.l) : ∃ a cap, v = .slice a l.length cap ∧ l.length ≤ cap ∧ RsAt w a l := by
  rcases h.2 with ⟨hv, h0⟩ | ⟨g, cap, cur, hv, hb, hg, hc, _⟩
  · exact ⟨none, 0, by rw [hv, h0], by omega, hl, fun x hx => (hs x hx).row, .inl (List.eq_nil_of_length_eq_zero h0)⟩
  · have hlt := (h.lt g (by rw [hv]; rfl)).2
    refine ⟨some ⟨g, 0, none⟩, cap, hv, hc, hl, fun x hx => (hs x hx).row, .inr ⟨g, 0, rfl, hlt, fun i hi => ?_⟩⟩
    have c := h.cells (g := g) (by rw [hv]; rfl) i (l.getD i default).v (by simp [List.getD, hi])
    rw [add_atT] at c
    exact c
set_option maxRecDepth 100000 in
set_option maxHeartbeats 6400000 in
theorem sameRows_any (a a' : Ptr) (cap cap' : Nat) (l l' : List Rw) (w : World) (h : RsAt w a l) (h' : RsAt w a' l') (hc : l.length ≤ cap) (hc' : l'.length ≤ cap') (he : l.map Rw.l = l'.map Rw.l) :
    Calls Try.prog 15 #[.slice a l.length cap, .slice a' l'.length cap'] w fun e w' => e = .returned (.bool true) ∧ w.grownBy w' none := by
  have hlen : l'.length = l.length := by have := congrArg List.length he; simpa using this.symm
  have HS := Lib.hid (fun i (hi : i < l.length) W (hW : w.grownBy W none) => (refSame_any (l.getD i default).a (l'.getD i default).a (l.getD i default).cap (l'.getD i default).cap (l.getD i default).l (l'.getD i default).l W ((h.keep hW).at hi).2 ((h'.keep hW).at (by omega)).2).mono fun e w' h => And.intro h.1 (grown_belowT h.2 none))
  have HE := Lib.hid (fun i (hi : i < l.length) => show (rowsOrd (l.getD i default).l (l'.getD i default).l == 0) = true by
    have e1 : (l.getD i default).l = (l'.getD i default).l := by
      have := congrArg (fun x => x[i]?) he
      simpa [List.getD, hi, show i < l'.length by omega] using this
    rw [e1]
    simp [(ro_zero _ _).2 rfl])
  have H := Lib.hid (And.intro h h')
  have hl := h.1
  rw [hlen] at hc' ⊢
  obtain ⟨n, hn⟩ : ∃ n, n = l.length := ⟨_, rfl⟩
  have Hn := Lib.hid (And.intro hn hlen)
  rw [← hn] at hl hc hc' HS HE ⊢
  clear h h' he hn hlen
  go_enter Try.func15, Try.ntmps15
  go_wp2_with fail
  go_loopw [13] (fun i wr => ∃ (j : Nat), i = .int .i64 j ∧ j ≤ n ∧ Hid (w.grownBy wr none)) (fun i _ => n - (intOf i).toNat)
  case atStart => exact ⟨0, rfl, by omega, Lib.hid (grown_reflT _ _)⟩
  case round =>
    obtain ⟨j, rfl, hj, K⟩ := hrel
    by_cases hlt : j < n
    · obtain ⟨⟨b, off, rfl, c0⟩, _⟩ := (H.out.1.keep K.out).at (i := j) (by rw [← Hn.out.1]; exact hlt)
      obtain ⟨⟨b', off', rfl, c1⟩, _⟩ := (H.out.2.keep K.out).at (i := j) (by rw [Hn.out.2, ← Hn.out.1]; exact hlt)
      have HS1 := Lib.hid (fun W hW => HS.out j hlt W (K.out.trans hW))
      rw [HE.out j hlt] at HS1
      generalize l.getD j default = x at *
      generalize l'.getD j default = y at *
      obtain ⟨xa, xc, xl⟩ := x
      obtain ⟨ya, yc, yl⟩ := y
      simp only [Rw.v] at c0 c1 HS1
      have i1 : (j : Int) ≤ cap := by omega
      have i2 : (j : Int) ≤ cap' := by omega
      generalize xl.length = xm at *
      generalize yl.length = ym at *
      go_wp2_with fail
      go_region_with (go_at_call 39; (with_reducible refine (HS1.out _ (by first | exact grown_drewT (grown_reflT _ _) | exact grown_reflT _ _)).mono ?_); rintro e w2 ⟨rfl, hg2⟩; have G2 := Lib.hid ((grown_drewT (grown_reflT wr none)).trans hg2); clear hg2)
      all_goals
        go_wp2_with fail
        go_roundw
        case rel => exact ⟨j + 1, by go_num, by omega, Lib.hid (K.out.trans G2.out)⟩
        case measure => simp [intOf]; omega
    · obtain rfl : j = n := by omega
      go_wp2_with fail
      go_ret
      exact ⟨rfl, K.out⟩
end Go.Proofs.Ytlmoefiajioeoaa
