/- Changes in memory; the document's SameChanges; what Diff has in hand. -/
import Derived.Test.YtlmoefiajioeoaaDfM
import Derived.Test.YtlmoefiajioeoaaTrDf
import Derived.Test.YtlmoefiajioeoaaTrA
import Derived.Deep.RegionHeld3
namespace Go.Proofs.Ytlmoefiajioeoaa
open Go.RowKit

/-- A change: the row that was, the one that is. -/
structure Cw where
  o : Rw
  n : Rw
instance : Inhabited Cw := ⟨⟨default, default⟩⟩
def Cw.p (x : Cw) : List Vl × List Vl := (x.o.l, x.n.l)
def Cw.c (x : Cw) : List Value := [.string ⟨#[]⟩, x.o.v, x.n.v]
theorem cc_len (l : List Cw) : (l.flatMap Cw.c).length = l.length * 3 := by
  induction l with
  | nil => rfl
  | cons x l ih => rw [List.flatMap_cons, List.length_append, ih]; simp [Cw.c]; omega
theorem cc_at (l : List Cw) : ∀ i, i < l.length → (l.flatMap Cw.c)[i * 3]? = some (.string ⟨#[]⟩) ∧ (l.flatMap Cw.c)[i * 3 + 1]? = some (l.getD i default).o.v ∧ (l.flatMap Cw.c)[i * 3 + 2]? = some (l.getD i default).n.v := by
  induction l with
  | nil => intro i hi; simp at hi
  | cons x l ih =>
    intro i hi
    rw [List.flatMap_cons]
    match i, hi with
    | 0, _ => exact ⟨rfl, rfl, rfl⟩
    | i + 1, hi =>
      have := ih i (by simpa using hi)
      have e : ∀ o, (Cw.c x ++ l.flatMap Cw.c)[(i + 1) * 3 + o]? = (l.flatMap Cw.c)[i * 3 + o]? := fun o => by
        rw [List.getElem?_append_right (by simp [Cw.c]; omega)]
        congr 1
        simp [Cw.c]
        omega
      have e0 := e 0
      simp only [Nat.add_zero] at e0
      rw [e0, e 1, e 2]
      simpa [List.getD] using this
theorem chg_info : (Try.prog.info? 93).map (fun i => (i.zero, i.size, i.bytes)) = some (some (.agg #[.string ⟨#[]⟩, .slice none 0 0, .slice none 0 0]), 3, 64) := by kernel_rfl
/-- A slice of changes in memory. -/
def CsAt (w : World) (a : Ptr) (l : List Cw) : Prop :=
  l.length ≤ 1000000 ∧ (∀ x ∈ l, RwS Any w x.o.a x.o.l ∧ RwS Any w x.n.a x.n.l) ∧ (l = [] ∨ ∃ b off, a = some ⟨b, off, none⟩ ∧ ∀ i, i < l.length → w.cell? ⟨b, off + i * 3, none⟩ = some (.string ⟨#[]⟩) ∧ w.cell? ⟨b, off + i * 3 + 1, none⟩ = some (l.getD i default).o.v ∧ w.cell? ⟨b, off + i * 3 + 2, none⟩ = some (l.getD i default).n.v)
theorem CsAt.keep {w w' : World} {a : Ptr} {l : List Cw} (h : CsAt w a l) (hg : w.grownBy w' none) : CsAt w' a l :=
  ⟨h.1, fun x hx => ⟨(h.2.1 x hx).1.keep (.of hg), (h.2.1 x hx).2.keep (.of hg)⟩, h.2.2.imp id fun ⟨b, off, e, hc⟩ => ⟨b, off, e, fun i hi => ⟨hg.cell (hc i hi).1 (by simp), hg.cell (hc i hi).2.1 (by simp), hg.cell (hc i hi).2.2 (by simp)⟩⟩⟩
theorem CsAt.at {w : World} {a : Ptr} {l : List Cw} (h : CsAt w a l) {i : Nat} (hi : i < l.length) : ∃ b off, a = some ⟨b, off, none⟩ ∧ w.cell? ⟨b, off + i * 3, none⟩ = some (.string ⟨#[]⟩) ∧ w.cell? ⟨b, off + i * 3 + 1, none⟩ = some (l.getD i default).o.v ∧ w.cell? ⟨b, off + i * 3 + 2, none⟩ = some (l.getD i default).n.v := by
  rcases h.2.2 with h0 | ⟨b, off, e, hc⟩
  · rw [h0] at hi; simp at hi
  · exact ⟨b, off, e, hc i hi⟩
theorem own_cs {B : Nat} {w : World} {v : Value} {l : List Cw} (h : w.ownsRow B 93 3 v l.length (l.flatMap Cw.c)) (hl : l.length ≤ 1000000) (hs : ∀ x ∈ l, RwS Any w x.o.a x.o.l ∧ RwS Any w x.n.a x.n.l) : ∃ a cap, v = .slice a l.length cap ∧ l.length ≤ cap ∧ CsAt w a l := by
  rcases h.2 with ⟨hv, h0⟩ | ⟨g, cap, cur, hv, hb, hg, hc, _⟩
  · exact ⟨none, 0, by rw [hv, h0], by omega, hl, hs, .inl (List.eq_nil_of_length_eq_zero h0)⟩
  · refine ⟨some ⟨g, 0, none⟩, cap, hv, hc, hl, hs, .inr ⟨g, 0, rfl, fun i hi => ?_⟩⟩
    have c := h.cells (g := g) (by rw [hv]; rfl)
    have k := cc_at l i hi
    have c0 := c _ _ k.1
    have c1 := c _ _ k.2.1
    have c2 := c _ _ k.2.2
    rw [add_atT] at c0 c1 c2
    exact ⟨c0, c1, c2⟩
set_option maxRecDepth 100000 in
set_option maxHeartbeats 12800000 in
theorem sameChanges_any (a a' : Ptr) (cap cap' : Nat) (l l' : List Cw) (w : World) (h : CsAt w a l) (h' : CsAt w a' l') (hc : l.length ≤ cap) (hc' : l'.length ≤ cap') (he : l.map Cw.p = l'.map Cw.p) :
    Calls Try.prog 17 #[.slice a l.length cap, .slice a' l'.length cap'] w fun e w' => e = .returned (.bool true) ∧ w.grownBy w' none := by
  have hlen : l'.length = l.length := by have := congrArg List.length he; simpa using this.symm
  have hp : ∀ i, i < l.length → (l.getD i default).o.l = (l'.getD i default).o.l ∧ (l.getD i default).n.l = (l'.getD i default).n.l := fun i hi => by
    have := congrArg (fun x => x[i]?) he
    have e : Cw.p l[i] = Cw.p l'[i] := by simpa [hi, show i < l'.length by omega] using this
    simp only [Cw.p, Prod.mk.injEq] at e
    simpa [List.getD, hi, show i < l'.length by omega] using e
  have HS := Lib.hid (fun i (hi : i < l.length) W (hW : w.grownBy W none) => show (Calls Try.prog 39 #[(l.getD i default).o.v, (l'.getD i default).o.v] W fun e w' => e = .returned (.bool true) ∧ W.grownBy w' none) ∧ (Calls Try.prog 39 #[(l.getD i default).n.v, (l'.getD i default).n.v] W fun e w' => e = .returned (.bool true) ∧ W.grownBy w' none) by
    have m := (h.keep hW).2.1 (l.getD i default) (by simp [List.getD, hi])
    have m' := (h'.keep hW).2.1 (l'.getD i default) (by simp [List.getD, show i < l'.length by omega])
    have e1 : (rowsOrd (l.getD i default).o.l (l'.getD i default).o.l == 0) = true := by rw [(hp i hi).1]; simp [(ro_zero _ _).2 rfl]
    have e2 : (rowsOrd (l.getD i default).n.l (l'.getD i default).n.l == 0) = true := by rw [(hp i hi).2]; simp [(ro_zero _ _).2 rfl]
    exact ⟨(refSame_any _ _ _ _ _ _ W m.1.row m'.1.row).mono fun e w' h => ⟨by rw [h.1, e1], grown_belowT h.2 none⟩, (refSame_any _ _ _ _ _ _ W m.2.row m'.2.row).mono fun e w' h => ⟨by rw [h.1, e2], grown_belowT h.2 none⟩⟩)
  have H := Lib.hid (And.intro h h')
  have hl := h.1
  rw [hlen] at hc' ⊢
  obtain ⟨n, hn⟩ : ∃ n, n = l.length := ⟨_, rfl⟩
  have Hn := Lib.hid (And.intro hn hlen)
  rw [← hn] at hl hc hc' HS ⊢
  clear h h' he hn hlen hp
  go_enter Try.func17, Try.ntmps17
  go_wp2_with fail
  go_loopw [13] (fun i wr => ∃ (j : Nat), i = .int .i64 j ∧ j ≤ n ∧ Hid (w.grownBy wr none)) (fun i _ => n - (intOf i).toNat)
  case atStart => exact ⟨0, rfl, by omega, Lib.hid (grown_reflT _ _)⟩
  case round =>
    obtain ⟨j, rfl, hj, K⟩ := hrel
    by_cases hlt : j < n
    · obtain ⟨b, off, rfl, c0, c1, c2⟩ := (H.out.1.keep K.out).at (i := j) (by rw [← Hn.out.1]; exact hlt)
      obtain ⟨b', off', rfl, d0, d1, d2⟩ := (H.out.2.keep K.out).at (i := j) (by rw [Hn.out.2, ← Hn.out.1]; exact hlt)
      have HS1 := Lib.hid (fun W hW => (HS.out j hlt W (K.out.trans hW)).1)
      have HS2 := Lib.hid (fun W hW => (HS.out j hlt W (K.out.trans hW)).2)
      generalize l.getD j default = x at *
      generalize l'.getD j default = y at *
      obtain ⟨⟨oa, oc, ol⟩, ⟨na, nc, nl⟩⟩ := x
      obtain ⟨⟨oa', oc', ol'⟩, ⟨na', nc', nl'⟩⟩ := y
      simp only [Rw.v] at c1 c2 d1 d2 HS1 HS2
      have i1 : (j : Int) ≤ cap := by omega
      have i2 : (j : Int) ≤ cap' := by omega
      generalize ol.length = q1 at *
      generalize nl.length = q2 at *
      generalize ol'.length = q3 at *
      generalize nl'.length = q4 at *
      have C0 := Lib.hid (grown_drewT (grown_reflT wr none))
      have F := Lib.hid (fun (W : World) (hW : wr.grownBy W none) => show (W.cell? ⟨b, off + j * 3, none⟩ = some (.string ⟨#[]⟩) ∧ W.cell? ⟨b, off + j * 3 + 1, none⟩ = some (.slice oa q1 oc) ∧ W.cell? ⟨b, off + j * 3 + 2, none⟩ = some (.slice na q2 nc)) ∧ W.cell? ⟨b', off' + j * 3, none⟩ = some (.string ⟨#[]⟩) ∧ W.cell? ⟨b', off' + j * 3 + 1, none⟩ = some (.slice oa' q3 oc') ∧ W.cell? ⟨b', off' + j * 3 + 2, none⟩ = some (.slice na' q4 nc') from ⟨⟨hW.cell c0 (by simp), hW.cell c1 (by simp), hW.cell c2 (by simp)⟩, hW.cell d0 (by simp), hW.cell d1 (by simp), hW.cell d2 (by simp)⟩)
      go_wp2_with fail
      go_region_held3 (fun W => (W.cell? ⟨b, off + j * 3, none⟩ = some (.string ⟨#[]⟩) ∧ W.cell? ⟨b, off + j * 3 + 1, none⟩ = some (.slice oa q1 oc) ∧ W.cell? ⟨b, off + j * 3 + 2, none⟩ = some (.slice na q2 nc)) ∧ W.cell? ⟨b', off' + j * 3, none⟩ = some (.string ⟨#[]⟩) ∧ W.cell? ⟨b', off' + j * 3 + 1, none⟩ = some (.slice oa' q3 oc') ∧ W.cell? ⟨b', off' + j * 3 + 2, none⟩ = some (.slice na' q4 nc')) (first | exact F.out _ G3.out | exact F.out _ G2.out | exact F.out _ C0.out) (first
        | (go_at_call 39; (with_reducible refine (HS1.out wr.drew C0.out).mono ?_); rintro e w2 ⟨rfl, hg2⟩; have G2 := Lib.hid (C0.out.trans hg2); clear hg2)
        | (go_at_call 39; (with_reducible refine (HS2.out w2 G2.out).mono ?_); rintro e w3 ⟨rfl, hg3⟩; have G3 := Lib.hid (G2.out.trans hg3); clear hg3))
      all_goals
        go_wp2_with fail
        go_roundw
        case rel => exact ⟨j + 1, by go_num, by omega, Lib.hid (K.out.trans G3.out)⟩
        case measure => simp [intOf]; omega
    · obtain rfl : j = n := by omega
      go_wp2_with fail
      go_ret
      exact ⟨rfl, K.out⟩
end Go.Proofs.Ytlmoefiajioeoaa
