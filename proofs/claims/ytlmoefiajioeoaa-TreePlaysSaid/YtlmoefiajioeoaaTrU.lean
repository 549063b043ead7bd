/- The document's lists of pairs: Put. -/
import Derived.Test.YtlmoefiajioeoaaTrQ
namespace Go.Proofs.Ytlmoefiajioeoaa
open Go.RowKit

theorem own_ps2 {S : Nat → Prop} {B : Nat} {w : World} {v : Value} {l : List Pw} (h : w.ownsRow B 91 2 v l.length (l.flatMap Pw.c)) (hS : ∀ b, B ≤ b → S b) (hl : l.length ≤ 100000) (hs : ∀ x ∈ l, RwS S w x.k.a x.k.l ∧ RwS S w x.r.a x.r.l) : ∃ a cap, v = .slice a l.length cap ∧ l.length ≤ cap ∧ PsS S w a l := by
  obtain ⟨a, cap, hv, hp⟩ := own_ps h hS hl hs
  refine ⟨a, cap, hv, ?_, hp⟩
  rcases h.2 with ⟨e, h0⟩ | ⟨g, c, cur, e, _, _, q, _⟩
  · omega
  · rw [hv] at e; cases e; exact q
theorem delP_mem {k : List Vl} {l : List Pw} {x : Pw} (h : x ∈ delP k l) : x ∈ l := (List.mem_filter.1 h).1
theorem delP_len (k : List Vl) (l : List Pw) : (delP k l).length ≤ l.length := List.length_filter_le _ _
theorem refDelete_ps (S : Nat → Prop) (a ka : Ptr) (cap kc : Nat) (l : List Pw) (k : List Vl) (w : World) (hS : ∀ b, w.heap.size ≤ b → S b) (h : PsS S w a l) (hcap : l.length ≤ cap) (hk : RowAt w ka k) :
    Calls Try.prog 33 #[.slice a l.length cap, .slice ka k.length kc] w fun e w' => (∃ a' cap', e = .returned (.slice a' (delP k l).length cap') ∧ (delP k l).length ≤ cap' ∧ PsS S w' a' (delP k l)) ∧ w.grownBy w' none := by
  refine (refDelete_any S a ka cap kc l k w h hcap hk).mono ?_
  rintro e w' ⟨⟨v, rfl, ho⟩, hg⟩
  obtain ⟨a', cap', rfl, hc, hp⟩ := own_ps2 (S := S) ho hS (Nat.le_trans (delP_len k l) h.1) (fun x hx => ⟨(h.2.1 x (delP_mem hx)).1.keep (.of hg), (h.2.1 x (delP_mem hx)).2.keep (.of hg)⟩)
  exact ⟨⟨a', cap', rfl, hc, hp⟩, hg⟩
/-- A pair is put ahead of the first greater key. -/
def insP (x : Pw) : List Pw → List Pw
  | [] => [x]
  | y :: l => if rowsOrd x.k.l y.k.l < 0 then x :: y :: l else y :: insP x l
theorem insP_len (x : Pw) : ∀ l : List Pw, (insP x l).length = l.length + 1
  | [] => rfl
  | y :: l => by
    simp only [insP]
    split
    · rfl
    · simp [insP_len x l]
theorem insP_mem {x y : Pw} : ∀ {l : List Pw}, y ∈ insP x l → y = x ∨ y ∈ l
  | [], h => by simpa [insP] using h
  | z :: l, h => by
    simp only [insP] at h
    split at h
    · simpa using h
    · rcases List.mem_cons.1 h with h | h
      · exact .inr (by simp [h])
      · rcases insP_mem h with h | h
        · exact .inl h
        · exact .inr (by simp [h])
/-- How far Put has come. -/
def PutSt (x : Pw) (D O : List Pw) (j : Nat) (d : Bool) : Prop := (d = false ∧ O = D.take j ∧ insP x D = D.take j ++ insP x (D.drop j)) ∨ (d = true ∧ insP x D = O ++ D.drop j)
theorem drop_at {D : List Pw} {j : Nat} (h : j < D.length) : D.drop j = D.getD j default :: D.drop (j + 1) := by
  rw [List.drop_eq_getElem_cons h]; simp [List.getD, h]
theorem take_at {D : List Pw} {j : Nat} (h : j < D.length) : D.take (j + 1) = D.take j ++ [D.getD j default] := by
  rw [List.take_succ_eq_append_getElem h]; simp [List.getD, h]
theorem PutSt.lt {x : Pw} {D O : List Pw} {j : Nat} (h : PutSt x D O j false) (hj : j < D.length) (hc : rowsOrd x.k.l (D.getD j default).k.l < 0) : PutSt x D (O ++ [x] ++ [D.getD j default]) (j + 1) true := by
  rcases h with ⟨_, rfl, h⟩ | ⟨h, _⟩
  · refine .inr ⟨rfl, ?_⟩
    rw [h, drop_at hj]
    generalize D.getD j default = y at *
    simp [insP, hc]
  · cases h
theorem PutSt.ge {x : Pw} {D O : List Pw} {j : Nat} (h : PutSt x D O j false) (hj : j < D.length) (hc : ¬ rowsOrd x.k.l (D.getD j default).k.l < 0) : PutSt x D (O ++ [D.getD j default]) (j + 1) false := by
  rcases h with ⟨_, rfl, h⟩ | ⟨h, _⟩
  · refine .inl ⟨rfl, (take_at hj).symm, ?_⟩
    rw [h, drop_at hj, take_at hj]
    generalize D.getD j default = y at *
    simp [insP, hc]
  · cases h
theorem PutSt.go {x : Pw} {D O : List Pw} {j : Nat} (h : PutSt x D O j true) (hj : j < D.length) : PutSt x D (O ++ [D.getD j default]) (j + 1) true := by
  rcases h with ⟨h, _⟩ | ⟨_, h⟩
  · cases h
  · refine .inr ⟨rfl, ?_⟩
    rw [h, drop_at hj]
    simp
theorem own_more {w : World} {B g cp q : Nat} {O : List Pw} {x : Pw} (h : w.ownsRow B 91 2 (.slice (some ⟨g, 0, none⟩) (q + 1) cp) (q + 1) (O.flatMap Pw.c ++ [x.k.v, x.r.v])) : w.ownsRow B 91 2 (.slice (some ⟨g, 0, none⟩) (q + 1) cp) (q + 1) ((O ++ [x]).flatMap Pw.c) := by
  rw [List.flatMap_append, List.flatMap_cons, List.flatMap_nil, List.append_nil]
  exact h
theorem cells_far {S : Nat → Prop} {w w1 wr w3 w4 : World} {D : List Pw} {v : Value} {n : Nat} {xs : List Value} {b off j : Nat} {x y : Value} (hP : PsS S w1 (some ⟨b, off, none⟩) D ∧ w.grownBy w1 none) (_hgr : w1.grownBy wr none) (hj : j < D.length) (ho : wr.ownsRow w1.heap.size 91 2 v n xs) (hg : w3.grownBy w4 v.ownBlock) (hf : w3.cell? ⟨b, off + j * 2, none⟩ = some x ∧ w3.cell? ⟨b, off + j * 2 + 1, none⟩ = some y) : w4.cell? ⟨b, off + j * 2, none⟩ = some x ∧ w4.cell? ⟨b, off + j * 2 + 1, none⟩ = some y := by
  obtain ⟨b', off', e, hlt, _⟩ := hP.1.at hj
  cases e
  have hne : some b ≠ v.ownBlock := fun e => by have := (World.ownsRow.lt ho b e.symm).1; omega
  exact ⟨hg.cell hf.1 hne, hg.cell hf.2 hne⟩
set_option maxRecDepth 100000 in
set_option maxHeartbeats 12800000 in
theorem refPut_any (S : Nat → Prop) (a ka ra : Ptr) (cap kc rc : Nat) (l : List Pw) (k r : List Vl) (w : World) (hS : ∀ b, w.heap.size ≤ b → S b) (h : PsS S w a l) (hcap : l.length ≤ cap) (hk : RwS S w ka k) (hr : RwS S w ra r) (hkg : k.all Vl.good = true) (hlg : ∀ x ∈ l, x.k.l.all Vl.good = true) (hl : l.length ≤ 90000) :
    Calls Try.prog 34 #[.slice a l.length cap, .slice ka k.length kc, .slice ra r.length rc] w fun e w' => (∃ a' cap', e = .returned (.slice a' (insP ⟨⟨ka, kc, k⟩, ⟨ra, rc, r⟩⟩ (delP k l)).length cap') ∧ (insP ⟨⟨ka, kc, k⟩, ⟨ra, rc, r⟩⟩ (delP k l)).length ≤ cap' ∧ PsS S w' a' (insP ⟨⟨ka, kc, k⟩, ⟨ra, rc, r⟩⟩ (delP k l))) ∧ w.grownBy w' none := by
  have HD := Lib.hid (refDelete_ps S a ka cap kc l k w hS h hcap hk.row)
  have HG := Lib.hid (fun x (hx : x ∈ delP k l) => hlg x (delP_mem hx))
  have HDl := Nat.le_trans (delP_len k l) hl
  have HK := Lib.hid (And.intro hk (And.intro hr hkg))
  have HSS := Lib.hid hS
  obtain ⟨D, hD⟩ : ∃ D, D = delP k l := ⟨_, rfl⟩
  rw [← hD] at HD HG HDl ⊢
  obtain ⟨X, hX⟩ : ∃ X : Pw, X = ⟨⟨ka, kc, k⟩, ⟨ra, rc, r⟩⟩ := ⟨_, rfl⟩
  have HX := Lib.hid hX
  rw [← hX]
  obtain ⟨m, hm⟩ : ∃ m, m = k.length := ⟨_, rfl⟩
  obtain ⟨rm, hrm⟩ : ∃ rm, rm = r.length := ⟨_, rfl⟩
  have Hm := Lib.hid hm
  have Hrm := Lib.hid hrm
  rw [← hm] at HD ⊢
  rw [← hrm]
  generalize l.length = ln at *
  clear h hk hr hkg hlg hD hX hm hrm hS
  obtain ⟨i0, hi, hz0, hz1, hz2⟩ := info_partsT pair_info
  go_enter Try.func34, Try.ntmps34
  go_wp2_with fail
  refine HD.out.mono ?_
  rintro e w1 ⟨⟨a1, cap1, rfl, hcap1, hp1⟩, hg1⟩
  have HP := Lib.hid (And.intro hp1 hg1)
  have HRo := Lib.hid (fun i (hi : i < D.length) W (hW : w1.grownBy W none) => (refRows_any ka (D.getD i default).k.a kc (D.getD i default).k.cap k (D.getD i default).k.l W (HK.out.1.keep (.of (hg1.trans hW))).row ((hp1.mem hi).1.keep (.of hW)).row HK.out.2.2 (HG.out _ (by simp [List.getD, hi]))).mono fun e w' h => And.intro h.1 (grown_belowT h.2 none))
  obtain ⟨n, hn⟩ : ∃ n, n = D.length := ⟨_, rfl⟩
  have Hn := Lib.hid hn
  rw [← hn] at HDl HRo hcap1 ⊢
  rw [← Hm.out] at HRo
  clear hp1 hg1 hn HD
  go_wp2_with fail
  go_loopw [7, 8, 15] (fun s d i wr => ∃ (ao : Ptr) (q co j : Nat) (dn : Bool), s = .slice ao q co ∧ d = .bool dn ∧ i = .int .i64 j ∧ j ≤ n ∧ q ≤ j + 1 ∧ Hid (∃ O : List Pw, O.length = q ∧ PutSt X D O j dn ∧ wr.ownsRow w1.heap.size 91 2 (.slice ao q co) q (O.flatMap Pw.c) ∧ w1.grownBy wr none)) (fun _ _ i _ => n - (intOf i).toNat)
  case atStart => exact ⟨none, 0, 0, 0, false, rfl, rfl, rfl, by omega, by omega, Lib.hid ⟨[], rfl, .inl ⟨rfl, by simp, by simp⟩, World.ownsRow_nil _ _ _ _, grown_reflT _ _⟩⟩
  case round =>
    obtain ⟨ao, q, co, j, dn, rfl, rfl, rfl, hj, hqj, I⟩ := hrel
    by_cases hlt : j < n
    · obtain ⟨O, hO, hst, hown, hgr⟩ := I.out
      obtain ⟨b, off, rfl, hb, c0, c1⟩ := (HP.out.1.keep (.of hgr)).at (i := j) (by rw [← Hn.out]; exact hlt)
      have HR1 := Lib.hid (HRo.out j hlt wr hgr)
      have hjD : j < D.length := by rw [← Hn.out]; exact hlt
      obtain ⟨x, hx⟩ : ∃ x, x = D.getD j default := ⟨_, rfl⟩
      have Hx := Lib.hid hx
      rw [← hx] at c0 c1 HR1
      clear hx
      obtain ⟨⟨xka, xkc, xkl⟩, ⟨xra, xrc, xrl⟩⟩ := x
      simp only [Rw.v] at c0 c1 HR1
      have HJ := Lib.hid (And.intro hO (And.intro hst (And.intro hown hgr)))
      have hB : w1.heap.size ≤ wr.heap.size := hgr.size
      have i1 : (j : Int) ≤ cap1 := by omega
      clear hown hgr I hst
      obtain ⟨y, hy⟩ : ∃ y, y = xkl.length := ⟨_, rfl⟩
      obtain ⟨z, hz⟩ : ∃ z, z = xrl.length := ⟨_, rfl⟩
      have Hy := Lib.hid hy
      have Hz := Lib.hid hz
      rw [← hy] at c0 HR1
      rw [← hz] at c1
      clear hy hz hjD
      have F := Lib.hid (fun (W : World) (hW : wr.grownBy W none) => And.intro (hW.cell c0 (by simp)) (hW.cell c1 (by simp)))
      cases dn
      · by_cases hc : rowsOrd k xkl < 0
        · generalize hcc : rowsOrd k xkl = cc at *
          have Hcc := Lib.hid hcc
          clear hcc
          go_wp2_with fail
          refine HR1.out.mono ?_
          rintro e w2 ⟨rfl, hg2⟩
          have G2 := Lib.hid hg2
          have O2 := Lib.hid (World.ownsRow.kept HJ.out.2.2.1 hg2 (by cases (Value.slice ao q co).ownBlock <;> simp))
          have hB2 : w1.heap.size ≤ w2.heap.size := Nat.le_trans hB hg2.size
          clear hg2 c0 c1
          go_wp2_with (at_builtin; refine wpList_append_lies _ rfl _ _ 29 rfl w1.heap.size 91 i0 (.agg #[.slice none 0 0, .slice none 0 0]) 2 48 Try.underlying29 hi hz0 hz1 hz2 rfl (by decide) (.slice ao q co) q (O.flatMap Pw.c) rfl (World.ownsRow.alloc O2.out _) ⟨w2.heap.size, 0, none⟩ 1 1 [.slice ka m kc, .slice ra rm rc] rfl rfl (two_at (Box2.new w2 _ _ _)) (two_one _ _ _ _ _ _) (by decide) (by unfold maxLen; omega) (by omega) (by simp; omega) _ rfl ?_)
          intro g cp w4 hown4 hgrow4 hgb hg4
          obtain ⟨d0, d1⟩ : w4.cell? ⟨b, off + j * 2, none⟩ = some (.slice xka y xkc) ∧ w4.cell? ⟨b, off + j * 2 + 1, none⟩ = some (.slice xra z xrc) := by
            have hf := F.out _ (G2.out.trans (World.grownBy_alloc w2 (.cells #[.slice ka m kc, .slice ra rm rc] 91) none))
            exact cells_far HP.out HJ.out.2.2.2 (by rw [← Hn.out]; exact hlt) HJ.out.2.2.1 hgrow4 hf
          have K4 := Lib.hid (grown_thenT ((HJ.out.2.2.2.trans G2.out).trans (World.grownBy_alloc w2 (.cells #[.slice ka m kc, .slice ra rm rc] 91) none)) hgrow4 (fun x hx => (World.ownsRow.lt HJ.out.2.2.1 x hx).1))
          have O4 := Lib.hid hown4
          have hB4 : w1.heap.size ≤ w4.heap.size := K4.out.size
          clear hown4 hgrow4 hgb hg4
          go_wp2_with (at_builtin; refine wpList_append_lies _ rfl _ _ 29 rfl w1.heap.size 91 i0 (.agg #[.slice none 0 0, .slice none 0 0]) 2 48 Try.underlying29 hi hz0 hz1 hz2 rfl (by decide) (.slice (some ⟨g, 0, none⟩) (q + 1) cp) (q + 1) (O.flatMap Pw.c ++ [.slice ka m kc, .slice ra rm rc]) rfl (World.ownsRow.alloc O4.out _) ⟨w4.heap.size, 0, none⟩ 1 1 [.slice xka y xkc, .slice xra z xrc] rfl rfl (two_at (Box2.new w4 _ _ _)) (two_one _ _ _ _ _ _) (by decide) (by unfold maxLen; omega) (by omega) (by simp; omega) _ rfl ?_)
          intro g5 cp5 w5 hown5 hgrow5 hgb5 hg5
          have E5 := Lib.hid (And.intro hown5 hgrow5)
          clear hown5 hgrow5 hgb5 hg5 d0 d1
          go_wp2_with fail
          go_roundw
          case rel =>
            obtain ⟨hown5, hgrow5⟩ := E5.out
            have hq' : q ≤ j := by
              rcases HJ.out.2.1 with ⟨_, e, _⟩ | ⟨h, _⟩
              · rw [← HJ.out.1, e, List.length_take]; omega
              · cases h
            rw [Hy.out, Hz.out] at hown5
            have o4 := O4.out
            rw [Hm.out, Hrm.out] at o4 hown5
            refine ⟨some ⟨g5, 0, none⟩, q + 1 + 1, cp5, j + 1, true, rfl, rfl, by go_num, by omega, by omega, Lib.hid ⟨O ++ [X] ++ [D.getD j default], by simp [HJ.out.1], HJ.out.2.1.lt (by rw [← Hn.out]; exact hlt) (by rw [HX.out, ← Hx.out]; show rowsOrd k xkl < 0; rw [Hcc.out]; exact hc), ?_, ?_⟩⟩
            · rw [← Hx.out, HX.out]
              refine own_more (O := O ++ [⟨⟨ka, kc, k⟩, ⟨ra, rc, r⟩⟩]) (x := ⟨⟨xka, xkc, xkl⟩, ⟨xra, xrc, xrl⟩⟩) ?_
              rw [List.flatMap_append, List.flatMap_cons, List.flatMap_nil, List.append_nil, List.append_assoc]
              exact hown5
            · exact grown_thenT (K4.out.trans (World.grownBy_alloc w4 _ none)) hgrow5 (fun x hx => (World.ownsRow.lt o4 x hx).1)
          case measure => simp [intOf]; omega
        · generalize hcc : rowsOrd k xkl = cc at *
          have Hcc := Lib.hid hcc
          clear hcc
          go_wp2_with fail
          refine HR1.out.mono ?_
          rintro e w2 ⟨rfl, hg2⟩
          have G2 := Lib.hid hg2
          obtain ⟨d0, d1⟩ := F.out _ hg2
          have O2 := Lib.hid (World.ownsRow.kept HJ.out.2.2.1 hg2 (by cases (Value.slice ao q co).ownBlock <;> simp))
          have hB2 : w1.heap.size ≤ w2.heap.size := Nat.le_trans hB hg2.size
          clear hg2 c0 c1
          go_wp2_with (at_builtin; refine wpList_append_lies _ rfl _ _ 29 rfl w1.heap.size 91 i0 (.agg #[.slice none 0 0, .slice none 0 0]) 2 48 Try.underlying29 hi hz0 hz1 hz2 rfl (by decide) (.slice ao q co) q (O.flatMap Pw.c) rfl (World.ownsRow.alloc O2.out _) ⟨w2.heap.size, 0, none⟩ 1 1 [.slice xka y xkc, .slice xra z xrc] rfl rfl (two_at (Box2.new w2 _ _ _)) (two_one _ _ _ _ _ _) (by decide) (by unfold maxLen; omega) (by omega) (by simp; omega) _ rfl ?_)
          intro g4 cp4 w4 hown4 hgrow4 hgb4 hg4
          have E4 := Lib.hid (And.intro hown4 hgrow4)
          clear hown4 hgrow4 hgb4 hg4 d0 d1
          go_wp2_with fail
          go_roundw
          case rel =>
            obtain ⟨hown4, hgrow4⟩ := E4.out
            rw [Hy.out, Hz.out] at hown4
            refine ⟨some ⟨g4, 0, none⟩, q + 1, cp4, j + 1, false, rfl, rfl, by go_num, by omega, by omega, Lib.hid ⟨O ++ [D.getD j default], by simp [HJ.out.1], HJ.out.2.1.ge (by rw [← Hn.out]; exact hlt) (by rw [HX.out, ← Hx.out]; show ¬ rowsOrd k xkl < 0; rw [Hcc.out]; omega), ?_, ?_⟩⟩
            · rw [← Hx.out]
              exact own_more (x := ⟨⟨xka, xkc, xkl⟩, ⟨xra, xrc, xrl⟩⟩) hown4
            · exact grown_thenT ((HJ.out.2.2.2.trans G2.out).trans (World.grownBy_alloc w2 _ none)) hgrow4 (fun x hx => (World.ownsRow.lt HJ.out.2.2.1 x hx).1)
          case measure => simp [intOf]; omega
      · have O2 := Lib.hid HJ.out.2.2.1
        go_wp2_with (at_builtin; refine wpList_append_lies _ rfl _ _ 29 rfl w1.heap.size 91 i0 (.agg #[.slice none 0 0, .slice none 0 0]) 2 48 Try.underlying29 hi hz0 hz1 hz2 rfl (by decide) (.slice ao q co) q (O.flatMap Pw.c) rfl (World.ownsRow.alloc O2.out _) ⟨wr.heap.size, 0, none⟩ 1 1 [.slice xka y xkc, .slice xra z xrc] rfl rfl (two_at (Box2.new wr _ _ _)) (two_one _ _ _ _ _ _) (by decide) (by unfold maxLen; omega) (by omega) (by simp; omega) _ rfl ?_)
        intro g4 cp4 w4 hown4 hgrow4 hgb4 hg4
        have E4 := Lib.hid (And.intro hown4 hgrow4)
        clear hown4 hgrow4 hgb4 hg4 c0 c1
        go_wp2_with fail
        go_roundw
        case rel =>
          obtain ⟨hown4, hgrow4⟩ := E4.out
          rw [Hy.out, Hz.out] at hown4
          refine ⟨some ⟨g4, 0, none⟩, q + 1, cp4, j + 1, true, rfl, rfl, by go_num, by omega, by omega, Lib.hid ⟨O ++ [D.getD j default], by simp [HJ.out.1], HJ.out.2.1.go (by rw [← Hn.out]; exact hlt), ?_, ?_⟩⟩
          · rw [← Hx.out]
            exact own_more (x := ⟨⟨xka, xkc, xkl⟩, ⟨xra, xrc, xrl⟩⟩) hown4
          · exact grown_thenT (HJ.out.2.2.2.trans (World.grownBy_alloc wr _ none)) hgrow4 (fun x hx => (World.ownsRow.lt HJ.out.2.2.1 x hx).1)
        case measure => simp [intOf]; omega
    · obtain rfl : n = j := by omega
      obtain ⟨O, hO, hst, hown, hgr⟩ := I.out
      have hB : w1.heap.size ≤ wr.heap.size := hgr.size
      have HJ := Lib.hid (And.intro hO (And.intro hst (And.intro hown hgr)))
      clear hst hown hgr I
      have hend : ∀ (O' : List Pw) (W : World) (v : Value), insP X D = O' → w1.grownBy W none → W.ownsRow w1.heap.size 91 2 v O'.length (O'.flatMap Pw.c) → (∃ a' cap', v = .slice a' (insP X D).length cap' ∧ (insP X D).length ≤ cap' ∧ PsS S W a' (insP X D)) ∧ w.grownBy W none := fun O' W v e hg ho => by
        subst e
        have hgw := HP.out.2.trans hg
        obtain ⟨a', cap', hv, hc, hp⟩ := own_ps2 (S := S) ho (fun b hb => HSS.out b (Nat.le_trans HP.out.2.size hb)) (by rw [insP_len, ← Hn.out]; omega) (fun x hx => by
          rcases insP_mem hx with rfl | hx
          · rw [HX.out]
            exact ⟨HK.out.1.keep (.of hgw), HK.out.2.1.keep (.of hgw)⟩
          · exact ⟨(HP.out.1.2.1 x hx).1.keep (.of hg), (HP.out.1.2.1 x hx).2.keep (.of hg)⟩)
        exact ⟨⟨a', cap', hv, hc, hp⟩, hgw⟩
      have HE := Lib.hid hend
      clear hend
      cases dn
      · have O2 := Lib.hid HJ.out.2.2.1
        go_wp2_with (at_builtin; refine wpList_append_lies _ rfl _ _ 29 rfl w1.heap.size 91 i0 (.agg #[.slice none 0 0, .slice none 0 0]) 2 48 Try.underlying29 hi hz0 hz1 hz2 rfl (by decide) (.slice ao q co) q (O.flatMap Pw.c) rfl (World.ownsRow.alloc O2.out _) ⟨wr.heap.size, 0, none⟩ 1 1 [.slice ka m kc, .slice ra rm rc] rfl rfl (two_at (Box2.new wr _ _ _)) (two_one _ _ _ _ _ _) (by decide) (by unfold maxLen; omega) (by omega) (by simp; omega) _ rfl ?_)
        intro g4 cp4 w4 hown4 hgrow4 hgb4 hg4
        have E4 := Lib.hid (And.intro hown4 hgrow4)
        clear hown4 hgrow4 hgb4 hg4
        go_wp2_with fail
        go_ret
        obtain ⟨hown4, hgrow4⟩ := E4.out
        rw [Hm.out, Hrm.out] at hown4
        have hst := HJ.out.2.1
        rcases hst with ⟨_, rfl, he⟩ | ⟨h, _⟩
        · rw [Hn.out, List.drop_length, List.take_length] at he
          have hq := HJ.out.1
          rw [Hn.out, List.take_length] at hq hown4
          have ho := own_more (x := ⟨⟨ka, kc, k⟩, ⟨ra, rc, r⟩⟩) hown4
          have := HE.out (D ++ [X]) w4 (.slice (some ⟨g4, 0, none⟩) (q + 1) cp4) he (grown_thenT (HJ.out.2.2.2.trans (World.grownBy_alloc wr _ none)) hgrow4 (fun x hx => (World.ownsRow.lt HJ.out.2.2.1 x hx).1)) (by rw [HX.out]; rw [List.length_append, hq]; exact ho)
          obtain ⟨⟨a', cap', hv, hc, hp⟩, hgw⟩ := this
          exact ⟨⟨a', cap', congrArg Ending.returned hv, hc, hp⟩, hgw⟩
        · cases h
      · go_wp2_with fail
        go_ret
        have hst := HJ.out.2.1
        rcases hst with ⟨h, _⟩ | ⟨_, he⟩
        · cases h
        · rw [Hn.out, List.drop_length, List.append_nil] at he
          have := HE.out O wr (.slice ao q co) he HJ.out.2.2.2 (by rw [HJ.out.1]; exact HJ.out.2.2.1)
          obtain ⟨⟨a', cap', hv, hc, hp⟩, hgw⟩ := this
          exact ⟨⟨a', cap', congrArg Ending.returned hv, hc, hp⟩, hgw⟩
end Go.Proofs.Ytlmoefiajioeoaa
