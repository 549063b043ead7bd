import Derived.Test.YtfambadamebjjaaZs35
import Derived.Test.YtfambadamebjjaaZs29
import Derived.Test.YtfambadamebjjaaZs30
import Derived.Test.YtfambadamebjjaaZs19
import Derived.Test.YtfambadamebjjaaZs31
import Derived.Deep.LoopGhost
import Derived.Deep.CutRange
set_option linter.unusedSimpArgs false
set_option linter.unusedVariables false
namespace Go.Proofs.Ytfambadamebjjaa
open Go.RowKit
def KysGo (b o n k d : Nat) (T : List Tk) (r : RS × List Kyo) (w : World) (e : Ending) (w' : World) : Prop :=
 ∃ (i' c' a' : Nat) (arr : Option Addr) (cap : Nat) (l : List Kyo), e = .returned (.tuple #[.agg #[.slice (some ⟨b, o, none⟩) n k, .int .i64 i', .int .i64 d, .int .i64 c', .int .i64 a'], .slice arr l.length cap]) ∧ Win 4 w' arr cap l.length (l.flatMap Kyo.c) ∧ (∀ k, bk arr k → w.heap.size ≤ k) ∧ SR n T r.1 i' c' a' ∧ (c' = 0 → l.map Kyo.e = r.2.map Kyo.e) ∧ w.grownBy w' none
def KysIn (b o n k d : Nat) (T : List Tk) (r : RS × List Kyo) (w : World) (v : Value) (wr : World) : Prop :=
 ∃ (j i' c' a' : Nat) (t : RS) (arr : Option Addr) (cap : Nat) (l acc : List Kyo), v = .slice arr j cap ∧ l.length = j ∧ acc.length = j ∧ j ≤ 8 ∧ l.map Kyo.e = acc.map Kyo.e ∧ listF 8 keyL (9 - j) t acc = r ∧ SR n T t i' c' a' ∧ Win 4 wr arr cap j (l.flatMap Kyo.c) ∧ (∀ k, bk arr k → w.heap.size + 1 < k) ∧ wr.heap[w.heap.size]? = some (.cells #[.slice (some ⟨b, o, none⟩) n k, .int .i64 i', .int .i64 d, .int .i64 c', .int .i64 a'] 81) ∧ wr.heap[w.heap.size + 1]? = some (.cells #[.slice none 0 0, .int .i64 0, .int .i64 0, .int .i64 0, .int .i64 0] 81) ∧ w.grownBy wr none
def KeyMid (b o n k d : Nat) (T : List Tk) (t : RS) (w : World) (X : Nat) (arr : Option Addr) (cap j : Nat) (l : List Kyo) (wx : World) : Prop :=
 ∃ (i2 c2 a2 : Nat) (x : Kyo), wx.heap[w.heap.size]? = some (.cells #[.slice (some ⟨b, o, none⟩) n k, .int .i64 i2, .int .i64 d, .int .i64 c2, .int .i64 a2] 81) ∧ wx.heap[w.heap.size + 1]? = some (.cells #[.slice none 0 0, .int .i64 0, .int .i64 0, .int .i64 0, .int .i64 0] 81) ∧ wx.heap[X]? = some (.cells x.c.toArray 123 (0, 0)) ∧ x.e = (keyL t).2.e ∧ SR n T (keyL t).1 i2 c2 a2 ∧ w.grownBy wx none ∧ Win 4 wx arr cap j (l.flatMap Kyo.c)
theorem keyDesc : keyT bDesc := .inl (by decide +kernel)
theorem keyAsc : keyT bAsc := .inl (by decide +kernel)
theorem key_desc (t : RS) (g : Nat) (c : ByteArray) (p : Nat) (h : (itemL t).1.comes bDesc = true) (hg : g = (itemL t).2.agg) (hc : c = (itemL t).2.col) : (keyL t).1 = (itemL t).1.pass ∧ (⟨⟨g, c, p⟩, true⟩ : Kyo).e = (keyL t).2.e := by
 have h2 : (itemL t).1.comes bAsc = false := by
  have : (itemL t).1.hd.text = bDesc := of_decide_eq_true h
  unfold RS.comes
  rw [this]
  decide +kernel
 subst hg hc
 unfold keyL
 simp only [h, h2]
 exact ⟨rfl, rfl⟩
theorem key_asc (t : RS) (g : Nat) (c : ByteArray) (p : Nat) (h : (itemL t).1.comes bAsc = true) (hg : g = (itemL t).2.agg) (hc : c = (itemL t).2.col) : (keyL t).1 = (itemL t).1.pass ∧ (⟨⟨g, c, p⟩, false⟩ : Kyo).e = (keyL t).2.e := by
 subst hg hc
 unfold keyL
 simp only [h]
 exact ⟨rfl, rfl⟩
theorem key_none (t : RS) (g : Nat) (c : ByteArray) (p : Nat) (h : (itemL t).1.comes bDesc = false) (h2 : (itemL t).1.comes bAsc = false) (hg : g = (itemL t).2.agg) (hc : c = (itemL t).2.col) : (keyL t).1 = (itemL t).1 ∧ (⟨⟨g, c, p⟩, false⟩ : Kyo).e = (keyL t).2.e := by
 subst hg hc
 unfold keyL
 simp only [h, h2]
 exact ⟨rfl, rfl⟩
theorem SR.ninthK {n i c a i' c' a' : Nat} {T : List Tk} {s : RS} (h : SR n T (s.wrong 3) i c a) (hc : c ≠ 0) (h' : SR n T (keyL (s.wrong 3)).1 i' c' a') : c' ≠ 0 ∧ SR n T (s.wrong 3) i' c' a' := by
 have e1 : (itemL (s.wrong 3)).1 = (s.wrong 3).wrong 11 := by rw [h.item_bad hc]
 have hw : SR n T ((s.wrong 3).wrong 11) i c a := h.fail hc
 have e2 : (keyL (s.wrong 3)).1 = (s.wrong 3).wrong 11 := by
  rw [← e1]
  exact (key_none (s.wrong 3) _ _ 0 (by rw [e1]; exact hw.bad_comes hc keyDesc) (by rw [e1]; exact hw.bad_comes hc keyAsc) rfl rfl).1
 rw [e2] at h'
 have hc' : c' ≠ 0 := fun e => by
  have := h'.err0.2 e
  cases this
 exact ⟨hc', h'.swap hc' h.ok (fun e => hc (h.err0.1 e)) (h.failed hc)⟩
theorem boxK {w : World} {b : Nat} {v0 v1 v2 v3 : Value} {T : TypeId} (h : w.heap[b]? = some (.cells #[v0, v1, v2, v3] T (0, 0))) : (w.cell? ⟨b, 0, none⟩ = some v0 ∧ w.cell? ⟨b, 1, none⟩ = some v1 ∧ w.cell? ⟨b, 2, none⟩ = some v2 ∧ w.cell? ⟨b, 3, none⟩ = some v3) ∧ w.frozen? ⟨b, 0, none⟩ = false ∧ w.frozen? ⟨b, 1, none⟩ = false ∧ w.frozen? ⟨b, 2, none⟩ = false ∧ w.frozen? ⟨b, 3, none⟩ = false :=
 ⟨boxD4 h, frozen_of_row _ _ 0 _ _ h, frozen_of_row _ _ 1 _ _ h, frozen_of_row _ _ 2 _ _ h, frozen_of_row _ _ 3 _ _ h⟩
theorem setK3 {w : World} {b : Nat} {v0 v1 v2 v3 u0 u1 u2 : Value} {T : TypeId} (h : w.heap[b]? = some (.cells #[v0, v1, v2, v3] T (0, 0))) : (((w.setCell ⟨b, 0, none⟩ u0).setCell ⟨b, 1, none⟩ u1).setCell ⟨b, 2, none⟩ u2).heap[b]? = some (.cells #[u0, u1, u2, v3] T (0, 0)) := by
 have h0 := heap_setCell_same _ _ 0 _ _ u0 h
 have h1 := heap_setCell_same _ _ 1 _ _ u1 h0
 have h2 := heap_setCell_same _ _ 2 _ _ u2 h1
 simpa using h2
set_option linter.unusedSimpArgs false in
set_option maxRecDepth 100000 in
set_option maxHeartbeats 6400000 in
theorem rkeys_any (b o n k : Nat) (T : List Tk) (s : RS) (w : World) (h : TkE b o n k T w) (i d c a : Nat) (hs : SR n T s i c a) :
  Calls Try.prog 37 #[.agg #[.slice (some ⟨b, o, none⟩) n k, .int .i64 i, .int .i64 d, .int .i64 c, .int .i64 a]] w (KysGo b o n k d T (listF 8 keyL 9 s []) w) := by
 have HH := Lib.hid h
 have A1 := Lib.hid (alc2a w (.cells #[.slice (some ⟨b, o, none⟩) n k, .int .i64 i, .int .i64 d, .int .i64 c, .int .i64 a] 81) (.cells #[.slice none 0 0, .int .i64 0, .int .i64 0, .int .i64 0, .int .i64 0] 81))
 have R1 := Lib.hid (alc2b w (.cells #[.slice (some ⟨b, o, none⟩) n k, .int .i64 i, .int .i64 d, .int .i64 c, .int .i64 a] 81) (.cells #[.slice none 0 0, .int .i64 0, .int .i64 0, .int .i64 0, .int .i64 0] 81))
 have G1 := Lib.hid (gq_al (gq_al (grown_reflT w none) (.cells #[.slice (some ⟨b, o, none⟩) n k, .int .i64 i, .int .i64 d, .int .i64 c, .int .i64 a] 81)) (.cells #[.slice none 0 0, .int .i64 0, .int .i64 0, .int .i64 0, .int .i64 0] 81))
 have S1 := Lib.hid hs
 obtain ⟨r, hr⟩ : ∃ r, r = listF 8 keyL 9 s [] := ⟨_, rfl⟩
 rw [← hr]
 have HR0 := Lib.hid hr.symm
 clear h hs hr
 go_enter Try.func37, Try.ntmps37
 go_wp2_with fail
 go_loopw [4] (fun s6 wr => KysIn b o n k d T r w s6 wr) (fun s6 _ => 9 - lenV s6)
 case atStart => exact ⟨0, i, c, a, s, none, 0, [], [], rfl, rfl, rfl, by omega, rfl, HR0.out, S1.out, Win.nil 4 _, fun k hk => by simp [bk] at hk, A1.out, R1.out, G1.out⟩
 case round =>
  obtain ⟨j, i1, d1, a1, t, arr, cap, l, acc, rfl, hl, ha, hj, hm, hr, hS, hW, hf, hA, hR, hG⟩ := hrel
  have HL := Lib.hid hl
  have HA := Lib.hid ha
  have HM := Lib.hid hm
  have HRr := Lib.hid hr
  have FA := Lib.hid hf
  have S0 := Lib.hid hS
  clear hl ha hm hr hf hS
  by_cases h8 : j = 8
  ·have g8 : (8 : Int) ≤ j := by omega
   have HF := Lib.hid (fun W (hW : w.grownBy W none) => rfail_any b o n k T t W (HH.out.keep hW) i1 d d1 a1 3 S0.out (by decide))
   have HRes : Hid (r = (t.wrong 3, acc)) := Lib.hid (by rw [← HRr.out, h8]; exact listF_fullD (by rw [HA.out, h8]))
   have AZ := Lib.hid hA
   have RZ := Lib.hid hR
   have GZ := Lib.hid hG
   have WZ := Lib.hid hW
   clear hA hR hG hW h8
   obtain ⟨⟨c0, c1, c2, c3, c4⟩, f0, f1, f2, f3, f4⟩ := boxD5 AZ.out
   go_wp2_with fail
   refine (HF.out _ GZ.out).mono ?_
   rintro e wy ⟨⟨c3', a3, rfl, hSA⟩, hg⟩
   have SA := Lib.hid hSA
   have hca : c3' ≠ 0 := fun e => by
    have := hSA.err0.2 e
    cases this
   have AY := Lib.hid (blkD hg AZ.out)
   have RY := Lib.hid (blkD hg RZ.out)
   have GY := Lib.hid (GZ.out.trans hg)
   have WY := Lib.hid (WZ.out.keepG hg)
   clear c0 c1 c2 c3 c4 f0 f1 f2 f3 f4
   clear hg hSA AZ RZ WZ HF
   obtain ⟨⟨c0, c1, c2, c3, c4⟩, f0, f1, f2, f3, f4⟩ := boxD5 AY.out
   have g6 := grownD5 wy w.heap.size (.slice (some ⟨b, o, none⟩) n k) (.int .i64 i1) (.int .i64 d) (.int .i64 c3') (.int .i64 a3)
   go_upto_region 4 with fail
   have AA := Lib.hid (setD5 (u0 := .slice (some ⟨b, o, none⟩) n k) (u1 := .int .i64 i1) (u2 := .int .i64 d) (u3 := .int .i64 c3') (u4 := .int .i64 a3) AY.out)
   have RA := Lib.hid (blkR RY.out g6 (by omega))
   have GA := Lib.hid (grown_thenX GY.out g6 (fun j e => by cases e; exact Nat.le_refl _))
   have WA := Lib.hid (WY.out.keep (Only.of_grown g6) (fun k hk e => by cases e; exact absurd (FA.out _ hk) (by omega)))
   clear c0 c1 c2 c3 c4 f0 f1 f2 f3 f4
   clear AY RY WY g6
   generalize ((((wy.setCell ⟨w.heap.size, 0, none⟩ (.slice (some ⟨b, o, none⟩) n k)).setCell ⟨w.heap.size, 1, none⟩ (.int .i64 i1)).setCell ⟨w.heap.size, 2, none⟩ (.int .i64 d)).setCell ⟨w.heap.size, 3, none⟩ (.int .i64 c3')).setCell ⟨w.heap.size, 4, none⟩ (.int .i64 a3) = wa at *
   have HIt := Lib.hid (fun W (hW : w.grownBy W none) => ritem_any b o n k T (t.wrong 3) W (HH.out.keep hW) i1 d c3' a3 SA.out)
   go_upto_region 5 with fail
   obtain ⟨wk, hwk⟩ : ∃ wk, wk = wa.alloc (.cells #[.int .i64 0, .string ⟨#[]⟩, .int .i64 0, .bool false] 123) := ⟨_, rfl⟩
   have gz : wa.grownBy wk none := by rw [hwk]; exact World.grownBy_alloc wa _ none
   have XC : Hid (wk.heap[wa.heap.size]? = some (.cells #[.int .i64 0, .string ⟨#[]⟩, .int .i64 0, .bool false] 123 (0, 0))) := Lib.hid (by rw [hwk]; exact alc1 wa _)
   rw [← hwk]
   have AC := Lib.hid (blkD gz AA.out)
   have RC := Lib.hid (blkD gz RA.out)
   have GC := Lib.hid (GA.out.trans gz)
   have WC := Lib.hid (WA.out.keepG gz)
   have hxb := Lib.hid (fun k hk => Nat.ne_of_lt (WA.out.lt k hk))
   have hRb : w.heap.size + 1 < wa.heap.size := (Array.getElem?_eq_some_iff.1 RA.out).1
   clear gz hwk AA RA WA
   obtain ⟨⟨c0, c1, c2, c3, c4⟩, f0, f1, f2, f3, f4⟩ := boxD5 AC.out
   go_wp2_with fail
   refine (HIt.out _ GC.out).mono ?_
   rintro e wd ⟨⟨i2, c2', a2, ⟨p2, rfl⟩, hS2⟩, hg⟩
   have S2 : Hid (SR n T (itemL (t.wrong 3)).1 i2 c2' a2) := Lib.hid hS2
   have AD := Lib.hid (blkD hg AC.out)
   have RD := Lib.hid (blkD hg RC.out)
   have XD := Lib.hid (blkD hg XC.out)
   have GD := Lib.hid (GC.out.trans hg)
   have WD := Lib.hid (WC.out.keepG hg)
   clear c0 c1 c2 c3 c4 f0 f1 f2 f3 f4
   clear hg hS2 HIt AC RC XC WC
   obtain ⟨⟨c0, c1, c2, c3, c4⟩, f0, f1, f2, f3, f4⟩ := boxD5 AD.out
   have g6 := grownD5 wd w.heap.size (.slice (some ⟨b, o, none⟩) n k) (.int .i64 i2) (.int .i64 d) (.int .i64 c2') (.int .i64 a2)
   obtain ⟨⟨v0, v1, v2, v3⟩, e0, e1, e2, e3⟩ := boxK (blkR XD.out g6 (by omega))
   go_upto_region 6 with fail
   obtain ⟨we, hwe⟩ : ∃ we, we = (((((((wd.setCell ⟨w.heap.size, 0, none⟩ (.slice (some ⟨b, o, none⟩) n k)).setCell ⟨w.heap.size, 1, none⟩ (.int .i64 i2)).setCell ⟨w.heap.size, 2, none⟩ (.int .i64 d)).setCell ⟨w.heap.size, 3, none⟩ (.int .i64 c2')).setCell ⟨w.heap.size, 4, none⟩ (.int .i64 a2)).setCell ⟨wa.heap.size, 0, none⟩ (.int .i64 ((itemL (t.wrong 3)).2.agg : Nat))).setCell ⟨wa.heap.size, 1, none⟩ (.string (itemL (t.wrong 3)).2.col)).setCell ⟨wa.heap.size, 2, none⟩ (.int .i64 p2) := ⟨_, rfl⟩
   have gx : (((((wd.setCell ⟨w.heap.size, 0, none⟩ (.slice (some ⟨b, o, none⟩) n k)).setCell ⟨w.heap.size, 1, none⟩ (.int .i64 i2)).setCell ⟨w.heap.size, 2, none⟩ (.int .i64 d)).setCell ⟨w.heap.size, 3, none⟩ (.int .i64 c2')).setCell ⟨w.heap.size, 4, none⟩ (.int .i64 a2)).grownBy we (some wa.heap.size) := by rw [hwe]; exact grownD3 _ _ _ _ _
   have AE := Lib.hid (blkR (setD5 AD.out) gx (by omega))
   have XE : Hid (we.heap[wa.heap.size]? = some (.cells #[.int .i64 ((itemL (t.wrong 3)).2.agg : Nat), .string (itemL (t.wrong 3)).2.col, .int .i64 p2, .bool false] 123 (0, 0))) := Lib.hid (by rw [hwe]; exact setK3 (blkR XD.out g6 (by omega)))
   have RE := Lib.hid (blkR (blkR RD.out g6 (by omega)) gx (by omega))
   have GE := Lib.hid (grown_thenX (grown_thenX GD.out g6 (fun j e => by cases e; exact Nat.le_refl _)) gx (fun j e => by cases e; omega))
   have WE := Lib.hid ((WD.out.keep (Only.of_grown g6) (fun k hk e => by cases e; exact absurd (FA.out _ hk) (by omega))).keep (Only.of_grown gx) (fun k hk e => by cases e; exact absurd rfl (hxb.out _ hk)))
   rw [← hwe]
   clear c0 c1 c2 c3 c4 f0 f1 f2 f3 f4
   clear hwe gx g6 AD RD XD WD v0 v1 v2 v3 e0 e1 e2 e3
   have HI1 := Lib.hid (fun W (hW : w.grownBy W none) => ris_any b o n k T (itemL (t.wrong 3)).1 W (HH.out.keep hW) i2 d c2' a2 bDesc S2.out keyDesc)
   have HI2 := Lib.hid (fun W (hW : w.grownBy W none) => ris_any b o n k T (itemL (t.wrong 3)).1 W (HH.out.keep hW) i2 d c2' a2 bAsc S2.out keyAsc)
   obtain ⟨⟨c0, c1, c2, c3, c4⟩, f0, f1, f2, f3, f4⟩ := boxD5 AE.out
   go_wp2_with fail
   refine (HI1.out _ GE.out).mono ?_
   rintro e wf ⟨rfl, hg⟩
   have AF := Lib.hid (blkD hg AE.out)
   have RF := Lib.hid (blkD hg RE.out)
   have XF := Lib.hid (blkD hg XE.out)
   have GF := Lib.hid (GE.out.trans hg)
   have WF := Lib.hid (WE.out.keepG hg)
   clear c0 c1 c2 c3 c4 f0 f1 f2 f3 f4
   clear hg AE RE XE WE HI1
   go_upto_if 19 with fail
   go_cut [4] from 6 (fun s4 wx => s4 = .slice arr j cap ∧ KeyMid b o n k d T (t.wrong 3) w wa.heap.size arr cap j l wx)
   case first => as_aux_lemma =>
    cases hy : (itemL (t.wrong 3)).1.comes bDesc with
    | true =>
     have HP := Lib.hid (fun W (hW : w.grownBy W none) => rpass_any b o n k T (itemL (t.wrong 3)).1 W (HH.out.keep hW) i2 d c2' a2 bDesc S2.out keyDesc hy)
     have HKd := Lib.hid (key_desc (t.wrong 3) (itemL (t.wrong 3)).2.agg (itemL (t.wrong 3)).2.col p2 hy rfl rfl)
     clear hy HI2
     obtain ⟨⟨c0, c1, c2, c3, c4⟩, f0, f1, f2, f3, f4⟩ := boxD5 AF.out
     obtain ⟨⟨v0, v1, v2, v3⟩, e0, e1, e2, e3⟩ := boxK XF.out
     have gk := gq_cellR wf wa.heap.size 3 (.bool true)
     obtain ⟨wq, hwq⟩ : ∃ wq, wq = wf.setCell ⟨wa.heap.size, 3, none⟩ (.bool true) := ⟨_, rfl⟩
     go_upto_region 8 with fail
     rw [← hwq] at gk ⊢
     have AQ := Lib.hid (blkR AF.out gk (by omega))
     have RQ := Lib.hid (blkR RF.out gk (by omega))
     have XQ : Hid (wq.heap[wa.heap.size]? = some (.cells #[.int .i64 ((itemL (t.wrong 3)).2.agg : Nat), .string (itemL (t.wrong 3)).2.col, .int .i64 p2, .bool true] 123 (0, 0))) := Lib.hid (by
      rw [hwq]
      have := heap_setCell_same _ _ 3 _ _ (.bool true) XF.out
      simpa using this)
     have GQ := Lib.hid (grown_thenX GF.out gk (fun j e => by cases e; omega))
     have WQ := Lib.hid (WF.out.keep (Only.of_grown gk) (fun k hk e => by cases e; exact absurd rfl (hxb.out _ hk)))
     clear c0 c1 c2 c3 c4 f0 f1 f2 f3 f4
     clear hwq gk AF RF XF WF v0 v1 v2 v3 e0 e1 e2 e3
     obtain ⟨⟨c0, c1, c2, c3, c4⟩, f0, f1, f2, f3, f4⟩ := boxD5 AQ.out
     go_wp2_with fail
     refine (HP.out _ GQ.out).mono ?_
     rintro e wx ⟨⟨rfl, hSp⟩, hg⟩
     have AX := Lib.hid (blkD hg AQ.out)
     have g9 := grownD5 wx w.heap.size (.slice (some ⟨b, o, none⟩) n k) (.int .i64 ((i2 : Int) + 1)) (.int .i64 d) (.int .i64 0) (.int .i64 0)
     clear c0 c1 c2 c3 c4 f0 f1 f2 f3 f4
     obtain ⟨⟨c0, c1, c2, c3, c4⟩, f0, f1, f2, f3, f4⟩ := boxD5 AX.out
     go_wp2_with fail
     go_meet
     exact ⟨rfl, i2 + 1, 0, 0, ⟨⟨(itemL (t.wrong 3)).2.agg, (itemL (t.wrong 3)).2.col, p2⟩, true⟩, setD5 AX.out, blkR (blkD hg RQ.out) g9 (by omega), blkR (blkD hg XQ.out) g9 (by omega), HKd.out.2, by rw [HKd.out.1]; exact hSp, grown_thenX (GQ.out.trans hg) g9 (fun j e => by cases e; exact Nat.le_refl _), (WQ.out.keepG hg).keep (Only.of_grown g9) (fun k hk e => by cases e; exact absurd (FA.out _ hk) (by omega))⟩
    | false =>
     obtain ⟨⟨c0, c1, c2, c3, c4⟩, f0, f1, f2, f3, f4⟩ := boxD5 AF.out
     go_wp2_with fail
     refine (HI2.out _ GF.out).mono ?_
     rintro e wg ⟨rfl, hg⟩
     have AG := Lib.hid (blkD hg AF.out)
     have RG := Lib.hid (blkD hg RF.out)
     have XG := Lib.hid (blkD hg XF.out)
     have GG := Lib.hid (GF.out.trans hg)
     have WG := Lib.hid (WF.out.keepG hg)
     clear c0 c1 c2 c3 c4 f0 f1 f2 f3 f4
     clear hg AF RF XF WF HI2
     cases hz : (itemL (t.wrong 3)).1.comes bAsc with
     | true =>
      have HP := Lib.hid (fun W (hW : w.grownBy W none) => rpass_any b o n k T (itemL (t.wrong 3)).1 W (HH.out.keep hW) i2 d c2' a2 bAsc S2.out keyAsc hz)
      have HKa := Lib.hid (key_asc (t.wrong 3) (itemL (t.wrong 3)).2.agg (itemL (t.wrong 3)).2.col p2 hz rfl rfl)
      clear hy hz
      obtain ⟨⟨c0, c1, c2, c3, c4⟩, f0, f1, f2, f3, f4⟩ := boxD5 AG.out
      go_wp2_with fail
      refine (HP.out _ GG.out).mono ?_
      rintro e wx ⟨⟨rfl, hSp⟩, hg⟩
      have AX := Lib.hid (blkD hg AG.out)
      have g9 := grownD5 wx w.heap.size (.slice (some ⟨b, o, none⟩) n k) (.int .i64 ((i2 : Int) + 1)) (.int .i64 d) (.int .i64 0) (.int .i64 0)
      clear c0 c1 c2 c3 c4 f0 f1 f2 f3 f4
      obtain ⟨⟨c0, c1, c2, c3, c4⟩, f0, f1, f2, f3, f4⟩ := boxD5 AX.out
      go_wp2_with fail
      go_meet
      exact ⟨rfl, i2 + 1, 0, 0, ⟨⟨(itemL (t.wrong 3)).2.agg, (itemL (t.wrong 3)).2.col, p2⟩, false⟩, setD5 AX.out, blkR (blkD hg RG.out) g9 (by omega), blkR (blkD hg XG.out) g9 (by omega), HKa.out.2, by rw [HKa.out.1]; exact hSp, grown_thenX (GG.out.trans hg) g9 (fun j e => by cases e; exact Nat.le_refl _), (WG.out.keepG hg).keep (Only.of_grown g9) (fun k hk e => by cases e; exact absurd (FA.out _ hk) (by omega))⟩
     | false =>
      have HKn := Lib.hid (key_none (t.wrong 3) (itemL (t.wrong 3)).2.agg (itemL (t.wrong 3)).2.col p2 hy hz rfl rfl)
      clear hy hz
      go_wp2_with fail
      go_meet
      exact ⟨rfl, i2, c2', a2, ⟨⟨(itemL (t.wrong 3)).2.agg, (itemL (t.wrong 3)).2.col, p2⟩, false⟩, AG.out, RG.out, XG.out, HKn.out.2, by rw [HKn.out.1]; exact S2.out, GG.out, WG.out⟩
   case rest =>
   obtain ⟨rfl, i3, y3, a3, x, hA3, hR3, hX3, hx3, hS3, hG3, hW3⟩ := hcut
   obtain ⟨we, hwe⟩ : ∃ we, we = wc := ⟨_, rfl⟩
   rw [← hwe] at hA3 hR3 hX3 hG3 hW3 ⊢
   have AE := Lib.hid hA3
   have RE := Lib.hid hR3
   have XE := Lib.hid hX3
   have GE := Lib.hid hG3
   have WE := Lib.hid hW3
   have HXe := Lib.hid hx3
   have S3 := Lib.hid hS3
   clear hwe hA3 hR3 hX3 hG3 hW3 hx3 hS3 AF RF XF WF HI2 S2 hxb
   have hAe : w.heap.size < we.heap.size := (Array.getElem?_eq_some_iff.1 AE.out).1
   have hRe : w.heap.size + 1 < we.heap.size := (Array.getElem?_eq_some_iff.1 RE.out).1
   obtain ⟨⟨xg, xc, xp⟩, xd⟩ := x
   obtain ⟨⟨v0, v1, v2, v3⟩, e0, e1, e2, e3⟩ := boxK XE.out
   go_wp2_with (refine wpList_append_winA rfl (.tmp 27) (.tmp 29) key_el (by rfl) (WE.out.keepG (World.grownBy_alloc we (.cells #[.int .i64 xg, .string xc, .int .i64 xp, .bool xd] 123) none)) (by rfl) (some ⟨we.heap.size, 0, none⟩) 1 1 (by rfl) [.int .i64 xg, .string xc, .int .i64 xp, .bool xd] (fun e => by cases e) rfl (by omega) (fun ad e j u hj => by cases e; rw [add_atT]; rw [cell_of_row _ _ (0 + j) _ _ _ (alc1 we _)]; simpa using hj) (by simp [Value.oneCell']) ?_)
   intro arr2 cap2 wf z2 o2 b2 _
   have ga := World.grownBy_alloc we (.cells #[.int .i64 xg, .string xc, .int .i64 xp, .bool xd] 123) none
   have GF := Lib.hid (grown_onlyN (GE.out.trans ga) o2 (fun k hk => Nat.le_of_lt (Nat.lt_of_succ_lt (FA.out k hk))))
   have AF := Lib.hid ((o2.block _ (Nat.lt_of_lt_of_le hAe ga.size) (fun hk => absurd (FA.out _ hk) (by omega))).trans (blkD ga AE.out))
   have RF := Lib.hid ((o2.block _ (Nat.lt_of_lt_of_le hRe ga.size) (fun hk => absurd (FA.out _ hk) (by omega))).trans (blkD ga RE.out))
   have FF : Hid (∀ k, bk arr2 k → w.heap.size + 1 < k) := Lib.hid (fun k hk => (b2 k hk).elim (FA.out k) (fun e => by first | omega | (simp at e; omega)))
   have WF : Hid (Win 4 wf arr2 cap2 (j + 1) ((l ++ [(⟨⟨xg, xc, xp⟩, xd⟩ : Kyo)]).flatMap Kyo.c)) := Lib.hid (by
    rw [List.flatMap_append]
    exact z2)
   have HI := Lib.hid (fun W (hW : w.grownBy W none) => ris_any b o n k T (keyL (t.wrong 3)).1 W (HH.out.keep hW) i3 d y3 a3 bComma S3.out (.inr (by decide +kernel)))
   clear z2 o2 b2 ga AE RE XE WE v0 v1 v2 v3 e0 e1 e2 e3
   obtain ⟨⟨c0, c1, c2, c3, c4⟩, f0, f1, f2, f3, f4⟩ := boxD5 AF.out
   go_wp2_with fail
   refine (HI.out _ GF.out).mono ?_
   rintro e wg ⟨rfl, hg⟩
   have AG := Lib.hid (blkD hg AF.out)
   have RG := Lib.hid (blkD hg RF.out)
   have GG := Lib.hid (GF.out.trans hg)
   have WG := Lib.hid (WF.out.keepG hg)
   clear c0 c1 c2 c3 c4 f0 f1 f2 f3 f4
   clear hg AF RF WF HI
   have hcm := S3.out.bad_comes (SA.out.ninthK hca S3.out).1 (t := bComma) (.inr (by decide +kernel))
   rw [hcm]
   clear hcm
   obtain ⟨⟨c0, c1, c2, c3, c4⟩, f0, f1, f2, f3, f4⟩ := boxD5 AG.out
   obtain ⟨⟨r0, r1, r2, r3, r4⟩, q0, q1, q2, q3, q4⟩ := boxD5 RG.out
   go_wp2_with fail
   have g9 := grownD5 wg (w.heap.size + 1) (.slice (some ⟨b, o, none⟩) n k) (.int .i64 i3) (.int .i64 d) (.int .i64 y3) (.int .i64 a3)
   refine bodyPost_ret (res_ct rfl _ _ (w.heap.size + 1) _ rfl (setD5 RG.out) rfl) rfl ⟨i3, y3, a3, arr2, cap2, l ++ [(⟨⟨xg, xc, xp⟩, xd⟩ : Kyo)], ?_, ?_, fun k hk => Nat.le_of_lt (Nat.lt_of_succ_lt (FF.out k hk)), ?_, ?_, grown_thenX GG.out g9 (fun j e => by cases e; exact Nat.le_succ _)⟩
   ·rw [List.length_append, HL.out]; rfl
   ·have := WG.out.keep (Only.of_grown g9) (fun k hk e => by cases e; exact absurd (FF.out _ hk) (by omega))
    rw [List.length_append, HL.out]
    exact this
   ·rw [HRes.out]
    exact (SA.out.ninthK hca S3.out).2
   ·intro h0
    exact absurd h0 (SA.out.ninthK hca S3.out).1
  ·have g8 : ¬ (8 : Int) ≤ j := by omega
   have SA := S0
   have HRes := HRr
   have AA := Lib.hid hA
   have RA := Lib.hid hR
   have GA := Lib.hid hG
   have WA := Lib.hid hW
   clear hA hR hG hW
   have HIt := Lib.hid (fun W (hW : w.grownBy W none) => ritem_any b o n k T t W (HH.out.keep hW) i1 d d1 a1 SA.out)
   go_upto_region 5 with fail
   obtain ⟨wk, hwk⟩ : ∃ wk, wk = wr.alloc (.cells #[.int .i64 0, .string ⟨#[]⟩, .int .i64 0, .bool false] 123) := ⟨_, rfl⟩
   have gz : wr.grownBy wk none := by rw [hwk]; exact World.grownBy_alloc wr _ none
   have XC : Hid (wk.heap[wr.heap.size]? = some (.cells #[.int .i64 0, .string ⟨#[]⟩, .int .i64 0, .bool false] 123 (0, 0))) := Lib.hid (by rw [hwk]; exact alc1 wr _)
   rw [← hwk]
   have AC := Lib.hid (blkD gz AA.out)
   have RC := Lib.hid (blkD gz RA.out)
   have GC := Lib.hid (GA.out.trans gz)
   have WC := Lib.hid (WA.out.keepG gz)
   have hxb := Lib.hid (fun k hk => Nat.ne_of_lt (WA.out.lt k hk))
   have hRb : w.heap.size + 1 < wr.heap.size := (Array.getElem?_eq_some_iff.1 RA.out).1
   clear gz hwk AA RA WA
   obtain ⟨⟨c0, c1, c2, c3, c4⟩, f0, f1, f2, f3, f4⟩ := boxD5 AC.out
   go_wp2_with fail
   refine (HIt.out _ GC.out).mono ?_
   rintro e wd ⟨⟨i2, c2', a2, ⟨p2, rfl⟩, hS2⟩, hg⟩
   have S2 : Hid (SR n T (itemL t).1 i2 c2' a2) := Lib.hid hS2
   have AD := Lib.hid (blkD hg AC.out)
   have RD := Lib.hid (blkD hg RC.out)
   have XD := Lib.hid (blkD hg XC.out)
   have GD := Lib.hid (GC.out.trans hg)
   have WD := Lib.hid (WC.out.keepG hg)
   clear c0 c1 c2 c3 c4 f0 f1 f2 f3 f4
   clear hg hS2 HIt AC RC XC WC
   obtain ⟨⟨c0, c1, c2, c3, c4⟩, f0, f1, f2, f3, f4⟩ := boxD5 AD.out
   have g6 := grownD5 wd w.heap.size (.slice (some ⟨b, o, none⟩) n k) (.int .i64 i2) (.int .i64 d) (.int .i64 c2') (.int .i64 a2)
   obtain ⟨⟨v0, v1, v2, v3⟩, e0, e1, e2, e3⟩ := boxK (blkR XD.out g6 (by omega))
   go_upto_region 6 with fail
   obtain ⟨we, hwe⟩ : ∃ we, we = (((((((wd.setCell ⟨w.heap.size, 0, none⟩ (.slice (some ⟨b, o, none⟩) n k)).setCell ⟨w.heap.size, 1, none⟩ (.int .i64 i2)).setCell ⟨w.heap.size, 2, none⟩ (.int .i64 d)).setCell ⟨w.heap.size, 3, none⟩ (.int .i64 c2')).setCell ⟨w.heap.size, 4, none⟩ (.int .i64 a2)).setCell ⟨wr.heap.size, 0, none⟩ (.int .i64 ((itemL t).2.agg : Nat))).setCell ⟨wr.heap.size, 1, none⟩ (.string (itemL t).2.col)).setCell ⟨wr.heap.size, 2, none⟩ (.int .i64 p2) := ⟨_, rfl⟩
   have gx : (((((wd.setCell ⟨w.heap.size, 0, none⟩ (.slice (some ⟨b, o, none⟩) n k)).setCell ⟨w.heap.size, 1, none⟩ (.int .i64 i2)).setCell ⟨w.heap.size, 2, none⟩ (.int .i64 d)).setCell ⟨w.heap.size, 3, none⟩ (.int .i64 c2')).setCell ⟨w.heap.size, 4, none⟩ (.int .i64 a2)).grownBy we (some wr.heap.size) := by rw [hwe]; exact grownD3 _ _ _ _ _
   have AE := Lib.hid (blkR (setD5 AD.out) gx (by omega))
   have XE : Hid (we.heap[wr.heap.size]? = some (.cells #[.int .i64 ((itemL t).2.agg : Nat), .string (itemL t).2.col, .int .i64 p2, .bool false] 123 (0, 0))) := Lib.hid (by rw [hwe]; exact setK3 (blkR XD.out g6 (by omega)))
   have RE := Lib.hid (blkR (blkR RD.out g6 (by omega)) gx (by omega))
   have GE := Lib.hid (grown_thenX (grown_thenX GD.out g6 (fun j e => by cases e; exact Nat.le_refl _)) gx (fun j e => by cases e; omega))
   have WE := Lib.hid ((WD.out.keep (Only.of_grown g6) (fun k hk e => by cases e; exact absurd (FA.out _ hk) (by omega))).keep (Only.of_grown gx) (fun k hk e => by cases e; exact absurd rfl (hxb.out _ hk)))
   rw [← hwe]
   clear c0 c1 c2 c3 c4 f0 f1 f2 f3 f4
   clear hwe gx g6 AD RD XD WD v0 v1 v2 v3 e0 e1 e2 e3
   have HI1 := Lib.hid (fun W (hW : w.grownBy W none) => ris_any b o n k T (itemL t).1 W (HH.out.keep hW) i2 d c2' a2 bDesc S2.out keyDesc)
   have HI2 := Lib.hid (fun W (hW : w.grownBy W none) => ris_any b o n k T (itemL t).1 W (HH.out.keep hW) i2 d c2' a2 bAsc S2.out keyAsc)
   obtain ⟨⟨c0, c1, c2, c3, c4⟩, f0, f1, f2, f3, f4⟩ := boxD5 AE.out
   go_wp2_with fail
   refine (HI1.out _ GE.out).mono ?_
   rintro e wf ⟨rfl, hg⟩
   have AF := Lib.hid (blkD hg AE.out)
   have RF := Lib.hid (blkD hg RE.out)
   have XF := Lib.hid (blkD hg XE.out)
   have GF := Lib.hid (GE.out.trans hg)
   have WF := Lib.hid (WE.out.keepG hg)
   clear c0 c1 c2 c3 c4 f0 f1 f2 f3 f4
   clear hg AE RE XE WE HI1
   go_upto_if 19 with fail
   go_cut [4] from 6 (fun s4 wx => s4 = .slice arr j cap ∧ KeyMid b o n k d T t w wr.heap.size arr cap j l wx)
   case first => as_aux_lemma =>
    cases hy : (itemL t).1.comes bDesc with
    | true =>
     have HP := Lib.hid (fun W (hW : w.grownBy W none) => rpass_any b o n k T (itemL t).1 W (HH.out.keep hW) i2 d c2' a2 bDesc S2.out keyDesc hy)
     have HKd := Lib.hid (key_desc t (itemL t).2.agg (itemL t).2.col p2 hy rfl rfl)
     clear hy HI2
     obtain ⟨⟨c0, c1, c2, c3, c4⟩, f0, f1, f2, f3, f4⟩ := boxD5 AF.out
     obtain ⟨⟨v0, v1, v2, v3⟩, e0, e1, e2, e3⟩ := boxK XF.out
     have gk := gq_cellR wf wr.heap.size 3 (.bool true)
     obtain ⟨wq, hwq⟩ : ∃ wq, wq = wf.setCell ⟨wr.heap.size, 3, none⟩ (.bool true) := ⟨_, rfl⟩
     go_upto_region 8 with fail
     rw [← hwq] at gk ⊢
     have AQ := Lib.hid (blkR AF.out gk (by omega))
     have RQ := Lib.hid (blkR RF.out gk (by omega))
     have XQ : Hid (wq.heap[wr.heap.size]? = some (.cells #[.int .i64 ((itemL t).2.agg : Nat), .string (itemL t).2.col, .int .i64 p2, .bool true] 123 (0, 0))) := Lib.hid (by
      rw [hwq]
      have := heap_setCell_same _ _ 3 _ _ (.bool true) XF.out
      simpa using this)
     have GQ := Lib.hid (grown_thenX GF.out gk (fun j e => by cases e; omega))
     have WQ := Lib.hid (WF.out.keep (Only.of_grown gk) (fun k hk e => by cases e; exact absurd rfl (hxb.out _ hk)))
     clear c0 c1 c2 c3 c4 f0 f1 f2 f3 f4
     clear hwq gk AF RF XF WF v0 v1 v2 v3 e0 e1 e2 e3
     obtain ⟨⟨c0, c1, c2, c3, c4⟩, f0, f1, f2, f3, f4⟩ := boxD5 AQ.out
     go_wp2_with fail
     refine (HP.out _ GQ.out).mono ?_
     rintro e wx ⟨⟨rfl, hSp⟩, hg⟩
     have AX := Lib.hid (blkD hg AQ.out)
     have g9 := grownD5 wx w.heap.size (.slice (some ⟨b, o, none⟩) n k) (.int .i64 ((i2 : Int) + 1)) (.int .i64 d) (.int .i64 0) (.int .i64 0)
     clear c0 c1 c2 c3 c4 f0 f1 f2 f3 f4
     obtain ⟨⟨c0, c1, c2, c3, c4⟩, f0, f1, f2, f3, f4⟩ := boxD5 AX.out
     go_wp2_with fail
     go_meet
     exact ⟨rfl, i2 + 1, 0, 0, ⟨⟨(itemL t).2.agg, (itemL t).2.col, p2⟩, true⟩, setD5 AX.out, blkR (blkD hg RQ.out) g9 (by omega), blkR (blkD hg XQ.out) g9 (by omega), HKd.out.2, by rw [HKd.out.1]; exact hSp, grown_thenX (GQ.out.trans hg) g9 (fun j e => by cases e; exact Nat.le_refl _), (WQ.out.keepG hg).keep (Only.of_grown g9) (fun k hk e => by cases e; exact absurd (FA.out _ hk) (by omega))⟩
    | false =>
     obtain ⟨⟨c0, c1, c2, c3, c4⟩, f0, f1, f2, f3, f4⟩ := boxD5 AF.out
     go_wp2_with fail
     refine (HI2.out _ GF.out).mono ?_
     rintro e wg ⟨rfl, hg⟩
     have AG := Lib.hid (blkD hg AF.out)
     have RG := Lib.hid (blkD hg RF.out)
     have XG := Lib.hid (blkD hg XF.out)
     have GG := Lib.hid (GF.out.trans hg)
     have WG := Lib.hid (WF.out.keepG hg)
     clear c0 c1 c2 c3 c4 f0 f1 f2 f3 f4
     clear hg AF RF XF WF HI2
     cases hz : (itemL t).1.comes bAsc with
     | true =>
      have HP := Lib.hid (fun W (hW : w.grownBy W none) => rpass_any b o n k T (itemL t).1 W (HH.out.keep hW) i2 d c2' a2 bAsc S2.out keyAsc hz)
      have HKa := Lib.hid (key_asc t (itemL t).2.agg (itemL t).2.col p2 hz rfl rfl)
      clear hy hz
      obtain ⟨⟨c0, c1, c2, c3, c4⟩, f0, f1, f2, f3, f4⟩ := boxD5 AG.out
      go_wp2_with fail
      refine (HP.out _ GG.out).mono ?_
      rintro e wx ⟨⟨rfl, hSp⟩, hg⟩
      have AX := Lib.hid (blkD hg AG.out)
      have g9 := grownD5 wx w.heap.size (.slice (some ⟨b, o, none⟩) n k) (.int .i64 ((i2 : Int) + 1)) (.int .i64 d) (.int .i64 0) (.int .i64 0)
      clear c0 c1 c2 c3 c4 f0 f1 f2 f3 f4
      obtain ⟨⟨c0, c1, c2, c3, c4⟩, f0, f1, f2, f3, f4⟩ := boxD5 AX.out
      go_wp2_with fail
      go_meet
      exact ⟨rfl, i2 + 1, 0, 0, ⟨⟨(itemL t).2.agg, (itemL t).2.col, p2⟩, false⟩, setD5 AX.out, blkR (blkD hg RG.out) g9 (by omega), blkR (blkD hg XG.out) g9 (by omega), HKa.out.2, by rw [HKa.out.1]; exact hSp, grown_thenX (GG.out.trans hg) g9 (fun j e => by cases e; exact Nat.le_refl _), (WG.out.keepG hg).keep (Only.of_grown g9) (fun k hk e => by cases e; exact absurd (FA.out _ hk) (by omega))⟩
     | false =>
      have HKn := Lib.hid (key_none t (itemL t).2.agg (itemL t).2.col p2 hy hz rfl rfl)
      clear hy hz
      go_wp2_with fail
      go_meet
      exact ⟨rfl, i2, c2', a2, ⟨⟨(itemL t).2.agg, (itemL t).2.col, p2⟩, false⟩, AG.out, RG.out, XG.out, HKn.out.2, by rw [HKn.out.1]; exact S2.out, GG.out, WG.out⟩
   case rest =>
   obtain ⟨rfl, i3, y3, a3, x, hA3, hR3, hX3, hx3, hS3, hG3, hW3⟩ := hcut
   obtain ⟨we, hwe⟩ : ∃ we, we = wc := ⟨_, rfl⟩
   rw [← hwe] at hA3 hR3 hX3 hG3 hW3 ⊢
   have AE := Lib.hid hA3
   have RE := Lib.hid hR3
   have XE := Lib.hid hX3
   have GE := Lib.hid hG3
   have WE := Lib.hid hW3
   have HXe := Lib.hid hx3
   have S3 := Lib.hid hS3
   clear hwe hA3 hR3 hX3 hG3 hW3 hx3 hS3 AF RF XF WF HI2 S2 hxb
   have hAe : w.heap.size < we.heap.size := (Array.getElem?_eq_some_iff.1 AE.out).1
   have hRe : w.heap.size + 1 < we.heap.size := (Array.getElem?_eq_some_iff.1 RE.out).1
   obtain ⟨⟨xg, xc, xp⟩, xd⟩ := x
   obtain ⟨⟨v0, v1, v2, v3⟩, e0, e1, e2, e3⟩ := boxK XE.out
   go_wp2_with (refine wpList_append_winA rfl (.tmp 27) (.tmp 29) key_el (by rfl) (WE.out.keepG (World.grownBy_alloc we (.cells #[.int .i64 xg, .string xc, .int .i64 xp, .bool xd] 123) none)) (by rfl) (some ⟨we.heap.size, 0, none⟩) 1 1 (by rfl) [.int .i64 xg, .string xc, .int .i64 xp, .bool xd] (fun e => by cases e) rfl (by omega) (fun ad e j u hj => by cases e; rw [add_atT]; rw [cell_of_row _ _ (0 + j) _ _ _ (alc1 we _)]; simpa using hj) (by simp [Value.oneCell']) ?_)
   intro arr2 cap2 wf z2 o2 b2 _
   have ga := World.grownBy_alloc we (.cells #[.int .i64 xg, .string xc, .int .i64 xp, .bool xd] 123) none
   have GF := Lib.hid (grown_onlyN (GE.out.trans ga) o2 (fun k hk => Nat.le_of_lt (Nat.lt_of_succ_lt (FA.out k hk))))
   have AF := Lib.hid ((o2.block _ (Nat.lt_of_lt_of_le hAe ga.size) (fun hk => absurd (FA.out _ hk) (by omega))).trans (blkD ga AE.out))
   have RF := Lib.hid ((o2.block _ (Nat.lt_of_lt_of_le hRe ga.size) (fun hk => absurd (FA.out _ hk) (by omega))).trans (blkD ga RE.out))
   have FF : Hid (∀ k, bk arr2 k → w.heap.size + 1 < k) := Lib.hid (fun k hk => (b2 k hk).elim (FA.out k) (fun e => by first | omega | (simp at e; omega)))
   have WF : Hid (Win 4 wf arr2 cap2 (j + 1) ((l ++ [(⟨⟨xg, xc, xp⟩, xd⟩ : Kyo)]).flatMap Kyo.c)) := Lib.hid (by
    rw [List.flatMap_append]
    exact z2)
   have HI := Lib.hid (fun W (hW : w.grownBy W none) => ris_any b o n k T (keyL t).1 W (HH.out.keep hW) i3 d y3 a3 bComma S3.out (.inr (by decide +kernel)))
   clear z2 o2 b2 ga AE RE XE WE v0 v1 v2 v3 e0 e1 e2 e3
   obtain ⟨⟨c0, c1, c2, c3, c4⟩, f0, f1, f2, f3, f4⟩ := boxD5 AF.out
   go_wp2_with fail
   refine (HI.out _ GF.out).mono ?_
   rintro e wg ⟨rfl, hg⟩
   have AG := Lib.hid (blkD hg AF.out)
   have RG := Lib.hid (blkD hg RF.out)
   have GG := Lib.hid (GF.out.trans hg)
   have WG := Lib.hid (WF.out.keepG hg)
   clear c0 c1 c2 c3 c4 f0 f1 f2 f3 f4
   clear hg AF RF WF HI
   cases hy : (keyL t).1.comes bComma with
   | false =>
    have HRf : Hid (r = ((keyL t).1, acc ++ [(keyL t).2])) := Lib.hid (by rw [← HRes.out, show 9 - j = (8 - j) + 1 by omega]; exact listF_endD (by rw [HA.out]; omega) hy)
    clear hy
    obtain ⟨⟨c0, c1, c2, c3, c4⟩, f0, f1, f2, f3, f4⟩ := boxD5 AG.out
    obtain ⟨⟨r0, r1, r2, r3, r4⟩, q0, q1, q2, q3, q4⟩ := boxD5 RG.out
    go_wp2_with fail
    have g9 := grownD5 wg (w.heap.size + 1) (.slice (some ⟨b, o, none⟩) n k) (.int .i64 i3) (.int .i64 d) (.int .i64 y3) (.int .i64 a3)
    refine bodyPost_ret (res_ct rfl _ _ (w.heap.size + 1) _ rfl (setD5 RG.out) rfl) rfl ⟨i3, y3, a3, arr2, cap2, l ++ [(⟨⟨xg, xc, xp⟩, xd⟩ : Kyo)], ?_, ?_, fun k hk => Nat.le_of_lt (Nat.lt_of_succ_lt (FF.out k hk)), ?_, ?_, grown_thenX GG.out g9 (fun j e => by cases e; exact Nat.le_succ _)⟩
    ·rw [List.length_append, HL.out]; rfl
    ·have := WG.out.keep (Only.of_grown g9) (fun k hk e => by cases e; exact absurd (FF.out _ hk) (by omega))
     rw [List.length_append, HL.out]
     exact this
    ·rw [HRf.out]
     exact S3.out
    ·intro _
     rw [HRf.out, List.map_append, List.map_append, HM.out]
     simp only [List.map_cons, List.map_nil]
     rw [HXe.out]
   | true =>
    have HRt : Hid (listF 8 keyL (9 - (j + 1)) (keyL t).1.pass (acc ++ [(keyL t).2]) = r) := Lib.hid (by rw [← HRes.out, show 9 - j = (9 - (j + 1)) + 1 by omega]; exact (listF_moreD (by rw [HA.out]; omega) hy).symm)
    have HP := Lib.hid (fun W (hW : w.grownBy W none) => rpass_any b o n k T (keyL t).1 W (HH.out.keep hW) i3 d y3 a3 bComma S3.out (.inr (by decide +kernel)) hy)
    clear hy
    obtain ⟨⟨c0, c1, c2, c3, c4⟩, f0, f1, f2, f3, f4⟩ := boxD5 AG.out
    go_wp2_with fail
    refine (HP.out _ GG.out).mono ?_
    rintro e wh ⟨⟨rfl, hSp⟩, hg⟩
    have SP := Lib.hid hSp
    have AH := Lib.hid (blkD hg AG.out)
    have RH := Lib.hid (blkD hg RG.out)
    have GH := Lib.hid (GG.out.trans hg)
    have WH := Lib.hid (WG.out.keepG hg)
    clear c0 c1 c2 c3 c4 f0 f1 f2 f3 f4
    clear hg hSp AG RG WG HP
    obtain ⟨⟨c0, c1, c2, c3, c4⟩, f0, f1, f2, f3, f4⟩ := boxD5 AH.out
    have g9 := grownD5 wh w.heap.size (.slice (some ⟨b, o, none⟩) n k) (.int .i64 ((i3 : Int) + 1)) (.int .i64 d) (.int .i64 0) (.int .i64 0)
    go_wp2_with fail
    go_roundw
    case rel => exact ⟨j + 1, i3 + 1, 0, 0, (keyL t).1.pass, arr2, cap2, l ++ [(⟨⟨xg, xc, xp⟩, xd⟩ : Kyo)], acc ++ [(keyL t).2], rfl, by rw [List.length_append, HL.out]; rfl, by rw [List.length_append, HA.out]; rfl, by omega, by rw [List.map_append, List.map_append, HM.out]; simp only [List.map_cons, List.map_nil]; rw [HXe.out], HRt.out, SP.out, WH.out.keep (Only.of_grown g9) (fun k hk e => by cases e; exact absurd (FF.out _ hk) (by omega)), FF.out, setD5 AH.out, blkR RH.out g9 (by omega), grown_thenX GH.out g9 (fun j e => by cases e; exact Nat.le_refl _)⟩
    case measure => simp [lenV]; omega
end Go.Proofs.Ytfambadamebjjaa
namespace Go.Proofs.Ytfambadamebjjaa
open Go.RowKit
def PGo (b o n k d : Nat) (T : List Tk) (r : RS × Prd) (w : World) (e : Ending) (w' : World) : Prop :=
 ∃ (i' c' a' : Nat) (y : Pm), e = .returned (.tuple #[.agg #[.slice (some ⟨b, o, none⟩) n k, .int .i64 i', .int .i64 d, .int .i64 c', .int .i64 a'], y.v]) ∧ SR n T r.1 i' c' a' ∧ (c' = 0 → y.e.e = r.2.e) ∧ PmS (fun j => w.heap.size ≤ j) w' y ∧ w.grownBy w' none
theorem SR.swrong {n i c a x : Nat} {T : List Tk} {s : RS} (h : SR n T s i c a) (hc : c ≠ 0) : SR n T (s.wrong x) i c a := h.swap hc (h.ok.wrong x).1 (by simp [RS.wrong]) (h.ok.wrong x).2
theorem SR.lit_bad {n i c a : Nat} {T : List Tk} {s : RS} (h : SR n T s i c a) (hc : c ≠ 0) : s.literal = (s.wrong 11, ⟨0, 0, ⟨#[]⟩⟩) := by
 unfold RS.literal
 rw [(h.bad hc).2.2, if_neg (by decide +kernel)]
theorem SR.slit {n i c a : Nat} {T : List Tk} {s : RS} (h : SR n T s i c a) (hc : c ≠ 0) : SR n T s.literal.1 i c a := by
 rw [h.lit_bad hc]; exact h.swrong hc
theorem SR.sneed {n i c a : Nat} {T : List Tk} {s : RS} {t : ByteArray} (h : SR n T s i c a) (hc : c ≠ 0) (ht : keyT t) : SR n T (s.need t) i c a := by
 unfold RS.need; rw [h.bad_comes hc ht]; exact h.swrong hc
theorem SR.rel_bad {n i c a : Nat} {T : List Tk} {s : RS} (h : SR n T s i c a) (hc : c ≠ 0) : s.rel = (s, 0) := by
 unfold RS.rel
 rw [(h.bad hc).2.2, if_pos (by decide +kernel)]
theorem SR.named_bad {n i c a : Nat} {T : List Tk} {s : RS} (h : SR n T s i c a) (hc : c ≠ 0) : s.named = false := by
 unfold RS.named; rw [(h.bad hc).2.1]; rfl
theorem SR.slitP {n i c a : Nat} {T : List Tk} {s : RS} (h : SR n T s i c a) (hc : c ≠ 0) (pos : Nat) : SR n T (litP pos s).1 i c a := by
 have h2 := h.slit hc
 unfold litP
 dsimp only
 rw [h2.rel_bad hc, if_pos rfl]
 rw [h.lit_bad hc] at h2 ⊢
 unfold truthP
 dsimp only
 rw [if_neg (by decide)]
 exact h2.swrong hc
theorem key_not : keyT bNot := .inl (by decide +kernel)
theorem key_open : keyT bOpen := .inr (by decide +kernel)
theorem key_shut : keyT bShut := .inr (by decide +kernel)
theorem key_comma : keyT bComma := .inr (by decide +kernel)
theorem key_is : keyT bIs := .inl (by decide +kernel)
theorem key_null : keyT bNull := .inl (by decide +kernel)
theorem key_in : keyT bIn := .inl (by decide +kernel)
theorem key_between : keyT bBetween := .inl (by decide +kernel)
theorem key_and : keyT bAnd := .inl (by decide +kernel)
theorem key_or : keyT bOr := .inl (by decide +kernel)
theorem SR.sone {n i c a : Nat} {T : List Tk} {s : RS} (h : SR n T s i c a) (hc : c ≠ 0) : ∀ d, SR n T (oneF d s).1 i c a
 | 0 => h.swrong hc
 | d + 1 => by
  rw [oneF, h.bad_comes hc key_not, if_neg (by decide), h.bad_comes hc key_open, if_neg (by decide), h.named_bad hc, if_neg (by decide)]
  exact h.slitP hc _
theorem oneF_not {d : Nat} {s : RS} (h : s.comes bNot = true) : oneF (d + 1) s = ((oneF d s.pass).1, notP (oneF d s.pass).2 s.hd.pos) := by
 rw [oneF, if_pos h]
theorem oneF_open {d : Nat} {s : RS} (h1 : s.comes bNot = false) (h : s.comes bOpen = true) : oneF (d + 1) s = ((anyF d s.pass).1.need bShut, (anyF d s.pass).2) := by
 rw [oneF, if_neg (by rw [h1]; decide), if_pos h]; rfl
theorem oneF_name {d : Nat} {s : RS} (h1 : s.comes bNot = false) (h2 : s.comes bOpen = false) (h : s.named = true) : oneF (d + 1) s = nameP s.hd.pos s := by
 rw [oneF, if_neg (by rw [h1]; decide), if_neg (by rw [h2]; decide), if_pos h]
theorem oneF_lit {d : Nat} {s : RS} (h1 : s.comes bNot = false) (h2 : s.comes bOpen = false) (h : s.named = false) : oneF (d + 1) s = litP s.hd.pos s := by
 rw [oneF, if_neg (by rw [h1]; decide), if_neg (by rw [h2]; decide), if_neg (by rw [h]; decide)]
theorem rel_key {t : ByteArray} (h : relT t ≠ 0) : keyT t := by
 unfold relT at h
 by_cases h1 : t = ⟨#[61]⟩
 ·rw [h1]; exact .inr (by decide +kernel)
 by_cases h2 : t = ⟨#[60, 62]⟩
 ·rw [h2]; exact .inr (by decide +kernel)
 by_cases h3 : t = ⟨#[60]⟩
 ·rw [h3]; exact .inr (by decide +kernel)
 by_cases h4 : t = ⟨#[60, 61]⟩
 ·rw [h4]; exact .inr (by decide +kernel)
 by_cases h5 : t = ⟨#[62]⟩
 ·rw [h5]; exact .inr (by decide +kernel)
 by_cases h6 : t = ⟨#[62, 61]⟩
 ·rw [h6]; exact .inr (by decide +kernel)
 rw [if_neg h1, if_neg h2, if_neg h3, if_neg h4, if_neg h5, if_neg h6] at h
 exact absurd rfl h
theorem rel_no {s : RS} {t : ByteArray} (h : relT s.hd.text ≠ 0) (ht : relT t = 0) : s.comes t = false := by
 unfold RS.comes
 exact decide_eq_false (fun e => h (by rw [e]; exact ht))
theorem rel_pass {s : RS} (h : relT s.hd.text ≠ 0) : s.rel = (s.pass, relT s.hd.text) := by unfold RS.rel; rw [if_neg h]
theorem rel_stay {s : RS} (h : relT s.hd.text = 0) : s.rel = (s, 0) := by unfold RS.rel; rw [if_pos h]
theorem nameP_relN {pos : Nat} {s : RS} (hr : relT s.name.1.hd.text ≠ 0) (h : s.name.1.pass.named = true) : nameP pos s = (s.name.1.pass.name.1, .mk 4 s.name.2 (relT s.name.1.hd.text) ⟨0, 0, ⟨#[]⟩⟩ s.name.1.pass.name.2 [] [] pos) := by
 unfold nameP
 dsimp only
 rw [rel_no hr (by decide +kernel), if_neg (by decide), rel_no hr (by decide +kernel), if_neg (by decide), rel_pass hr, if_neg hr, if_pos h]
theorem nameP_relL {pos : Nat} {s : RS} (hr : relT s.name.1.hd.text ≠ 0) (h : s.name.1.pass.named = false) : nameP pos s = (s.name.1.pass.literal.1, .mk 3 s.name.2 (relT s.name.1.hd.text) s.name.1.pass.literal.2 ⟨#[]⟩ [] [] pos) := by
 unfold nameP
 dsimp only
 rw [rel_no hr (by decide +kernel), if_neg (by decide), rel_no hr (by decide +kernel), if_neg (by decide), rel_pass hr, if_neg hr, if_neg (by rw [h]; decide)]
theorem nameP_is {pos : Nat} {s : RS} (h : s.name.1.comes bIs = true) : nameP pos s = (if s.name.1.pass.comes bNot = true then s.name.1.pass.pass.need bNull else s.name.1.pass.need bNull, .mk (if s.name.1.pass.comes bNot = true then 7 else 6) s.name.2 0 ⟨0, 0, ⟨#[]⟩⟩ ⟨#[]⟩ [] [] pos) := by
 unfold nameP
 dsimp only
 rw [if_pos h]
 by_cases h2 : s.name.1.pass.comes bNot = true
 ·rw [if_pos h2, if_pos h2, if_pos h2]
 ·rw [if_neg h2, if_neg h2, if_neg h2]
theorem nameP_among {pos : Nat} {s : RS} (hr : relT s.name.1.hd.text = 0) (h : s.name.1.comes bIs = false) (ask : Bool) (ha : s.name.1.comes bNot = ask) (u : RS) (hu : u = if ask then s.name.1.pass else s.name.1) : nameP pos s = ((amongL s.name.2 pos u).1, if ask then notP (amongL s.name.2 pos u).2 pos else (amongL s.name.2 pos u).2) := by
 unfold nameP
 dsimp only
 rw [if_neg (by rw [h]; decide), ha, rel_stay hr, hu]
 cases ask with
 | true => rw [if_pos rfl, if_pos rfl, if_pos rfl]
 | false => rw [if_neg (by decide), if_pos rfl, if_neg (by decide), if_neg (by decide)]
theorem amongL_in {col : ByteArray} {pos : Nat} {s : RS} (h : s.comes bIn = true) : amongL col pos s = ((listF 12 RS.literal 13 (s.pass.need bOpen) []).1.need bShut, .mk 5 col 0 ⟨0, 0, ⟨#[]⟩⟩ ⟨#[]⟩ (listF 12 RS.literal 13 (s.pass.need bOpen) []).2 [] pos) := by
 unfold amongL; rw [if_pos h]
theorem amongL_between {col : ByteArray} {pos : Nat} {s : RS} (h : s.comes bIn = false) : amongL col pos s = (((s.need bBetween).literal.1.need bAnd).literal.1, .mk 8 ⟨#[]⟩ 0 ⟨0, 0, ⟨#[]⟩⟩ ⟨#[]⟩ [] [.mk 3 col 6 (s.need bBetween).literal.2 ⟨#[]⟩ [] [] pos, .mk 3 col 4 ((s.need bBetween).literal.1.need bAnd).literal.2 ⟨#[]⟩ [] [] pos] pos) := by
 unfold amongL; rw [if_neg (by rw [h]; decide)]
theorem RS.need_no {s : RS} {t : ByteArray} (hc : s.comes t = false) : s.need t = s.wrong 11 := by
 unfold RS.need; rw [hc, if_neg (by decide)]
theorem RS.need_yes {s : RS} {t : ByteArray} (hc : s.comes t = true) : s.need t = s.pass := by
 unfold RS.need; rw [hc, if_pos rfl]
theorem SR.among_bad {n i c a : Nat} {T : List Tk} {s : RS} (h : SR n T (s.wrong 11) i c a) (hc : c ≠ 0) (col : ByteArray) (pos : Nat) (h1 : s.comes bIn = false) (h2 : s.comes bBetween = false) : SR n T (amongL col pos s).1 i c a := by
 rw [amongL_between h1]
 have e : s.need bBetween = s.wrong 11 := by unfold RS.need; rw [h2, if_neg (by decide)]
 dsimp only
 rw [e]
 exact ((h.slit hc).sneed hc key_and).slit hc
theorem SR.ninthL {n i c a i' c' a' : Nat} {T : List Tk} {s : RS} (h : SR n T (s.wrong 3) i c a) (hc : c ≠ 0) (h' : SR n T (s.wrong 3).literal.1 i' c' a') : c' ≠ 0 ∧ SR n T (s.wrong 3) i' c' a' := by
 have hc' : c' ≠ 0 := fun e => by
  have := h'.err0.2 e
  rw [h.lit_bad hc] at this
  cases this
 exact ⟨hc', h'.swap hc' h.ok (fun e => hc (h.err0.1 e)) (h.failed hc)⟩
end Go.Proofs.Ytfambadamebjjaa
namespace Go.Proofs.Ytfambadamebjjaa
open Go.RowKit
structure ColJ (b o n k d : Nat) (w : World) (p V i c a : Nat) (x : Array Value) (W : World) : Prop where
 st : W.heap[w.heap.size]? = some (.cells #[.slice (some ⟨b, o, none⟩) n k, .int .i64 i, .int .i64 d, .int .i64 c, .int .i64 a] 81)
 rs : W.heap[w.heap.size + 1]? = some (.cells #[.slice none 0 0, .int .i64 0, .int .i64 0, .int .i64 0, .int .i64 0] 81)
 rp : W.heap[w.heap.size + 1 + 1]? = some (.cells z10 34 (0, 0))
 pp : W.heap[p]? = some (.cells x 34 (0, 0))
 vv : ∃ (v0 v1 : Int) (v2 : ByteArray), W.heap[V]? = some (.cells #[.int .i64 v0, .int .i64 v1, .string v2] 31 (0, 0))
 p1 : w.heap.size + 1 + 1 < p
 p2 : p < V
 g : w.grownBy W none
theorem range_rowD {W : World} {g : Nat} {cs : Array Value} {T : TypeId} (h : W.heap[g]? = some (.cells cs T (0, 0))) : W.rangeAt g 0 cs.toList := fun j u hj => by
 rw [Nat.zero_add, cell_of_row _ _ j _ _ _ h]
 simpa using hj
theorem ColJ.then {b o n k d p V i c a : Nat} {w W W' : World} {x : Array Value} (h : ColJ b o n k d w p V i c a x W) (hg : W.grownBy W' none) : ColJ b o n k d w p V i c a x W' :=
 ⟨blkD hg h.st, blkD hg h.rs, blkD hg h.rp, blkD hg h.pp, (by obtain ⟨v0, v1, v2, hv⟩ := h.vv; exact ⟨v0, v1, v2, blkD hg hv⟩), h.p1, h.p2, h.g.trans hg⟩
theorem ColJ.setS {b o n k d p V i c a : Nat} {w W : World} {x : Array Value} (h : ColJ b o n k d w p V i c a x W) (i' c' a' : Nat) : ColJ b o n k d w p V i' c' a' x (((((W.setCell ⟨w.heap.size, 0, none⟩ (.slice (some ⟨b, o, none⟩) n k)).setCell ⟨w.heap.size, 1, none⟩ (.int .i64 i')).setCell ⟨w.heap.size, 2, none⟩ (.int .i64 d)).setCell ⟨w.heap.size, 3, none⟩ (.int .i64 c')).setCell ⟨w.heap.size, 4, none⟩ (.int .i64 a')) :=
 have hg := grownD5 W w.heap.size (.slice (some ⟨b, o, none⟩) n k) (.int .i64 i') (.int .i64 d) (.int .i64 c') (.int .i64 a')
 have h1 := h.p1
 have h2 := h.p2
 ⟨setD5 h.st, blkR h.rs hg (by omega), blkR h.rp hg (by omega), blkR h.pp hg (by omega), (by obtain ⟨v0, v1, v2, hv⟩ := h.vv; exact ⟨v0, v1, v2, blkR hv hg (by omega)⟩), h1, h2, grown_thenX h.g hg (fun j e => by cases e; exact Nat.le_refl _)⟩
theorem ColJ.setP {b o n k d p V i c a : Nat} {w W : World} {x : Array Value} (h : ColJ b o n k d w p V i c a x W) (j : Nat) (u : Value) : ColJ b o n k d w p V i c a (x.setIfInBounds j u) (W.setCell ⟨p, j, none⟩ u) :=
 have hg := gq_cellR W p j u
 have h1 := h.p1
 have h2 := h.p2
 ⟨blkR h.st hg (by omega), blkR h.rs hg (by omega), blkR h.rp hg (by omega), heap_setCell_same _ _ j _ _ u h.pp, (by obtain ⟨v0, v1, v2, hv⟩ := h.vv; exact ⟨v0, v1, v2, blkR hv hg (by omega)⟩), h1, h2, grown_thenX h.g hg (fun j e => by cases e; omega)⟩
theorem ColJ.fin {b o n k d p V i0 c0 a0 : Nat} {w W : World} {x : Array Value} (h : ColJ b o n k d w p V i0 c0 a0 x W) (i c a : Nat) (y : Pm) :
  ((W.setRow (w.heap.size + 1) #[.slice (some ⟨b, o, none⟩) n k, .int .i64 i, .int .i64 d, .int .i64 c, .int .i64 a]).setRow (w.heap.size + 1 + 1) y.c.toArray).heap[w.heap.size + 1]? = some (.cells #[.slice (some ⟨b, o, none⟩) n k, .int .i64 i, .int .i64 d, .int .i64 c, .int .i64 a] 81) ∧ ((W.setRow (w.heap.size + 1) #[.slice (some ⟨b, o, none⟩) n k, .int .i64 i, .int .i64 d, .int .i64 c, .int .i64 a]).setRow (w.heap.size + 1 + 1) y.c.toArray).heap[w.heap.size + 1 + 1]? = some (.cells y.c.toArray 34 (0, 0)) ∧ w.grownBy ((W.setRow (w.heap.size + 1) #[.slice (some ⟨b, o, none⟩) n k, .int .i64 i, .int .i64 d, .int .i64 c, .int .i64 a]).setRow (w.heap.size + 1 + 1) y.c.toArray) none := by
 refine ⟨(setRow_other _ _ _ _ (by omega)).trans (setRow_heap _ _ _ _ _ _ h.rs), setRow_heap _ _ _ _ _ _ ((setRow_other _ _ _ _ (by omega)).trans h.rp), ?_⟩
 exact grown_thenX (grown_thenX h.g (grown_setRow _ _ _) (fun j e => by cases e; exact Nat.le_succ _)) (grown_setRow _ _ _) (fun j e => by cases e; omega)
theorem ColJ.begin {b o n k d i c a : Nat} {w W : World} {x : Array Value} (h1 : W.heap[w.heap.size]? = some (.cells #[.slice (some ⟨b, o, none⟩) n k, .int .i64 i, .int .i64 d, .int .i64 c, .int .i64 a] 81)) (h2 : W.heap[w.heap.size + 1]? = some (.cells #[.slice none 0 0, .int .i64 0, .int .i64 0, .int .i64 0, .int .i64 0] 81)) (h3 : W.heap[w.heap.size + 1 + 1]? = some (.cells z10 34 (0, 0))) (hg : w.grownBy W none) :
  ColJ b o n k d w W.heap.size (W.heap.size + 1) i c a x ((W.alloc (.cells x 34)).alloc (.cells #[.int .i64 0, .int .i64 0, .string ⟨#[]⟩] 31)) := by
 have gz := gq_al (gq_al (grown_reflT W none) (.cells x 34)) (.cells #[.int .i64 0, .int .i64 0, .string ⟨#[]⟩] 31)
 exact ⟨blkD gz h1, blkD gz h2, blkD gz h3, alc2a _ _ _, ⟨0, 0, ⟨#[]⟩, alc2b _ _ _⟩, (Array.getElem?_eq_some_iff.1 h3).1, Nat.lt_succ_self _, hg.trans gz⟩
theorem ColJ.setV {b o n k d p V i c a : Nat} {w W : World} {x : Array Value} (h : ColJ b o n k d w p V i c a x W) {v0 v1 : Int} {v2 : ByteArray} (hv : W.heap[V]? = some (.cells #[.int .i64 v0, .int .i64 v1, .string v2] 31 (0, 0))) (u0 u1 : Int) (u2 : ByteArray) : ColJ b o n k d w p V i c a x (((W.setCell ⟨V, 0, none⟩ (.int .i64 u0)).setCell ⟨V, 1, none⟩ (.int .i64 u1)).setCell ⟨V, 2, none⟩ (.string u2)) :=
 have hg := grownD3 W V (.int .i64 u0) (.int .i64 u1) (.string u2)
 have h1 := h.p1
 have h2 := h.p2
 ⟨blkR h.st hg (by omega), blkR h.rs hg (by omega), blkR h.rp hg (by omega), blkR h.pp hg (by omega), ⟨u0, u1, u2, setD3 hv⟩, h1, h2, grown_thenX h.g hg (fun j e => by cases e; omega)⟩
theorem ColJ.only {b o n k d p V i c a : Nat} {w W W' : World} {x : Array Value} {arr : Option Addr} (h : ColJ b o n k d w p V i c a x W) (ho : Only (bk arr) W W') (hb : ∀ q, bk arr q → V < q) : ColJ b o n k d w p V i c a x W' := by
 have h1 := h.p1
 have h2 := h.p2
 have kp : ∀ {g : Nat} {y : Obj}, g ≤ V → W.heap[g]? = some y → W'.heap[g]? = some y := fun {g y} hg hy => (ho.block g (Array.getElem?_eq_some_iff.1 hy).1 (fun e => by have := hb g e; omega)).trans hy
 exact ⟨kp (by omega) h.st, kp (by omega) h.rs, kp (by omega) h.rp, kp (by omega) h.pp, (by obtain ⟨v0, v1, v2, hv⟩ := h.vv; exact ⟨v0, v1, v2, kp (Nat.le_refl _) hv⟩), h1, h2, grown_onlyN h.g ho (fun q hq => by have := hb q hq; omega)⟩
theorem Win.putD {sz : Nat} {W W' : World} {arr : Option Addr} {cap j V g : Nat} {xs : List Value} (h : Win sz W arr cap j xs) (hb : ∀ q, bk arr q → V < q) (hg : g ≤ V) (hk : W.grownBy W' (some g)) : Win sz W' arr cap j xs :=
 h.keep (Only.of_grown hk) (fun q hq e => by cases e; have := hb _ hq; omega)
structure BtJ (b o n k d : Nat) (w : World) (p V i c a : Nat) (x : Array Value) (L U : Nat) (xl xu : Array Value) (W : World) : Prop where
 j : ColJ b o n k d w p V i c a x W
 pl : W.heap[L]? = some (.cells xl 34 (0, 0))
 pu : W.heap[U]? = some (.cells xu 34 (0, 0))
 l1 : V < L
 u1 : V < U
 ne : L ≠ U
theorem BtJ.then {b o n k d p V i c a L U : Nat} {w W W' : World} {x xl xu : Array Value} (h : BtJ b o n k d w p V i c a x L U xl xu W) (hg : W.grownBy W' none) : BtJ b o n k d w p V i c a x L U xl xu W' :=
 ⟨h.j.then hg, blkD hg h.pl, blkD hg h.pu, h.l1, h.u1, h.ne⟩
theorem ColJ.far {b o n k d p V i c a g : Nat} {w W : World} {x : Array Value} (h : ColJ b o n k d w p V i c a x W) (hV : V < g) (j : Nat) (u : Value) : ColJ b o n k d w p V i c a x (W.setCell ⟨g, j, none⟩ u) :=
 have hg := gq_cellR W g j u
 have h1 := h.p1
 have h2 := h.p2
 ⟨blkR h.st hg (by omega), blkR h.rs hg (by omega), blkR h.rp hg (by omega), blkR h.pp hg (by omega), (by obtain ⟨v0, v1, v2, hv⟩ := h.vv; exact ⟨v0, v1, v2, blkR hv hg (by omega)⟩), h1, h2, grown_thenX h.g hg (fun j e => by cases e; omega)⟩
theorem BtJ.setL {b o n k d p V i c a L U : Nat} {w W : World} {x xl xu : Array Value} (h : BtJ b o n k d w p V i c a x L U xl xu W) (j : Nat) (u : Value) : BtJ b o n k d w p V i c a x L U (xl.setIfInBounds j u) xu (W.setCell ⟨L, j, none⟩ u) :=
 ⟨h.j.far h.l1 j u, heap_setCell_same _ _ j _ _ u h.pl, blkR h.pu (gq_cellR W L j u) (Ne.symm h.ne), h.l1, h.u1, h.ne⟩
theorem BtJ.setU {b o n k d p V i c a L U : Nat} {w W : World} {x xl xu : Array Value} (h : BtJ b o n k d w p V i c a x L U xl xu W) (j : Nat) (u : Value) : BtJ b o n k d w p V i c a x L U xl (xu.setIfInBounds j u) (W.setCell ⟨U, j, none⟩ u) :=
 ⟨h.j.far h.u1 j u, blkR h.pl (gq_cellR W U j u) h.ne, heap_setCell_same _ _ j _ _ u h.pu, h.l1, h.u1, h.ne⟩
theorem BtJ.setS {b o n k d p V i c a L U : Nat} {w W : World} {x xl xu : Array Value} (h : BtJ b o n k d w p V i c a x L U xl xu W) (i' c' a' : Nat) : BtJ b o n k d w p V i' c' a' x L U xl xu (((((W.setCell ⟨w.heap.size, 0, none⟩ (.slice (some ⟨b, o, none⟩) n k)).setCell ⟨w.heap.size, 1, none⟩ (.int .i64 i')).setCell ⟨w.heap.size, 2, none⟩ (.int .i64 d)).setCell ⟨w.heap.size, 3, none⟩ (.int .i64 c')).setCell ⟨w.heap.size, 4, none⟩ (.int .i64 a')) :=
 have hg := grownD5 W w.heap.size (.slice (some ⟨b, o, none⟩) n k) (.int .i64 i') (.int .i64 d) (.int .i64 c') (.int .i64 a')
 have h1 := h.j.p1
 have h2 := h.j.p2
 have h3 := h.l1
 have h4 := h.u1
 ⟨h.j.setS i' c' a', blkR h.pl hg (by omega), blkR h.pu hg (by omega), h3, h4, h.ne⟩
def InL (b o n k d : Nat) (w : World) (p V : Nat) (T : List Tk) (col : ByteArray) (ps : Nat) (r0 : RS × List Vl) (μ : Nat) (wr : World) : Prop :=
 ∃ (j i c a : Nat) (t : RS) (arr : Option Addr) (cap : Nat) (l : List Vl), l.length = j ∧ j ≤ 12 ∧ 13 ≤ μ + j ∧ listF 12 RS.literal (13 - j) t l = r0 ∧ SR n T t i c a ∧ ColJ b o n k d w p V i c a #[.int .i64 5, .string col, .int .i64 0, .int .i64 0, .int .i64 0, .string ⟨#[]⟩, .string ⟨#[]⟩, .slice arr j cap, .slice none 0 0, .int .i64 ps] wr ∧ Win 3 wr arr cap j (l.flatMap vCT) ∧ (∀ q, bk arr q → V < q) ∧ ∀ x ∈ l, x.s.size ≤ 60
theorem rpassX (b o n k : Nat) (T : List Tk) (s : RS) (w : World) (h : TkE b o n k T w) (i d c a : Nat) (t : ByteArray) (hs : SR n T s i c a) (ht : keyT t) (hc : s.comes t = true) :
  Calls Try.prog 33 #[.agg #[.slice (some ⟨b, o, none⟩) n k, .int .i64 i, .int .i64 d, .int .i64 c, .int .i64 a]] w fun e w' => (∃ i' c' a' : Nat, e = .returned (.agg #[.slice (some ⟨b, o, none⟩) n k, .int .i64 i', .int .i64 d, .int .i64 c', .int .i64 a']) ∧ SR n T s.pass i' c' a') ∧ w.grownBy w' none :=
 (rpass_any b o n k T s w h i d c a t hs ht hc).mono fun _ _ ⟨⟨he, hS⟩, hg⟩ => ⟨⟨i + 1, 0, 0, he, hS⟩, hg⟩
set_option linter.unusedSimpArgs false in
set_option maxRecDepth 100000 in
set_option maxHeartbeats 6400000 in
theorem rcolumn_any (b o n k : Nat) (T : List Tk) (s : RS) (w : World) (h : TkE b o n k T w) (i d c a : Nat) (hs : SR n T s i c a) (pos : Nat) :
  Calls Try.prog 83 #[.agg #[.slice (some ⟨b, o, none⟩) n k, .int .i64 i, .int .i64 d, .int .i64 c, .int .i64 a]] w (PGo b o n k d T (nameP pos s) w) := by
 have HH := Lib.hid h
 have HNw := Lib.hid (fun W (hW : w.grownBy W none) => rnow_any b o n k T W (h.keep hW) i d c a hs.lt)
 have HNm := Lib.hid (fun W (hW : w.grownBy W none) => rname_any b o n k T s W (h.keep hW) i d c a hs)
 have A1 := Lib.hid (alc3a w (.cells #[.slice (some ⟨b, o, none⟩) n k, .int .i64 i, .int .i64 d, .int .i64 c, .int .i64 a] 81) (.cells #[.slice none 0 0, .int .i64 0, .int .i64 0, .int .i64 0, .int .i64 0] 81) (.cells z10 34))
 have R1 := Lib.hid (alc3b w (.cells #[.slice (some ⟨b, o, none⟩) n k, .int .i64 i, .int .i64 d, .int .i64 c, .int .i64 a] 81) (.cells #[.slice none 0 0, .int .i64 0, .int .i64 0, .int .i64 0, .int .i64 0] 81) (.cells z10 34))
 have Q1 := Lib.hid (alc3c w (.cells #[.slice (some ⟨b, o, none⟩) n k, .int .i64 i, .int .i64 d, .int .i64 c, .int .i64 a] 81) (.cells #[.slice none 0 0, .int .i64 0, .int .i64 0, .int .i64 0, .int .i64 0] 81) (.cells z10 34))
 have G1 := Lib.hid (gq_al (gq_al (gq_al (grown_reflT w none) (.cells #[.slice (some ⟨b, o, none⟩) n k, .int .i64 i, .int .i64 d, .int .i64 c, .int .i64 a] 81)) (.cells #[.slice none 0 0, .int .i64 0, .int .i64 0, .int .i64 0, .int .i64 0] 81)) (.cells z10 34))
 obtain ⟨r, hr⟩ : ∃ r, r = nameP pos s := ⟨_, rfl⟩
 rw [← hr]
 have HRN := Lib.hid (fun h1 h2 => hr.trans (nameP_relN h1 h2))
 have HRL := Lib.hid (fun h1 h2 => hr.trans (nameP_relL h1 h2))
 have HRI := Lib.hid (fun h1 => hr.trans (nameP_is h1))
 have HRA := Lib.hid (fun h1 h2 ask h3 u h4 => hr.trans (nameP_among h1 h2 ask h3 u h4))
 generalize s.name.1 = u at *
 generalize s.name.2 = col at *
 generalize (tkA T i) = tk at *
 obtain ⟨kd, tx, ps⟩ := tk
 simp only at HNw
 clear h hs hr
 go_enter Try.func83, Try.ntmps83
 go_wp2_with fail
 refine (HNw.out _ G1.out).mono ?_
 rintro e w2 ⟨rfl, hg⟩
 have t1 := fieldD2 (.int .i64 kd) (.string tx) (.int .i64 ps) w2
 have A2 := Lib.hid (blkD hg A1.out)
 have R2 := Lib.hid (blkD hg R1.out)
 have Q2 := Lib.hid (blkD hg Q1.out)
 have G2 := Lib.hid (G1.out.trans hg)
 clear hg A1 R1 Q1 G1 HNw
 go_upto_region 3 with fail
 have J3 := Lib.hid (ColJ.begin (x := #[.int .i64 0, .string ⟨#[]⟩, .int .i64 0, .int .i64 0, .int .i64 0, .string ⟨#[]⟩, .string ⟨#[]⟩, .slice none 0 0, .slice none 0 0, .int .i64 ps]) A2.out R2.out Q2.out G2.out)
 generalize hw3 : (w2.alloc (.cells #[.int .i64 0, .string ⟨#[]⟩, .int .i64 0, .int .i64 0, .int .i64 0, .string ⟨#[]⟩, .string ⟨#[]⟩, .slice none 0 0, .slice none 0 0, .int .i64 ps] 34)).alloc (.cells #[.int .i64 0, .int .i64 0, .string ⟨#[]⟩] 31) = w3 at *
 clear hw3 t1 A2 R2 Q2 G2
 obtain ⟨V, hV⟩ : ∃ V, V = w2.heap.size + 1 := ⟨_, rfl⟩
 rw [← hV] at J3
 simp only [← hV]
 generalize w2.heap.size = p at *
 clear hV
 obtain ⟨⟨c0, c1, c2, c3, c4⟩, f0, f1, f2, f3, f4⟩ := boxD5 J3.out.st
 go_wp2_with fail
 refine (HNm.out _ J3.out.g).mono ?_
 rintro e w4 ⟨⟨i1, x1, a1, rfl, hS1⟩, hg⟩
 have J4 := Lib.hid (J3.out.then hg)
 have D4 := Lib.hid hg
 clear hg
 clear c0 c1 c2 c3 c4 f0 f1 f2 f3 f4
 clear J3
 have S1 := Lib.hid hS1
 clear hS1 HNm
 obtain ⟨⟨c0, c1, c2, c3, c4⟩, f0, f1, f2, f3, f4⟩ := boxD5 J4.out.st
 have K4 := J4.out.setS i1 x1 a1
 obtain ⟨⟨p0, p1, p2, p3, p4⟩, p5, p6, p7, p8, p9⟩ := ten_of K4.pp
 obtain ⟨⟨g0, g1, g2, g3, g4⟩, g5, g6, g7, g8, g9⟩ := ten_f K4.pp
 go_upto_region 4 with fail
 obtain ⟨w5, hw5⟩ : ∃ w5, w5 = ((((((w4.setCell ⟨w.heap.size, 0, none⟩ (.slice (some ⟨b, o, none⟩) n k)).setCell ⟨w.heap.size, 1, none⟩ (.int .i64 i1)).setCell ⟨w.heap.size, 2, none⟩ (.int .i64 d)).setCell ⟨w.heap.size, 3, none⟩ (.int .i64 x1)).setCell ⟨w.heap.size, 4, none⟩ (.int .i64 a1)).setCell ⟨p, 1, none⟩ (.string col)) := ⟨_, rfl⟩
 have J5 : Hid (ColJ b o n k d w p V i1 x1 a1 #[.int .i64 0, .string col, .int .i64 0, .int .i64 0, .int .i64 0, .string ⟨#[]⟩, .string ⟨#[]⟩, .slice none 0 0, .slice none 0 0, .int .i64 ps] w5) := Lib.hid (by rw [hw5]; exact (K4.setP 1 (.string col)))
 rw [← hw5]
 clear c0 c1 c2 c3 c4 f0 f1 f2 f3 f4
 clear p0 p1 p2 p3 p4 p5 p6 p7 p8 p9 g0 g1 g2 g3 g4 g5 g6 g7 g8 g9
 clear hw5 J4 K4
 have HRel := Lib.hid (fun W (hW : w.grownBy W none) => rrel_any b o n k T u W (HH.out.keep hW) i1 d x1 a1 S1.out)
 have HPs := Lib.hid (fun (hq : relT u.hd.text ≠ 0) W (hW : w.grownBy W none) => rpassX b o n k T u W (HH.out.keep hW) i1 d x1 a1 u.hd.text S1.out (rel_key hq) (decide_eq_true rfl))
 have HE : Hid (relT u.hd.text ≠ 0 → u.pass.err = none) := Lib.hid (fun hq => S1.out.err0.2 (S1.out.good (RS.more_rel hq)).1)
 have HC1 : Hid (relT u.hd.text ≠ 0 → x1 = 0 ∧ a1 = 0) := Lib.hid (fun hq => S1.out.good (RS.more_rel hq))
 generalize relT u.hd.text = q at *
 obtain ⟨⟨c0, c1, c2, c3, c4⟩, f0, f1, f2, f3, f4⟩ := boxD5 J5.out.st
 go_wp2_with fail
 refine (HRel.out _ J5.out.g).mono ?_
 rintro e w6 ⟨rfl, hg⟩
 have J6 := Lib.hid (J5.out.then hg)
 have D6 := Lib.hid hg
 clear hg
 clear c0 c1 c2 c3 c4 f0 f1 f2 f3 f4
 clear J5
 clear HRel
 by_cases hq0 : q ≠ 0
 ·skip
  have k0 : ((q : Int) != 0) = true := ne_nat hq0
  have HP := Lib.hid (HPs.out hq0)
  clear HC1 HPs
  obtain ⟨⟨c0, c1, c2, c3, c4⟩, f0, f1, f2, f3, f4⟩ := boxD5 J6.out.st
  obtain ⟨⟨p0, p1, p2, p3, p4⟩, p5, p6, p7, p8, p9⟩ := ten_of J6.out.pp
  obtain ⟨⟨g0, g1, g2, g3, g4⟩, g5, g6, g7, g8, g9⟩ := ten_f J6.out.pp
  go_upto_region 7 with fail
  obtain ⟨w7, hw7⟩ : ∃ w7, w7 = (w6.setCell ⟨p, 2, none⟩ (.int .i64 q)) := ⟨_, rfl⟩
  have J7 : Hid (ColJ b o n k d w p V i1 x1 a1 #[.int .i64 0, .string col, .int .i64 q, .int .i64 0, .int .i64 0, .string ⟨#[]⟩, .string ⟨#[]⟩, .slice none 0 0, .slice none 0 0, .int .i64 ps] w7) := Lib.hid (by rw [hw7]; exact (J6.out.setP 2 (.int .i64 q)))
  rw [← hw7]
  clear c0 c1 c2 c3 c4 f0 f1 f2 f3 f4
  clear p0 p1 p2 p3 p4 p5 p6 p7 p8 p9 g0 g1 g2 g3 g4 g5 g6 g7 g8 g9
  clear hw7 J6
  clear k0
  obtain ⟨⟨c0, c1, c2, c3, c4⟩, f0, f1, f2, f3, f4⟩ := boxD5 J7.out.st
  go_wp2_with fail
  refine (HP.out _ J7.out.g).mono ?_
  rintro e w8 ⟨⟨i2, x2, a2, rfl, hS2⟩, hg⟩
  have J8 := Lib.hid (J7.out.then hg)
  have D8 := Lib.hid hg
  clear hg
  clear c0 c1 c2 c3 c4 f0 f1 f2 f3 f4
  clear J7
  have S2 := Lib.hid hS2
  clear hS2 HP
  obtain ⟨⟨c0, c1, c2, c3, c4⟩, f0, f1, f2, f3, f4⟩ := boxD5 J8.out.st
  have K8 := J8.out.setS i2 x2 a2
  go_upto_region 8 with fail
  obtain ⟨w9, hw9⟩ : ∃ w9, w9 = (((((w8.setCell ⟨w.heap.size, 0, none⟩ (.slice (some ⟨b, o, none⟩) n k)).setCell ⟨w.heap.size, 1, none⟩ (.int .i64 i2)).setCell ⟨w.heap.size, 2, none⟩ (.int .i64 d)).setCell ⟨w.heap.size, 3, none⟩ (.int .i64 x2)).setCell ⟨w.heap.size, 4, none⟩ (.int .i64 a2)) := ⟨_, rfl⟩
  have J9 : Hid (ColJ b o n k d w p V i2 x2 a2 #[.int .i64 0, .string col, .int .i64 q, .int .i64 0, .int .i64 0, .string ⟨#[]⟩, .string ⟨#[]⟩, .slice none 0 0, .slice none 0 0, .int .i64 ps] w9) := Lib.hid (by rw [hw9]; exact K8)
  rw [← hw9]
  clear c0 c1 c2 c3 c4 f0 f1 f2 f3 f4
  clear hw9 J8 K8
  have e2 : x2 = 0 := S2.out.err0.1 (HE.out hq0)
  have HN2 := Lib.hid (fun W (hW : w.grownBy W none) => rnow_any b o n k T W (HH.out.keep hW) i2 d x2 a2 S2.out.lt)
  have hk2 : u.pass.named = decide ((tkA T i2).kind = 1) := by
   have hS := S2.out
   subst e2
   unfold RS.named
   rw [hS.hd]
  generalize (tkA T i2) = tk2 at *
  obtain ⟨kd2, tx2, ps2⟩ := tk2
  simp only at HN2 hk2
  clear e2
  obtain ⟨⟨c0, c1, c2, c3, c4⟩, f0, f1, f2, f3, f4⟩ := boxD5 J9.out.st
  go_wp2_with fail
  refine (HN2.out _ J9.out.g).mono ?_
  rintro e w10 ⟨rfl, hg⟩
  have J10 := Lib.hid (J9.out.then hg)
  have D10 := Lib.hid hg
  clear hg
  clear c0 c1 c2 c3 c4 f0 f1 f2 f3 f4
  clear J9
  have t2 := fieldD0 (.int .i64 kd2) (.string tx2) (.int .i64 ps2) w10
  cases hn2 : u.pass.named with
  | true =>
   rw [hn2] at hk2
   have k1 : ((kd2 : Int) == 1) = true := by rw [of_decide_eq_true hk2.symm]; rfl
   have HRx := Lib.hid (HRN.out hq0 hn2)
   have HNm2 := Lib.hid (fun W (hW : w.grownBy W none) => rname_any b o n k T u.pass W (HH.out.keep hW) i2 d x2 a2 S2.out)
   generalize u.pass.name.1 = u2 at *
   generalize u.pass.name.2 = col2 at *
   clear hn2 HRN HRL
   obtain ⟨⟨c0, c1, c2, c3, c4⟩, f0, f1, f2, f3, f4⟩ := boxD5 J10.out.st
   obtain ⟨⟨p0, p1, p2, p3, p4⟩, p5, p6, p7, p8, p9⟩ := ten_of J10.out.pp
   obtain ⟨⟨g0, g1, g2, g3, g4⟩, g5, g6, g7, g8, g9⟩ := ten_f J10.out.pp
   clear hk2
   clear c0 c1 c2 c3 c4 f0 f1 f2 f3 f4
   clear p0 p1 p2 p3 p4 p5 p6 p7 p8 p9 g0 g1 g2 g3 g4 g5 g6 g7 g8 g9
   obtain ⟨⟨c0, c1, c2, c3, c4⟩, f0, f1, f2, f3, f4⟩ := boxD5 J10.out.st
   obtain ⟨⟨p0, p1, p2, p3, p4⟩, p5, p6, p7, p8, p9⟩ := ten_of J10.out.pp
   obtain ⟨⟨g0, g1, g2, g3, g4⟩, g5, g6, g7, g8, g9⟩ := ten_f J10.out.pp
   go_upto_region 10 with fail
   obtain ⟨w11, hw11⟩ : ∃ w11, w11 = (w10.setCell ⟨p, 0, none⟩ (.int .i64 4)) := ⟨_, rfl⟩
   have J11 : Hid (ColJ b o n k d w p V i2 x2 a2 #[.int .i64 4, .string col, .int .i64 q, .int .i64 0, .int .i64 0, .string ⟨#[]⟩, .string ⟨#[]⟩, .slice none 0 0, .slice none 0 0, .int .i64 ps] w11) := Lib.hid (by rw [hw11]; exact (J10.out.setP 0 (.int .i64 4)))
   rw [← hw11]
   clear c0 c1 c2 c3 c4 f0 f1 f2 f3 f4
   clear p0 p1 p2 p3 p4 p5 p6 p7 p8 p9 g0 g1 g2 g3 g4 g5 g6 g7 g8 g9
   clear hw11 J10
   clear k1 t2
   obtain ⟨⟨c0, c1, c2, c3, c4⟩, f0, f1, f2, f3, f4⟩ := boxD5 J11.out.st
   go_wp2_with fail
   refine (HNm2.out _ J11.out.g).mono ?_
   rintro e w12 ⟨⟨i3, x3, a3, rfl, hS3⟩, hg⟩
   have J12 := Lib.hid (J11.out.then hg)
   have D12 := Lib.hid hg
   clear hg
   clear c0 c1 c2 c3 c4 f0 f1 f2 f3 f4
   clear J11
   have S3 := Lib.hid hS3
   clear hS3
   obtain ⟨⟨c0, c1, c2, c3, c4⟩, f0, f1, f2, f3, f4⟩ := boxD5 J12.out.st
   have K12 := J12.out.setS i3 x3 a3
   obtain ⟨⟨p0, p1, p2, p3, p4⟩, p5, p6, p7, p8, p9⟩ := ten_of K12.pp
   obtain ⟨⟨g0, g1, g2, g3, g4⟩, g5, g6, g7, g8, g9⟩ := ten_f K12.pp
   go_upto_region 11 with fail
   obtain ⟨w13, hw13⟩ : ∃ w13, w13 = ((((((w12.setCell ⟨w.heap.size, 0, none⟩ (.slice (some ⟨b, o, none⟩) n k)).setCell ⟨w.heap.size, 1, none⟩ (.int .i64 i3)).setCell ⟨w.heap.size, 2, none⟩ (.int .i64 d)).setCell ⟨w.heap.size, 3, none⟩ (.int .i64 x3)).setCell ⟨w.heap.size, 4, none⟩ (.int .i64 a3)).setCell ⟨p, 6, none⟩ (.string col2)) := ⟨_, rfl⟩
   have J13 : Hid (ColJ b o n k d w p V i3 x3 a3 #[.int .i64 4, .string col, .int .i64 q, .int .i64 0, .int .i64 0, .string ⟨#[]⟩, .string col2, .slice none 0 0, .slice none 0 0, .int .i64 ps] w13) := Lib.hid (by rw [hw13]; exact (K12.setP 6 (.string col2)))
   rw [← hw13]
   clear c0 c1 c2 c3 c4 f0 f1 f2 f3 f4
   clear p0 p1 p2 p3 p4 p5 p6 p7 p8 p9 g0 g1 g2 g3 g4 g5 g6 g7 g8 g9
   clear hw13 J12 K12
   have hp1 := J13.out.p1
   obtain ⟨y, hy⟩ : ∃ y : Pm, y = .mk 4 col q ⟨0, 0, ⟨#[]⟩⟩ col2 none 0 [] none 0 [] ps := ⟨_, rfl⟩
   have HY := Lib.hid hy
   have Jy : Hid (ColJ b o n k d w p V i3 x3 a3 y.c.toArray w13) := Lib.hid (by rw [hy]; exact J13.out)
   clear J13 hy
   refine wp_region_held_drew (S := (fun W => Hid (GY w13 W w.heap.size))) (by kernel_rfl) (Lib.hid (GY.of (grown_drewT (grown_reflX _ _)) _)) (fun hHeld => ?_)
   refine TKA (i := 0) (v := .agg #[.slice (some ⟨b, o, none⟩) n k, .int .i64 i3, .int .i64 d, .int .i64 x3, .int .i64 a3]) rfl (yieldsIf_load_mid (by rfl) _ _ rfl w.heap.size 0 rfl _ _ (fun W hS => range_rowD (blkY Jy.out.st hS.out (by omega) (by omega))) Try.underlying81 rfl st_size) ?_
   simp only [Act.put, List.getElem_toArray, List.getElem_cons_zero, List.size_toArray, List.length_cons, List.length_nil, Nat.reduceAdd, Array.replicate, List.replicate, List.setIfInBounds_toArray, List.set_cons_zero, List.set_cons_succ]
   refine TKA (i := 1) (v := .agg y.c.toArray) rfl (yieldsIf_load_mid (by rfl) _ _ rfl p 0 rfl y.c _ (fun W hS => range_rowD (blkY Jy.out.pp hS.out (by omega) (by omega))) Try.underlying34 rfl (show (Try.prog.info? 34).map (·.size) = some y.c.length by rw [Pm.c_len]; exact pred_size)) ?_
   simp only [Act.put, List.getElem_toArray, List.getElem_cons_succ, List.getElem_cons_zero, List.setIfInBounds_toArray, List.set_cons_zero, List.set_cons_succ]
   refine RD1 (i := 2) rfl (fun K' hK => ?_)
   obtain ⟨w14, hw14⟩ : ∃ w14, w14 = w13.drew := ⟨_, rfl⟩
   have gd : w13.grownBy w14 none := by rw [hw14]; exact grown_drewT (grown_reflX _ _)
   have Z14 : Hid (GY w13 w14 w.heap.size) := Lib.hid (GY.of gd _)
   have J14 := Lib.hid (Jy.out.then gd)
   rw [← hw14]
   clear hw14 gd
   refine wp_store_row 81 (.tmp 2) (.tmp 40) rfl (w.heap.size + 1) #[.slice (some ⟨b, o, none⟩) n k, .int .i64 i3, .int .i64 d, .int .i64 x3, .int .i64 a3] (by rfl) (by rfl) 81 #[.slice none 0 0, .int .i64 0, .int .i64 0, .int .i64 0, .int .i64 0] J14.out.rs st_size rfl (by simp [Value.oneCell']) ?_
   have ZR : Hid (GY w13 _ w.heap.size) := Lib.hid (Z14.out.one (grown_setRow w14 (w.heap.size + 1) #[.slice (some ⟨b, o, none⟩) n k, .int .i64 i3, .int .i64 d, .int .i64 x3, .int .i64 a3]) (.inl rfl))
   refine hK.out _ _ ZR (fun hHeld => ?_)
   clear hK K'
   simp only [Act.put, List.getElem_toArray, List.getElem_cons_succ, List.getElem_cons_zero, List.setIfInBounds_toArray, List.set_cons_zero, List.set_cons_succ]
   refine RD1 (i := 3) rfl (fun K' hK => ?_)
   refine wp_store_row 34 (.tmp 3) (.tmp 41) rfl (w.heap.size + 1 + 1) y.c.toArray (by rfl) (by rfl) 34 z10 ((setRow_other _ _ _ _ (by omega)).trans J14.out.rp) (by rw [Pm.c_size]; exact pred_size) (by rw [Pm.c_size]; rfl) (Pm.c_all _) ?_
   have ZI : Hid (GY w13 _ w.heap.size) := Lib.hid (ZR.out.one (grown_setRow _ (w.heap.size + 1 + 1) y.c.toArray) (.inr rfl))
   have hF := J14.out.fin i3 x3 a3 y
   refine hK.out _ _ ZI (fun hHeld => ?_)
   clear hK K'
   simp only [Act.put, List.getElem_toArray, List.getElem_cons_succ, List.getElem_cons_zero, List.setIfInBounds_toArray, List.set_cons_zero, List.set_cons_succ]
   refine wpAnyH_done (by kernel_rfl) ?_ _
   go_wp2_with fail
   refine bodyPost_ret (res_cp rfl _ _ (w.heap.size + 1) (w.heap.size + 1 + 1) _ _ rfl rfl hF.1 hF.2.1 rfl (Pm.c_size _)) rfl ⟨i3, x3, a3, y, rfl, ?_, ?_, ?_, hF.2.2⟩
   ·rw [HRx.out]; exact S3.out
   ·intro _; rw [HRx.out, HY.out]; rfl
   ·rw [HY.out]; exact PmS.leaf ..
  | false =>
   rw [hn2] at hk2
   have k1 : ((kd2 : Int) == 1) = false := by rw [beq_eq_false_iff_ne]; have := of_decide_eq_false hk2.symm; omega
   have HRx := Lib.hid (HRL.out hq0 hn2)
   have HLt := Lib.hid (fun W (hW : w.grownBy W none) => rlit_any b o n k T u.pass W (HH.out.keep hW) i2 d x2 a2 S2.out)
   generalize u.pass.literal.1 = u2 at *
   generalize u.pass.literal.2 = v2 at *
   obtain ⟨vk, vn, vs⟩ := v2
   simp only at HLt
   clear hn2 HRN HRL hk2
   go_upto_region 12 with fail
   obtain ⟨⟨c0, c1, c2, c3, c4⟩, f0, f1, f2, f3, f4⟩ := boxD5 J10.out.st
   obtain ⟨⟨p0, p1, p2, p3, p4⟩, p5, p6, p7, p8, p9⟩ := ten_of J10.out.pp
   obtain ⟨⟨g0, g1, g2, g3, g4⟩, g5, g6, g7, g8, g9⟩ := ten_f J10.out.pp
   go_upto_region 13 with fail
   obtain ⟨w11, hw11⟩ : ∃ w11, w11 = (w10.setCell ⟨p, 0, none⟩ (.int .i64 3)) := ⟨_, rfl⟩
   have J11 : Hid (ColJ b o n k d w p V i2 x2 a2 #[.int .i64 3, .string col, .int .i64 q, .int .i64 0, .int .i64 0, .string ⟨#[]⟩, .string ⟨#[]⟩, .slice none 0 0, .slice none 0 0, .int .i64 ps] w11) := Lib.hid (by rw [hw11]; exact (J10.out.setP 0 (.int .i64 3)))
   rw [← hw11]
   clear c0 c1 c2 c3 c4 f0 f1 f2 f3 f4
   clear p0 p1 p2 p3 p4 p5 p6 p7 p8 p9 g0 g1 g2 g3 g4 g5 g6 g7 g8 g9
   clear hw11 J10
   clear k1 t2
   obtain ⟨⟨c0, c1, c2, c3, c4⟩, f0, f1, f2, f3, f4⟩ := boxD5 J11.out.st
   go_wp2_with fail
   refine (HLt.out _ J11.out.g).mono ?_
   rintro e w12 ⟨⟨i3, x3, a3, rfl, hS3⟩, hg⟩
   have J12 := Lib.hid (J11.out.then hg)
   have D12 := Lib.hid hg
   clear hg
   clear c0 c1 c2 c3 c4 f0 f1 f2 f3 f4
   clear J11
   have S3 := Lib.hid hS3
   clear hS3
   obtain ⟨⟨c0, c1, c2, c3, c4⟩, f0, f1, f2, f3, f4⟩ := boxD5 J12.out.st
   have K12 := J12.out.setS i3 x3 a3
   obtain ⟨⟨p0, p1, p2, p3, p4⟩, p5, p6, p7, p8, p9⟩ := ten_of K12.pp
   obtain ⟨⟨g0, g1, g2, g3, g4⟩, g5, g6, g7, g8, g9⟩ := ten_f K12.pp
   go_upto_region 14 with fail
   obtain ⟨w13, hw13⟩ : ∃ w13, w13 = ((((((((w12.setCell ⟨w.heap.size, 0, none⟩ (.slice (some ⟨b, o, none⟩) n k)).setCell ⟨w.heap.size, 1, none⟩ (.int .i64 i3)).setCell ⟨w.heap.size, 2, none⟩ (.int .i64 d)).setCell ⟨w.heap.size, 3, none⟩ (.int .i64 x3)).setCell ⟨w.heap.size, 4, none⟩ (.int .i64 a3)).setCell ⟨p, 3, none⟩ (.int .i64 vk)).setCell ⟨p, 4, none⟩ (.int .i64 vn)).setCell ⟨p, 5, none⟩ (.string vs)) := ⟨_, rfl⟩
   have J13 : Hid (ColJ b o n k d w p V i3 x3 a3 #[.int .i64 3, .string col, .int .i64 q, .int .i64 vk, .int .i64 vn, .string vs, .string ⟨#[]⟩, .slice none 0 0, .slice none 0 0, .int .i64 ps] w13) := Lib.hid (by rw [hw13]; exact (((K12.setP 3 (.int .i64 vk)).setP 4 (.int .i64 vn)).setP 5 (.string vs)))
   rw [← hw13]
   clear c0 c1 c2 c3 c4 f0 f1 f2 f3 f4
   clear p0 p1 p2 p3 p4 p5 p6 p7 p8 p9 g0 g1 g2 g3 g4 g5 g6 g7 g8 g9
   clear hw13 J12 K12
   have hp1 := J13.out.p1
   obtain ⟨y, hy⟩ : ∃ y : Pm, y = .mk 3 col q ⟨vk, vn, vs⟩ ⟨#[]⟩ none 0 [] none 0 [] ps := ⟨_, rfl⟩
   have HY := Lib.hid hy
   have Jy : Hid (ColJ b o n k d w p V i3 x3 a3 y.c.toArray w13) := Lib.hid (by rw [hy]; exact J13.out)
   clear J13 hy
   refine wp_region_held_drew (S := (fun W => Hid (GY w13 W w.heap.size))) (by kernel_rfl) (Lib.hid (GY.of (grown_drewT (grown_reflX _ _)) _)) (fun hHeld => ?_)
   refine TKA (i := 0) (v := .agg #[.slice (some ⟨b, o, none⟩) n k, .int .i64 i3, .int .i64 d, .int .i64 x3, .int .i64 a3]) rfl (yieldsIf_load_mid (by rfl) _ _ rfl w.heap.size 0 rfl _ _ (fun W hS => range_rowD (blkY Jy.out.st hS.out (by omega) (by omega))) Try.underlying81 rfl st_size) ?_
   simp only [Act.put, List.getElem_toArray, List.getElem_cons_zero, List.size_toArray, List.length_cons, List.length_nil, Nat.reduceAdd, Array.replicate, List.replicate, List.setIfInBounds_toArray, List.set_cons_zero, List.set_cons_succ]
   refine TKA (i := 1) (v := .agg y.c.toArray) rfl (yieldsIf_load_mid (by rfl) _ _ rfl p 0 rfl y.c _ (fun W hS => range_rowD (blkY Jy.out.pp hS.out (by omega) (by omega))) Try.underlying34 rfl (show (Try.prog.info? 34).map (·.size) = some y.c.length by rw [Pm.c_len]; exact pred_size)) ?_
   simp only [Act.put, List.getElem_toArray, List.getElem_cons_succ, List.getElem_cons_zero, List.setIfInBounds_toArray, List.set_cons_zero, List.set_cons_succ]
   refine RD1 (i := 2) rfl (fun K' hK => ?_)
   obtain ⟨w14, hw14⟩ : ∃ w14, w14 = w13.drew := ⟨_, rfl⟩
   have gd : w13.grownBy w14 none := by rw [hw14]; exact grown_drewT (grown_reflX _ _)
   have Z14 : Hid (GY w13 w14 w.heap.size) := Lib.hid (GY.of gd _)
   have J14 := Lib.hid (Jy.out.then gd)
   rw [← hw14]
   clear hw14 gd
   refine wp_store_row 81 (.tmp 2) (.tmp 49) rfl (w.heap.size + 1) #[.slice (some ⟨b, o, none⟩) n k, .int .i64 i3, .int .i64 d, .int .i64 x3, .int .i64 a3] (by rfl) (by rfl) 81 #[.slice none 0 0, .int .i64 0, .int .i64 0, .int .i64 0, .int .i64 0] J14.out.rs st_size rfl (by simp [Value.oneCell']) ?_
   have ZR : Hid (GY w13 _ w.heap.size) := Lib.hid (Z14.out.one (grown_setRow w14 (w.heap.size + 1) #[.slice (some ⟨b, o, none⟩) n k, .int .i64 i3, .int .i64 d, .int .i64 x3, .int .i64 a3]) (.inl rfl))
   refine hK.out _ _ ZR (fun hHeld => ?_)
   clear hK K'
   simp only [Act.put, List.getElem_toArray, List.getElem_cons_succ, List.getElem_cons_zero, List.setIfInBounds_toArray, List.set_cons_zero, List.set_cons_succ]
   refine RD1 (i := 3) rfl (fun K' hK => ?_)
   refine wp_store_row 34 (.tmp 3) (.tmp 50) rfl (w.heap.size + 1 + 1) y.c.toArray (by rfl) (by rfl) 34 z10 ((setRow_other _ _ _ _ (by omega)).trans J14.out.rp) (by rw [Pm.c_size]; exact pred_size) (by rw [Pm.c_size]; rfl) (Pm.c_all _) ?_
   have ZI : Hid (GY w13 _ w.heap.size) := Lib.hid (ZR.out.one (grown_setRow _ (w.heap.size + 1 + 1) y.c.toArray) (.inr rfl))
   have hF := J14.out.fin i3 x3 a3 y
   refine hK.out _ _ ZI (fun hHeld => ?_)
   clear hK K'
   simp only [Act.put, List.getElem_toArray, List.getElem_cons_succ, List.getElem_cons_zero, List.setIfInBounds_toArray, List.set_cons_zero, List.set_cons_succ]
   refine wpAnyH_done (by kernel_rfl) ?_ _
   go_wp2_with fail
   refine bodyPost_ret (res_cp rfl _ _ (w.heap.size + 1) (w.heap.size + 1 + 1) _ _ rfl rfl hF.1 hF.2.1 rfl (Pm.c_size _)) rfl ⟨i3, x3, a3, y, rfl, ?_, ?_, ?_, hF.2.2⟩
   ·rw [HRx.out]; exact S3.out
   ·intro _; rw [HRx.out, HY.out]; rfl
   ·rw [HY.out]; exact PmS.leaf ..
 ·skip
  have hq1 : q = 0 := by omega
  have k0 : ((q : Int) != 0) = false := by rw [hq1]; rfl
  have HIs := Lib.hid (fun W (hW : w.grownBy W none) => ris_any b o n k T u W (HH.out.keep hW) i1 d x1 a1 bIs S1.out key_is)
  have HNt := Lib.hid (fun W (hW : w.grownBy W none) => ris_any b o n k T u W (HH.out.keep hW) i1 d x1 a1 bNot S1.out key_not)
  have HAm := Lib.hid (HRA.out hq1)
  clear HRN HRL HE HC1 HPs HRA hq0 hq1
  obtain ⟨yi, hyi⟩ : ∃ yi, yi = u.comes bIs := ⟨_, rfl⟩
  rw [← hyi] at HIs
  have HYI := Lib.hid hyi
  clear hyi
  obtain ⟨⟨c0, c1, c2, c3, c4⟩, f0, f1, f2, f3, f4⟩ := boxD5 J6.out.st
  go_wp2_with fail
  refine (HIs.out _ J6.out.g).mono ?_
  rintro e w7 ⟨rfl, hg⟩
  have J7 := Lib.hid (J6.out.then hg)
  have D7 := Lib.hid hg
  clear hg
  clear c0 c1 c2 c3 c4 f0 f1 f2 f3 f4
  clear J6
  clear k0 HIs
  cases yi with
  | true =>
   have HRx := Lib.hid (HRI.out HYI.out.symm)
   have HP := Lib.hid (fun W (hW : w.grownBy W none) => rpassX b o n k T u W (HH.out.keep hW) i1 d x1 a1 bIs S1.out key_is HYI.out.symm)
   clear HRI HAm HNt HYI
   obtain ⟨⟨c0, c1, c2, c3, c4⟩, f0, f1, f2, f3, f4⟩ := boxD5 J7.out.st
   go_wp2_with fail
   refine (HP.out _ J7.out.g).mono ?_
   rintro e w8 ⟨⟨i2, x2, a2, rfl, hS2⟩, hg⟩
   have J8 := Lib.hid (J7.out.then hg)
   have D8 := Lib.hid hg
   clear hg
   clear c0 c1 c2 c3 c4 f0 f1 f2 f3 f4
   clear J7
   have S2 := Lib.hid hS2
   clear hS2 HP
   obtain ⟨⟨c0, c1, c2, c3, c4⟩, f0, f1, f2, f3, f4⟩ := boxD5 J8.out.st
   have K8 := J8.out.setS i2 x2 a2
   go_upto_region 17 with fail
   obtain ⟨w9, hw9⟩ : ∃ w9, w9 = (((((w8.setCell ⟨w.heap.size, 0, none⟩ (.slice (some ⟨b, o, none⟩) n k)).setCell ⟨w.heap.size, 1, none⟩ (.int .i64 i2)).setCell ⟨w.heap.size, 2, none⟩ (.int .i64 d)).setCell ⟨w.heap.size, 3, none⟩ (.int .i64 x2)).setCell ⟨w.heap.size, 4, none⟩ (.int .i64 a2)) := ⟨_, rfl⟩
   have J9 : Hid (ColJ b o n k d w p V i2 x2 a2 #[.int .i64 0, .string col, .int .i64 0, .int .i64 0, .int .i64 0, .string ⟨#[]⟩, .string ⟨#[]⟩, .slice none 0 0, .slice none 0 0, .int .i64 ps] w9) := Lib.hid (by rw [hw9]; exact K8)
   rw [← hw9]
   clear c0 c1 c2 c3 c4 f0 f1 f2 f3 f4
   clear hw9 J8 K8
   obtain ⟨⟨c0, c1, c2, c3, c4⟩, f0, f1, f2, f3, f4⟩ := boxD5 J9.out.st
   obtain ⟨⟨p0, p1, p2, p3, p4⟩, p5, p6, p7, p8, p9⟩ := ten_of J9.out.pp
   obtain ⟨⟨g0, g1, g2, g3, g4⟩, g5, g6, g7, g8, g9⟩ := ten_f J9.out.pp
   go_upto_region 18 with fail
   obtain ⟨w10, hw10⟩ : ∃ w10, w10 = (w9.setCell ⟨p, 0, none⟩ (.int .i64 6)) := ⟨_, rfl⟩
   have J10 : Hid (ColJ b o n k d w p V i2 x2 a2 #[.int .i64 6, .string col, .int .i64 0, .int .i64 0, .int .i64 0, .string ⟨#[]⟩, .string ⟨#[]⟩, .slice none 0 0, .slice none 0 0, .int .i64 ps] w10) := Lib.hid (by rw [hw10]; exact (J9.out.setP 0 (.int .i64 6)))
   rw [← hw10]
   clear c0 c1 c2 c3 c4 f0 f1 f2 f3 f4
   clear p0 p1 p2 p3 p4 p5 p6 p7 p8 p9 g0 g1 g2 g3 g4 g5 g6 g7 g8 g9
   clear hw10 J9
   have HN2 := Lib.hid (fun W (hW : w.grownBy W none) => ris_any b o n k T u.pass W (HH.out.keep hW) i2 d x2 a2 bNot S2.out key_not)
   obtain ⟨yn, hyn⟩ : ∃ yn, yn = u.pass.comes bNot := ⟨_, rfl⟩
   rw [← hyn] at HN2
   have HYN := Lib.hid hyn
   clear hyn
   obtain ⟨⟨c0, c1, c2, c3, c4⟩, f0, f1, f2, f3, f4⟩ := boxD5 J10.out.st
   go_wp2_with fail
   refine (HN2.out _ J10.out.g).mono ?_
   rintro e w11 ⟨rfl, hg⟩
   have J11 := Lib.hid (J10.out.then hg)
   have D11 := Lib.hid hg
   clear hg
   clear c0 c1 c2 c3 c4 f0 f1 f2 f3 f4
   clear J10
   clear HN2
   cases yn with
   | true =>
    have HRy : Hid (r = (u.pass.pass.need bNull, .mk 7 col 0 ⟨0, 0, ⟨#[]⟩⟩ ⟨#[]⟩ [] [] pos)) := Lib.hid (by rw [HRx.out]; simp only [← HYN.out]; rfl)
    have HP2 := Lib.hid (fun W (hW : w.grownBy W none) => rpassX b o n k T u.pass W (HH.out.keep hW) i2 d x2 a2 bNot S2.out key_not HYN.out.symm)
    clear HRx HYN
    obtain ⟨⟨c0, c1, c2, c3, c4⟩, f0, f1, f2, f3, f4⟩ := boxD5 J11.out.st
    obtain ⟨⟨p0, p1, p2, p3, p4⟩, p5, p6, p7, p8, p9⟩ := ten_of J11.out.pp
    obtain ⟨⟨g0, g1, g2, g3, g4⟩, g5, g6, g7, g8, g9⟩ := ten_f J11.out.pp
    go_upto_region 20 with fail
    obtain ⟨w12, hw12⟩ : ∃ w12, w12 = (w11.setCell ⟨p, 0, none⟩ (.int .i64 7)) := ⟨_, rfl⟩
    have J12 : Hid (ColJ b o n k d w p V i2 x2 a2 #[.int .i64 7, .string col, .int .i64 0, .int .i64 0, .int .i64 0, .string ⟨#[]⟩, .string ⟨#[]⟩, .slice none 0 0, .slice none 0 0, .int .i64 ps] w12) := Lib.hid (by rw [hw12]; exact (J11.out.setP 0 (.int .i64 7)))
    rw [← hw12]
    clear c0 c1 c2 c3 c4 f0 f1 f2 f3 f4
    clear p0 p1 p2 p3 p4 p5 p6 p7 p8 p9 g0 g1 g2 g3 g4 g5 g6 g7 g8 g9
    clear hw12 J11
    obtain ⟨⟨c0, c1, c2, c3, c4⟩, f0, f1, f2, f3, f4⟩ := boxD5 J12.out.st
    go_wp2_with fail
    refine (HP2.out _ J12.out.g).mono ?_
    rintro e w13 ⟨⟨i3, x3, a3, rfl, hS3⟩, hg⟩
    have J13 := Lib.hid (J12.out.then hg)
    have D13 := Lib.hid hg
    clear hg
    clear c0 c1 c2 c3 c4 f0 f1 f2 f3 f4
    clear J12
    have S3 := Lib.hid hS3
    clear hS3 HP2
    obtain ⟨⟨c0, c1, c2, c3, c4⟩, f0, f1, f2, f3, f4⟩ := boxD5 J13.out.st
    have K13 := J13.out.setS i3 x3 a3
    go_upto_region 21 with fail
    obtain ⟨w14, hw14⟩ : ∃ w14, w14 = (((((w13.setCell ⟨w.heap.size, 0, none⟩ (.slice (some ⟨b, o, none⟩) n k)).setCell ⟨w.heap.size, 1, none⟩ (.int .i64 i3)).setCell ⟨w.heap.size, 2, none⟩ (.int .i64 d)).setCell ⟨w.heap.size, 3, none⟩ (.int .i64 x3)).setCell ⟨w.heap.size, 4, none⟩ (.int .i64 a3)) := ⟨_, rfl⟩
    have J14 : Hid (ColJ b o n k d w p V i3 x3 a3 #[.int .i64 7, .string col, .int .i64 0, .int .i64 0, .int .i64 0, .string ⟨#[]⟩, .string ⟨#[]⟩, .slice none 0 0, .slice none 0 0, .int .i64 ps] w14) := Lib.hid (by rw [hw14]; exact K13)
    rw [← hw14]
    clear c0 c1 c2 c3 c4 f0 f1 f2 f3 f4
    clear hw14 J13 K13
    have HW := Lib.hid (fun W (hW : w.grownBy W none) => rwant_any b o n k T u.pass.pass W (HH.out.keep hW) i3 d x3 a3 bNull S3.out key_null)
    have hp1 := J14.out.p1
    obtain ⟨y, hy⟩ : ∃ y : Pm, y = .mk 7 col 0 ⟨0, 0, ⟨#[]⟩⟩ ⟨#[]⟩ none 0 [] none 0 [] ps := ⟨_, rfl⟩
    have HY := Lib.hid hy
    have Jy : Hid (ColJ b o n k d w p V i3 x3 a3 y.c.toArray w14) := Lib.hid (by rw [hy]; exact J14.out)
    clear J14 hy
    refine wp_region_held_drew (S := (fun W => Hid (GY w14 W w.heap.size))) (by kernel_rfl) (Lib.hid (GY.of (grown_drewT (grown_reflX _ _)) _)) (fun hHeld => ?_)
    refine TKA (i := 0) (v := .agg #[.slice (some ⟨b, o, none⟩) n k, .int .i64 i3, .int .i64 d, .int .i64 x3, .int .i64 a3]) rfl (yieldsIf_load_mid (by rfl) _ _ rfl w.heap.size 0 rfl _ _ (fun W hS => range_rowD (blkY Jy.out.st hS.out (by omega) (by omega))) Try.underlying81 rfl st_size) ?_
    simp only [Act.put, List.getElem_toArray, List.getElem_cons_zero, List.size_toArray, List.length_cons, List.length_nil, Nat.reduceAdd, Array.replicate, List.replicate, List.setIfInBounds_toArray, List.set_cons_zero, List.set_cons_succ]
    refine TKA (i := 2) (v := .agg y.c.toArray) rfl (yieldsIf_load_mid (by rfl) _ _ rfl p 0 rfl y.c _ (fun W hS => range_rowD (blkY Jy.out.pp hS.out (by omega) (by omega))) Try.underlying34 rfl (show (Try.prog.info? 34).map (·.size) = some y.c.length by rw [Pm.c_len]; exact pred_size)) ?_
    simp only [Act.put, List.getElem_toArray, List.getElem_cons_succ, List.getElem_cons_zero, List.setIfInBounds_toArray, List.set_cons_zero, List.set_cons_succ]
    refine RD1 (i := 1) rfl (fun K' hK => ?_)
    go_simp
    go_at_call 31
    refine (HW.out _ (gq_dr Jy.out.g)).mono ?_
    rintro e w15 ⟨⟨i4, x4, a4, rfl, hS4⟩, hg⟩
    have gd : w14.grownBy w15 none := (grown_drewT (grown_reflX _ _)).trans hg
    have Z15 : Hid (GY w14 w15 w.heap.size) := Lib.hid (GY.of gd _)
    have J15 := Lib.hid (Jy.out.then gd)
    have D15 := Lib.hid gd
    clear gd
    have S4 := Lib.hid hS4
    clear hS4
    clear hg
    refine hK.out _ _ Z15 (fun hHeld => ?_)
    clear hK K'
    simp only [List.setIfInBounds_toArray, List.set_cons_zero, List.set_cons_succ]
    refine RD1 (i := 3) rfl (fun K' hK => ?_)
    refine wp_store_row 81 (.tmp 2) (.tmp 62) rfl (w.heap.size + 1) #[.slice (some ⟨b, o, none⟩) n k, .int .i64 i4, .int .i64 d, .int .i64 x4, .int .i64 a4] (by rfl) (by rfl) 81 #[.slice none 0 0, .int .i64 0, .int .i64 0, .int .i64 0, .int .i64 0] J15.out.rs st_size rfl (by simp [Value.oneCell']) ?_
    have ZR : Hid (GY w14 _ w.heap.size) := Lib.hid (Z15.out.one (grown_setRow w15 (w.heap.size + 1) #[.slice (some ⟨b, o, none⟩) n k, .int .i64 i4, .int .i64 d, .int .i64 x4, .int .i64 a4]) (.inl rfl))
    refine hK.out _ _ ZR (fun hHeld => ?_)
    clear hK K'
    simp only [Act.put, List.getElem_toArray, List.getElem_cons_succ, List.getElem_cons_zero, List.setIfInBounds_toArray, List.set_cons_zero, List.set_cons_succ]
    refine RD1 (i := 4) rfl (fun K' hK => ?_)
    refine wp_store_row 34 (.tmp 3) (.tmp 63) rfl (w.heap.size + 1 + 1) y.c.toArray (by rfl) (by rfl) 34 z10 ((setRow_other _ _ _ _ (by omega)).trans J15.out.rp) (by rw [Pm.c_size]; exact pred_size) (by rw [Pm.c_size]; rfl) (Pm.c_all _) ?_
    have ZI : Hid (GY w14 _ w.heap.size) := Lib.hid (ZR.out.one (grown_setRow _ (w.heap.size + 1 + 1) y.c.toArray) (.inr rfl))
    have hF := J15.out.fin i4 x4 a4 y
    refine hK.out _ _ ZI (fun hHeld => ?_)
    clear hK K'
    simp only [Act.put, List.getElem_toArray, List.getElem_cons_succ, List.getElem_cons_zero, List.setIfInBounds_toArray, List.set_cons_zero, List.set_cons_succ]
    refine wpAnyH_done (by kernel_rfl) ?_ _
    go_wp2_with fail
    refine bodyPost_ret (res_cp rfl _ _ (w.heap.size + 1) (w.heap.size + 1 + 1) _ _ rfl rfl hF.1 hF.2.1 rfl (Pm.c_size _)) rfl ⟨i4, x4, a4, y, rfl, ?_, ?_, ?_, hF.2.2⟩
    ·rw [HRy.out]; exact S4.out
    ·intro _; rw [HRy.out, HY.out]; rfl
    ·rw [HY.out]; exact PmS.leaf ..
   | false =>
    have HRy : Hid (r = (u.pass.need bNull, .mk 6 col 0 ⟨0, 0, ⟨#[]⟩⟩ ⟨#[]⟩ [] [] pos)) := Lib.hid (by rw [HRx.out]; simp only [← HYN.out]; rfl)
    clear HRx HYN
    go_upto_region 21 with fail
    have HW := Lib.hid (fun W (hW : w.grownBy W none) => rwant_any b o n k T u.pass W (HH.out.keep hW) i2 d x2 a2 bNull S2.out key_null)
    have hp1 := J11.out.p1
    obtain ⟨y, hy⟩ : ∃ y : Pm, y = .mk 6 col 0 ⟨0, 0, ⟨#[]⟩⟩ ⟨#[]⟩ none 0 [] none 0 [] ps := ⟨_, rfl⟩
    have HY := Lib.hid hy
    have Jy : Hid (ColJ b o n k d w p V i2 x2 a2 y.c.toArray w11) := Lib.hid (by rw [hy]; exact J11.out)
    clear J11 hy
    refine wp_region_held_drew (S := (fun W => Hid (GY w11 W w.heap.size))) (by kernel_rfl) (Lib.hid (GY.of (grown_drewT (grown_reflX _ _)) _)) (fun hHeld => ?_)
    refine TKA (i := 0) (v := .agg #[.slice (some ⟨b, o, none⟩) n k, .int .i64 i2, .int .i64 d, .int .i64 x2, .int .i64 a2]) rfl (yieldsIf_load_mid (by rfl) _ _ rfl w.heap.size 0 rfl _ _ (fun W hS => range_rowD (blkY Jy.out.st hS.out (by omega) (by omega))) Try.underlying81 rfl st_size) ?_
    simp only [Act.put, List.getElem_toArray, List.getElem_cons_zero, List.size_toArray, List.length_cons, List.length_nil, Nat.reduceAdd, Array.replicate, List.replicate, List.setIfInBounds_toArray, List.set_cons_zero, List.set_cons_succ]
    refine TKA (i := 2) (v := .agg y.c.toArray) rfl (yieldsIf_load_mid (by rfl) _ _ rfl p 0 rfl y.c _ (fun W hS => range_rowD (blkY Jy.out.pp hS.out (by omega) (by omega))) Try.underlying34 rfl (show (Try.prog.info? 34).map (·.size) = some y.c.length by rw [Pm.c_len]; exact pred_size)) ?_
    simp only [Act.put, List.getElem_toArray, List.getElem_cons_succ, List.getElem_cons_zero, List.setIfInBounds_toArray, List.set_cons_zero, List.set_cons_succ]
    refine RD1 (i := 1) rfl (fun K' hK => ?_)
    go_simp
    go_at_call 31
    refine (HW.out _ (gq_dr Jy.out.g)).mono ?_
    rintro e w12 ⟨⟨i4, x4, a4, rfl, hS4⟩, hg⟩
    have gd : w11.grownBy w12 none := (grown_drewT (grown_reflX _ _)).trans hg
    have Z12 : Hid (GY w11 w12 w.heap.size) := Lib.hid (GY.of gd _)
    have J12 := Lib.hid (Jy.out.then gd)
    have D12 := Lib.hid gd
    clear gd
    have S4 := Lib.hid hS4
    clear hS4
    clear hg
    refine hK.out _ _ Z12 (fun hHeld => ?_)
    clear hK K'
    simp only [List.setIfInBounds_toArray, List.set_cons_zero, List.set_cons_succ]
    refine RD1 (i := 3) rfl (fun K' hK => ?_)
    refine wp_store_row 81 (.tmp 2) (.tmp 62) rfl (w.heap.size + 1) #[.slice (some ⟨b, o, none⟩) n k, .int .i64 i4, .int .i64 d, .int .i64 x4, .int .i64 a4] (by rfl) (by rfl) 81 #[.slice none 0 0, .int .i64 0, .int .i64 0, .int .i64 0, .int .i64 0] J12.out.rs st_size rfl (by simp [Value.oneCell']) ?_
    have ZR : Hid (GY w11 _ w.heap.size) := Lib.hid (Z12.out.one (grown_setRow w12 (w.heap.size + 1) #[.slice (some ⟨b, o, none⟩) n k, .int .i64 i4, .int .i64 d, .int .i64 x4, .int .i64 a4]) (.inl rfl))
    refine hK.out _ _ ZR (fun hHeld => ?_)
    clear hK K'
    simp only [Act.put, List.getElem_toArray, List.getElem_cons_succ, List.getElem_cons_zero, List.setIfInBounds_toArray, List.set_cons_zero, List.set_cons_succ]
    refine RD1 (i := 4) rfl (fun K' hK => ?_)
    refine wp_store_row 34 (.tmp 3) (.tmp 63) rfl (w.heap.size + 1 + 1) y.c.toArray (by rfl) (by rfl) 34 z10 ((setRow_other _ _ _ _ (by omega)).trans J12.out.rp) (by rw [Pm.c_size]; exact pred_size) (by rw [Pm.c_size]; rfl) (Pm.c_all _) ?_
    have ZI : Hid (GY w11 _ w.heap.size) := Lib.hid (ZR.out.one (grown_setRow _ (w.heap.size + 1 + 1) y.c.toArray) (.inr rfl))
    have hF := J12.out.fin i4 x4 a4 y
    refine hK.out _ _ ZI (fun hHeld => ?_)
    clear hK K'
    simp only [Act.put, List.getElem_toArray, List.getElem_cons_succ, List.getElem_cons_zero, List.setIfInBounds_toArray, List.set_cons_zero, List.set_cons_succ]
    refine wpAnyH_done (by kernel_rfl) ?_ _
    go_wp2_with fail
    refine bodyPost_ret (res_cp rfl _ _ (w.heap.size + 1) (w.heap.size + 1 + 1) _ _ rfl rfl hF.1 hF.2.1 rfl (Pm.c_size _)) rfl ⟨i4, x4, a4, y, rfl, ?_, ?_, ?_, hF.2.2⟩
    ·rw [HRy.out]; exact S4.out
    ·intro _; rw [HRy.out, HY.out]; rfl
    ·rw [HY.out]; exact PmS.leaf ..
  | false =>
   obtain ⟨ask, hask⟩ : ∃ ask, ask = u.comes bNot := ⟨_, rfl⟩
   rw [← hask] at HNt
   obtain ⟨t, ht⟩ : ∃ t, t = if ask then u.pass else u := ⟨_, rfl⟩
   have HRx := Lib.hid (HAm.out HYI.out.symm ask hask.symm t ht)
   clear HAm HRI HYI
   have HT := Lib.hid ht
   have HASK := Lib.hid hask
   clear ht hask
   obtain ⟨⟨c0, c1, c2, c3, c4⟩, f0, f1, f2, f3, f4⟩ := boxD5 J7.out.st
   go_wp2_with fail
   refine (HNt.out _ J7.out.g).mono ?_
   rintro e w8 ⟨rfl, hg⟩
   have J8 := Lib.hid (J7.out.then hg)
   have D8 := Lib.hid hg
   clear hg
   clear c0 c1 c2 c3 c4 f0 f1 f2 f3 f4
   clear J7
   clear HNt
   go_upto_if 66 with fail
   go_cut [] from 8 (fun wx => Hid (∃ i3 x3 a3 : Nat, SR n T t i3 x3 a3 ∧ ColJ b o n k d w p V i3 x3 a3 #[.int .i64 0, .string col, .int .i64 0, .int .i64 0, .int .i64 0, .string ⟨#[]⟩, .string ⟨#[]⟩, .slice none 0 0, .slice none 0 0, .int .i64 ps] wx))
   case first =>
    cases ask with
    | false =>
     obtain rfl : t = u := HT.out
     go_wp2_with fail
     go_meet
     exact Lib.hid ⟨i1, x1, a1, S1.out, J8.out⟩
    | true =>
     obtain rfl : t = u.pass := HT.out
     have HP := Lib.hid (fun W (hW : w.grownBy W none) => rpassX b o n k T u W (HH.out.keep hW) i1 d x1 a1 bNot S1.out key_not HASK.out.symm)
     clear HRx
     obtain ⟨⟨c0, c1, c2, c3, c4⟩, f0, f1, f2, f3, f4⟩ := boxD5 J8.out.st
     go_wp2_with fail
     refine (HP.out _ J8.out.g).mono ?_
     rintro e w9 ⟨⟨i2, x2, a2, rfl, hS2⟩, hg⟩
     have J9 := Lib.hid (J8.out.then hg)
     have D9 := Lib.hid hg
     clear hg
     clear c0 c1 c2 c3 c4 f0 f1 f2 f3 f4
     clear J8
     obtain ⟨⟨c0, c1, c2, c3, c4⟩, f0, f1, f2, f3, f4⟩ := boxD5 J9.out.st
     go_wp2_with fail
     go_meet
     exact Lib.hid ⟨i2, x2, a2, hS2, J9.out.setS i2 x2 a2⟩
   case rest =>
   obtain ⟨i2, x2, a2, hS2, hJ2⟩ := hcut.out
   obtain ⟨w13, hw13⟩ : ∃ w13, w13 = wc := ⟨_, rfl⟩
   rw [← hw13] at hJ2 ⊢
   have J13 := Lib.hid hJ2
   have S2 := Lib.hid hS2
   clear hcut hJ2 hS2 hw13 S1 J8 HT HASK
   have HIn := Lib.hid (fun W (hW : w.grownBy W none) => ris_any b o n k T t W (HH.out.keep hW) i2 d x2 a2 bIn S2.out key_in)
   obtain ⟨yin, hyin⟩ : ∃ yin, yin = t.comes bIn := ⟨_, rfl⟩
   rw [← hyin] at HIn
   have HYIN := Lib.hid hyin
   clear hyin
   obtain ⟨⟨c0, c1, c2, c3, c4⟩, f0, f1, f2, f3, f4⟩ := boxD5 J13.out.st
   go_wp2_with fail
   refine (HIn.out _ J13.out.g).mono ?_
   rintro e w14 ⟨rfl, hg⟩
   have J14 := Lib.hid (J13.out.then hg)
   have D14 := Lib.hid hg
   clear hg
   clear c0 c1 c2 c3 c4 f0 f1 f2 f3 f4
   clear J13
   clear HIn
   cases yin with
   | true =>
    have HRy := Lib.hid (HRx.out.trans (by rw [amongL_in HYIN.out.symm]))
    have HP := Lib.hid (fun W (hW : w.grownBy W none) => rpassX b o n k T t W (HH.out.keep hW) i2 d x2 a2 bIn S2.out key_in HYIN.out.symm)
    clear HRx HYIN
    obtain ⟨⟨c0, c1, c2, c3, c4⟩, f0, f1, f2, f3, f4⟩ := boxD5 J14.out.st
    go_wp2_with fail
    refine (HP.out _ J14.out.g).mono ?_
    rintro e w15 ⟨⟨i3, x3, a3, rfl, hS3⟩, hg⟩
    have J15 := Lib.hid (J14.out.then hg)
    have D15 := Lib.hid hg
    clear hg
    clear c0 c1 c2 c3 c4 f0 f1 f2 f3 f4
    clear J14
    have S3 := Lib.hid hS3
    have HW := Lib.hid (fun W (hW : w.grownBy W none) => rwant_any b o n k T t.pass W (HH.out.keep hW) i3 d x3 a3 bOpen S3.out key_open)
    clear hS3 HP
    obtain ⟨⟨c0, c1, c2, c3, c4⟩, f0, f1, f2, f3, f4⟩ := boxD5 J15.out.st
    go_wp2_with fail
    refine (HW.out _ J15.out.g).mono ?_
    rintro e w16 ⟨⟨i4, x4, a4, rfl, hS4⟩, hg⟩
    have J16 := Lib.hid (J15.out.then hg)
    have D16 := Lib.hid hg
    clear hg
    clear c0 c1 c2 c3 c4 f0 f1 f2 f3 f4
    clear J15
    have S4 := Lib.hid hS4
    clear hS4 HW S3
    obtain ⟨⟨c0, c1, c2, c3, c4⟩, f0, f1, f2, f3, f4⟩ := boxD5 J16.out.st
    have K16 := J16.out.setS i4 x4 a4
    go_upto_region 27 with fail
    obtain ⟨w17, hw17⟩ : ∃ w17, w17 = (((((w16.setCell ⟨w.heap.size, 0, none⟩ (.slice (some ⟨b, o, none⟩) n k)).setCell ⟨w.heap.size, 1, none⟩ (.int .i64 i4)).setCell ⟨w.heap.size, 2, none⟩ (.int .i64 d)).setCell ⟨w.heap.size, 3, none⟩ (.int .i64 x4)).setCell ⟨w.heap.size, 4, none⟩ (.int .i64 a4)) := ⟨_, rfl⟩
    have J17 : Hid (ColJ b o n k d w p V i4 x4 a4 #[.int .i64 0, .string col, .int .i64 0, .int .i64 0, .int .i64 0, .string ⟨#[]⟩, .string ⟨#[]⟩, .slice none 0 0, .slice none 0 0, .int .i64 ps] w17) := Lib.hid (by rw [hw17]; exact K16)
    rw [← hw17]
    clear c0 c1 c2 c3 c4 f0 f1 f2 f3 f4
    clear hw17 J16 K16
    generalize t.pass.need bOpen = t0 at *
    obtain ⟨r0, hr0⟩ : ∃ r0, r0 = listF 12 RS.literal 13 t0 [] := ⟨_, rfl⟩
    rw [← hr0] at HRy
    obtain ⟨⟨c0, c1, c2, c3, c4⟩, f0, f1, f2, f3, f4⟩ := boxD5 J17.out.st
    obtain ⟨⟨p0, p1, p2, p3, p4⟩, p5, p6, p7, p8, p9⟩ := ten_of J17.out.pp
    obtain ⟨⟨g0, g1, g2, g3, g4⟩, g5, g6, g7, g8, g9⟩ := ten_f J17.out.pp
    go_wp2_with fail
    obtain ⟨w18, hw18⟩ : ∃ w18, w18 = (w17.setCell ⟨p, 0, none⟩ (.int .i64 5)) := ⟨_, rfl⟩
    have J18 : Hid (ColJ b o n k d w p V i4 x4 a4 #[.int .i64 5, .string col, .int .i64 0, .int .i64 0, .int .i64 0, .string ⟨#[]⟩, .string ⟨#[]⟩, .slice none 0 0, .slice none 0 0, .int .i64 ps] w18) := Lib.hid (by rw [hw18]; exact (J17.out.setP 0 (.int .i64 5)))
    rw [← hw18]
    clear c0 c1 c2 c3 c4 f0 f1 f2 f3 f4
    clear p0 p1 p2 p3 p4 p5 p6 p7 p8 p9 g0 g1 g2 g3 g4 g5 g6 g7 g8 g9
    clear hw18 J17
    go_loopg [] 13 (fun μ wr => Hid (InL b o n k d w p V T col ps r0 μ wr))
    case atStart => exact Lib.hid ⟨0, i4, x4, a4, t0, none, 0, [], rfl, by omega, by omega, hr0.symm, S4.out, J18.out, Win.nil 3 _, fun q hq => by simp [bk] at hq, by simp⟩
    case round =>
     obtain ⟨j, i5, x5, a5, t1, arr, cap, l, hl, hj, hm, hr1, hS5, hJ5, hW5, hb5, hsz⟩ := hrel.out
     have HL := Lib.hid hl
     have HRr := Lib.hid hr1
     have S5 := Lib.hid hS5
     have FA := Lib.hid hb5
     have SZ5 := Lib.hid hsz
     clear hl hr1 hS5 hb5 hsz hrel hr0 S4 J18 S2
     by_cases h12 : j = 12
     ·skip
      obtain ⟨w20, hw20⟩ : ∃ w20, w20 = wr := ⟨_, rfl⟩
      rw [← hw20] at hJ5 hW5 ⊢
      have J20 := Lib.hid hJ5
      have W20 := Lib.hid hW5
      clear hJ5 hW5 hw20
      obtain ⟨⟨p0, p1, p2, p3, p4⟩, p5, p6, p7, p8, p9⟩ := ten_of J20.out.pp
      have g12 : (12 : Int) ≤ j := by omega
      have HRf : Hid (r0 = (t1.wrong 3, l)) := Lib.hid (by have := HRr.out; rw [h12] at this; rw [← this]; exact listF_fullD (by rw [HL.out, h12]))
      have HF := Lib.hid (fun W (hW : w.grownBy W none) => rfail_any b o n k T t1 W (HH.out.keep hW) i5 d x5 a5 3 S5.out (by decide))
      clear h12
      obtain ⟨⟨c0, c1, c2, c3, c4⟩, f0, f1, f2, f3, f4⟩ := boxD5 J20.out.st
      go_wp2_with fail
      refine (HF.out _ J20.out.g).mono ?_
      rintro e w21 ⟨⟨x9, a9, rfl, hS6⟩, hg⟩
      have J21 := Lib.hid (J20.out.then hg)
      have D21 := Lib.hid hg
      clear hg
      clear c0 c1 c2 c3 c4 f0 f1 f2 f3 f4
      clear J20
      have W21 := Lib.hid (W20.out.keepG D21.out)
      have SA := Lib.hid hS6
      have hca : x9 ≠ 0 := fun e => by
       have := hS6.err0.2 e
       cases this
      clear hS6 p0 p1 p2 p3 p4 p5 p6 p7 p8 p9 g12
      have hp0 := J21.out.p1
      have hp9 := J21.out.p2
      obtain ⟨⟨c0, c1, c2, c3, c4⟩, f0, f1, f2, f3, f4⟩ := boxD5 J21.out.st
      have K21 := J21.out.setS i5 x9 a9
      go_upto_region 30 with fail
      obtain ⟨w22, hw22⟩ : ∃ w22, w22 = (((((w21.setCell ⟨w.heap.size, 0, none⟩ (.slice (some ⟨b, o, none⟩) n k)).setCell ⟨w.heap.size, 1, none⟩ (.int .i64 i5)).setCell ⟨w.heap.size, 2, none⟩ (.int .i64 d)).setCell ⟨w.heap.size, 3, none⟩ (.int .i64 x9)).setCell ⟨w.heap.size, 4, none⟩ (.int .i64 a9)) := ⟨_, rfl⟩
      have J22 : Hid (ColJ b o n k d w p V i5 x9 a9 #[.int .i64 5, .string col, .int .i64 0, .int .i64 0, .int .i64 0, .string ⟨#[]⟩, .string ⟨#[]⟩, .slice arr j cap, .slice none 0 0, .int .i64 ps] w22) := Lib.hid (by rw [hw22]; exact K21)
      have W22 : Hid (Win 3 w22 arr cap j (l.flatMap vCT)) := Lib.hid (by rw [hw22]; exact W21.out.putD FA.out (by omega) (grownD5 _ _ _ _ _ _ _))
      rw [← hw22]
      clear c0 c1 c2 c3 c4 f0 f1 f2 f3 f4
      clear hw22 J21 K21
      clear W21
      have HLt := Lib.hid (fun W (hW : w.grownBy W none) => rlit_any b o n k T (t1.wrong 3) W (HH.out.keep hW) i5 d x9 a9 SA.out)
      have hvz := lit_size ((t1.wrong 3))
      have HNi := Lib.hid (fun (i6 x6 a6 : Nat) (h : SR n T ((t1.wrong 3)).literal.1 i6 x6 a6) => SA.out.ninthL hca h)
      generalize hu5 : ((t1.wrong 3)).literal.1 = u5 at *
      generalize hv5 : ((t1.wrong 3)).literal.2 = v5 at *
      have HU := Lib.hid (And.intro hu5 hv5)
      obtain ⟨vk, vn, vs⟩ := v5
      simp only at HLt hvz
      have HVZ := Lib.hid hvz
      clear hvz hu5 hv5
      obtain ⟨⟨c0, c1, c2, c3, c4⟩, f0, f1, f2, f3, f4⟩ := boxD5 J22.out.st
      go_wp2_with fail
      refine (HLt.out _ J22.out.g).mono ?_
      rintro e w23 ⟨⟨i6, x6, a6, rfl, hS6⟩, hg⟩
      have J23 := Lib.hid (J22.out.then hg)
      have D23 := Lib.hid hg
      clear hg
      clear c0 c1 c2 c3 c4 f0 f1 f2 f3 f4
      clear J22
      have W23 := Lib.hid (W22.out.keepG D23.out)
      have S6 := Lib.hid hS6
      clear hS6 HLt W22
      obtain ⟨⟨c0, c1, c2, c3, c4⟩, f0, f1, f2, f3, f4⟩ := boxD5 J23.out.st
      have K := J23.out.setS i6 x6 a6
      obtain ⟨z0, z1, z2, hz⟩ := K.vv
      obtain ⟨⟨v0, v1, v2⟩, e0, e1, e2⟩ := boxD3 hz
      have hp1 := J23.out.p1
      have hp2 := J23.out.p2
      go_upto_region 31 with fail
      have gV := grownD3 (((((w23.setCell ⟨w.heap.size, 0, none⟩ (.slice (some ⟨b, o, none⟩) n k)).setCell ⟨w.heap.size, 1, none⟩ (.int .i64 i6)).setCell ⟨w.heap.size, 2, none⟩ (.int .i64 d)).setCell ⟨w.heap.size, 3, none⟩ (.int .i64 x6)).setCell ⟨w.heap.size, 4, none⟩ (.int .i64 a6)) V (.int .i64 vk) (.int .i64 vn) (.string vs)
      have hWk := (W23.out.putD FA.out (by omega) (grownD5 w23 w.heap.size (.slice (some ⟨b, o, none⟩) n k) (.int .i64 i6) (.int .i64 d) (.int .i64 x6) (.int .i64 a6))).putD FA.out (Nat.le_refl _) gV
      obtain ⟨w24, hw24⟩ : ∃ w24, w24 = ((((((((w23.setCell ⟨w.heap.size, 0, none⟩ (.slice (some ⟨b, o, none⟩) n k)).setCell ⟨w.heap.size, 1, none⟩ (.int .i64 i6)).setCell ⟨w.heap.size, 2, none⟩ (.int .i64 d)).setCell ⟨w.heap.size, 3, none⟩ (.int .i64 x6)).setCell ⟨w.heap.size, 4, none⟩ (.int .i64 a6)).setCell ⟨V, 0, none⟩ (.int .i64 vk)).setCell ⟨V, 1, none⟩ (.int .i64 vn)).setCell ⟨V, 2, none⟩ (.string vs)) := ⟨_, rfl⟩
      have J24 : Hid (ColJ b o n k d w p V i6 x6 a6 #[.int .i64 5, .string col, .int .i64 0, .int .i64 0, .int .i64 0, .string ⟨#[]⟩, .string ⟨#[]⟩, .slice arr j cap, .slice none 0 0, .int .i64 ps] w24) := Lib.hid (by rw [hw24]; exact K.setV hz _ _ _)
      have VF : Hid (w24.heap[V]? = some (.cells #[.int .i64 vk, .int .i64 vn, .string vs] 31 (0, 0))) := Lib.hid (by rw [hw24]; exact setD3 hz)
      have W24 : Hid (Win 3 w24 arr cap j (l.flatMap vCT)) := Lib.hid (by rw [hw24]; exact hWk)
      rw [← hw24]
      clear c0 c1 c2 c3 c4 f0 f1 f2 f3 f4
      clear hw24 K hz v0 v1 v2 e0 e1 e2 gV hWk W23 J23
      obtain ⟨⟨v0, v1, v2⟩, e0, e1, e2⟩ := boxD3 VF.out
      obtain ⟨⟨p0, p1, p2, p3, p4⟩, p5, p6, p7, p8, p9⟩ := ten_of J24.out.pp
      go_wp2_with (refine wpList_append_winA rfl (.tmp 87) (.tmp 89) val_el (by rfl) (W24.out.keepG (World.grownBy_alloc w24 (.cells #[.int .i64 vk, .int .i64 vn, .string vs] 31) none)) (by rfl) (some ⟨w24.heap.size, 0, none⟩) 1 1 (by rfl) [.int .i64 vk, .int .i64 vn, .string vs] (fun e => by cases e) rfl (by omega) (fun ad e j u hj => by cases e; rw [add_atT]; rw [cell_of_row _ _ (0 + j) _ _ _ (alc1 w24 _)]; simpa using hj) (by simp [Value.oneCell']) ?_)
      intro arr2 cap2 w25 z2 o2 b2 _
      clear p0 p1 p2 p3 p4 p5 p6 p7 p8 p9 v0 v1 v2 e0 e1 e2
      have ga := World.grownBy_alloc w24 (.cells #[.int .i64 vk, .int .i64 vn, .string vs] 31) none
      have J25 := Lib.hid ((J24.out.then ga).only o2 FA.out)
      have FB : Hid (∀ q, bk arr2 q → V < q) := Lib.hid (fun q hq => (b2 q hq).elim (FA.out q) (fun e => by have hv := (Array.getElem?_eq_some_iff.1 VF.out).1; have := ga.size; omega))
      have W25 : Hid (Win 3 w25 arr2 cap2 (j + 1) ((l ++ [(⟨vk, vn, vs⟩ : Vl)]).flatMap vCT)) := Lib.hid (by
       rw [List.flatMap_append]
       exact z2)
      clear z2 o2 b2 ga W24 VF
      obtain ⟨⟨p0, p1, p2, p3, p4⟩, p5, p6, p7, p8, p9⟩ := ten_of J25.out.pp
      obtain ⟨⟨g0, g1, g2, g3, g4⟩, g5, g6, g7, g8, g9⟩ := ten_f J25.out.pp
      go_upto_region 32 with fail
      obtain ⟨w26, hw26⟩ : ∃ w26, w26 = w25.setCell ⟨p, 7, none⟩ (.slice arr2 (j + 1) cap2) := ⟨_, rfl⟩
      have J26 : Hid (ColJ b o n k d w p V i6 x6 a6 #[.int .i64 5, .string col, .int .i64 0, .int .i64 0, .int .i64 0, .string ⟨#[]⟩, .string ⟨#[]⟩, .slice arr2 (j + 1) cap2, .slice none 0 0, .int .i64 ps] w26) := Lib.hid (by rw [hw26]; exact J25.out.setP 7 _)
      have W26 : Hid (Win 3 w26 arr2 cap2 (j + 1) ((l ++ [(⟨vk, vn, vs⟩ : Vl)]).flatMap vCT)) := Lib.hid (by rw [hw26]; exact W25.out.putD FB.out (Nat.le_of_lt hp2) (gq_cellR _ _ _ _))
      rw [← hw26]
      clear p0 p1 p2 p3 p4 p5 p6 p7 p8 p9 g0 g1 g2 g3 g4 g5 g6 g7 g8 g9
      clear hw26 J25 W25
      have S7 := Lib.hid (HNi.out i6 x6 a6 S6.out).2
      have hx6 := (HNi.out i6 x6 a6 S6.out).1
      have hcm := S7.out.bad_comes hx6 (t := bComma) key_comma
      have HC := Lib.hid (fun W (hW : w.grownBy W none) => ris_any b o n k T (t1.wrong 3) W (HH.out.keep hW) i6 d x6 a6 bComma S7.out key_comma)
      rw [hcm] at HC
      clear hcm
      obtain ⟨⟨c0, c1, c2, c3, c4⟩, f0, f1, f2, f3, f4⟩ := boxD5 J26.out.st
      go_wp2_with fail
      refine (HC.out _ J26.out.g).mono ?_
      rintro e w27 ⟨rfl, hg⟩
      have J27 := Lib.hid (J26.out.then hg)
      have D27 := Lib.hid hg
      clear hg
      clear c0 c1 c2 c3 c4 f0 f1 f2 f3 f4
      clear J26
      have W27 := Lib.hid (W26.out.keepG D27.out)
      clear HC W26
      go_upto_region 33 with fail
      have HW := Lib.hid (fun W (hW : w.grownBy W none) => rwant_any b o n k T (t1.wrong 3) W (HH.out.keep hW) i6 d x6 a6 bShut S7.out key_shut)
      have HPm : Hid (PmS (fun j => V + 1 ≤ j) w27 (.mk 5 col 0 ⟨0, 0, ⟨#[]⟩⟩ ⟨#[]⟩ arr2 cap2 (l ++ [(⟨vk, vn, vs⟩ : Vl)]) none 0 [] ps)) := Lib.hid ⟨win_rw (by rw [List.length_append, HL.out]; exact W27.out) FB.out (by rw [List.length_append, HL.out]; simp; omega) (fun x hx => by
       rcases List.mem_append.1 hx with hx | hx
       ·exact Nat.le_trans (SZ5.out x hx) (by decide)
       ·obtain rfl := List.mem_singleton.1 hx
        exact Nat.le_trans HVZ.out (by decide)), (by rw [List.length_append, HL.out]; exact W27.out.le), .inl rfl, Nat.le_refl _, trivial⟩
      have hVw := (Array.getElem?_eq_some_iff.1 J27.out.vv.choose_spec.choose_spec.choose_spec).1
      have HVw := Lib.hid hVw
      clear hVw
      have JJ : Hid (ColJ b o n k d w p V i6 x6 a6 #[.int .i64 5, .string col, .int .i64 0, .int .i64 0, .int .i64 0, .string ⟨#[]⟩, .string ⟨#[]⟩, .slice arr2 (l ++ [(⟨vk, vn, vs⟩ : Vl)]).length cap2, .slice none 0 0, .int .i64 ps] w27) := Lib.hid (by rw [List.length_append, HL.out]; exact J27.out)
      clear J27
      have J27 := JJ
      clear JJ
      have hp1 := J27.out.p1
      obtain ⟨y, hy⟩ : ∃ y : Pm, y = .mk 5 col 0 ⟨0, 0, ⟨#[]⟩⟩ ⟨#[]⟩ arr2 cap2 (l ++ [(⟨vk, vn, vs⟩ : Vl)]) none 0 [] ps := ⟨_, rfl⟩
      have HY := Lib.hid hy
      have Jy : Hid (ColJ b o n k d w p V i6 x6 a6 y.c.toArray w27) := Lib.hid (by rw [hy]; exact J27.out)
      clear J27 hy
      have HNo := Lib.hid (fun W (hW : w27.grownBy W none) => rnot_any (V + 1) y ask W (by rw [HY.out]; exact HPm.out.keep (.of hW)) (Nat.le_trans HVw.out hW.size))
      refine wp_region_held_drew (S := (fun W => Hid (GY w27 W w.heap.size))) (by kernel_rfl) (Lib.hid (GY.of (grown_drewT (grown_reflX _ _)) _)) (fun hHeld => ?_)
      refine TKA (i := 0) (v := .agg #[.slice (some ⟨b, o, none⟩) n k, .int .i64 i6, .int .i64 d, .int .i64 x6, .int .i64 a6]) rfl (yieldsIf_load_mid (by rfl) _ _ rfl w.heap.size 0 rfl _ _ (fun W hS => range_rowD (blkY Jy.out.st hS.out (by omega) (by omega))) Try.underlying81 rfl st_size) ?_
      simp only [Act.put, List.getElem_toArray, List.getElem_cons_zero, List.size_toArray, List.length_cons, List.length_nil, Nat.reduceAdd, Array.replicate, List.replicate, List.setIfInBounds_toArray, List.set_cons_zero, List.set_cons_succ]
      refine TKA (i := 2) (v := .agg y.c.toArray) rfl (yieldsIf_load_mid (by rfl) _ _ rfl p 0 rfl y.c _ (fun W hS => range_rowD (blkY Jy.out.pp hS.out (by omega) (by omega))) Try.underlying34 rfl (show (Try.prog.info? 34).map (·.size) = some y.c.length by rw [Pm.c_len]; exact pred_size)) ?_
      simp only [Act.put, List.getElem_toArray, List.getElem_cons_succ, List.getElem_cons_zero, List.setIfInBounds_toArray, List.set_cons_zero, List.set_cons_succ]
      refine TKB (i := 3) (v := ?vaz) rfl ?yaz ?raz
      case yaz => (intro w hSw; (try dsimp only at hSw); go_simp; try with_reducible rfl)
      simp only [Act.put, List.getElem_toArray, List.getElem_cons_succ, List.getElem_cons_zero, List.setIfInBounds_toArray, List.set_cons_zero, List.set_cons_succ]
      refine RD1 (i := 1) rfl (fun K' hK => ?_)
      go_simp
      go_at_call 31
      refine (HW.out _ (gq_dr Jy.out.g)).mono ?_
      rintro e w28 ⟨⟨i8, x8, a8, rfl, hS8⟩, hg⟩
      have gd : w27.grownBy w28 none := (grown_drewT (grown_reflX _ _)).trans hg
      have Z28 : Hid (GY w27 w28 w.heap.size) := Lib.hid (GY.of gd _)
      have J28 := Lib.hid (Jy.out.then gd)
      have D28 := Lib.hid gd
      clear gd
      have S8 := Lib.hid hS8
      clear hS8
      clear hg
      refine hK.out _ _ Z28 (fun hHeld => ?_)
      clear hK K'
      simp only [List.setIfInBounds_toArray, List.set_cons_zero, List.set_cons_succ]
      refine RD1 (i := 4) rfl (fun K' hK => ?_)
      go_simp
      go_at_call 90
      refine (HNo.out _ D28.out).mono ?_
      rintro e w29 ⟨⟨y2, rfl, hy2, hP2⟩, hg⟩
      have Z29 : Hid (GY w27 w29 w.heap.size) := Lib.hid (Z28.out.grown hg)
      have J29 := Lib.hid (J28.out.then hg)
      have EQ := Lib.hid hy2
      have P2 := Lib.hid hP2
      clear hy2 hP2
      clear hg
      refine hK.out _ _ Z29 (fun hHeld => ?_)
      clear hK K'
      simp only [List.setIfInBounds_toArray, List.set_cons_zero, List.set_cons_succ]
      refine RD1 (i := 5) rfl (fun K' hK => ?_)
      refine wp_store_row 81 (.tmp 2) (.tmp 96) rfl (w.heap.size + 1) #[.slice (some ⟨b, o, none⟩) n k, .int .i64 i8, .int .i64 d, .int .i64 x8, .int .i64 a8] (by rfl) (by rfl) 81 #[.slice none 0 0, .int .i64 0, .int .i64 0, .int .i64 0, .int .i64 0] J29.out.rs st_size rfl (by simp [Value.oneCell']) ?_
      have ZR : Hid (GY w27 _ w.heap.size) := Lib.hid (Z29.out.one (grown_setRow w29 (w.heap.size + 1) #[.slice (some ⟨b, o, none⟩) n k, .int .i64 i8, .int .i64 d, .int .i64 x8, .int .i64 a8]) (.inl rfl))
      refine hK.out _ _ ZR (fun hHeld => ?_)
      clear hK K'
      simp only [Act.put, List.getElem_toArray, List.getElem_cons_succ, List.getElem_cons_zero, List.setIfInBounds_toArray, List.set_cons_zero, List.set_cons_succ]
      refine RD1 (i := 6) rfl (fun K' hK => ?_)
      refine wp_store_row 34 (.tmp 3) (.tmp 99) rfl (w.heap.size + 1 + 1) y2.c.toArray (by rfl) (by rfl) 34 z10 ((setRow_other _ _ _ _ (by omega)).trans J29.out.rp) (by rw [Pm.c_size]; exact pred_size) (by rw [Pm.c_size]; rfl) (Pm.c_all _) ?_
      have ZI : Hid (GY w27 _ w.heap.size) := Lib.hid (ZR.out.one (grown_setRow _ (w.heap.size + 1 + 1) y2.c.toArray) (.inr rfl))
      have hF := J29.out.fin i8 x8 a8 y2
      refine hK.out _ _ ZI (fun hHeld => ?_)
      clear hK K'
      simp only [Act.put, List.getElem_toArray, List.getElem_cons_succ, List.getElem_cons_zero, List.setIfInBounds_toArray, List.set_cons_zero, List.set_cons_succ]
      refine wpAnyH_done (by kernel_rfl) ?_ _
      go_wp2_with fail
      refine bodyPost_ret (res_cp rfl _ _ (w.heap.size + 1) (w.heap.size + 1 + 1) _ _ rfl rfl hF.1 hF.2.1 rfl (Pm.c_size _)) rfl ⟨i8, x8, a8, y2, rfl, ?_, ?_, ?_, hF.2.2⟩
      ·rw [HRy.out, HRf.out]; exact S8.out
      ·intro h0; exact absurd ((S8.out.err0.2 h0)) (by rw [RS.need_no (S7.out.bad_comes hx6 key_shut)]; simp [RS.wrong])
      ·exact ((P2.out.keep (w' := _) ⟨by simp, fun b' hb' _ => (setRow_other _ _ _ _ (by omega)).trans (setRow_other _ _ _ _ (by omega))⟩).mono (fun j _ hj => by omega))
     ·skip
      obtain ⟨w20, hw20⟩ : ∃ w20, w20 = wr := ⟨_, rfl⟩
      rw [← hw20] at hJ5 hW5 ⊢
      have J20 := Lib.hid hJ5
      have W20 := Lib.hid hW5
      clear hJ5 hW5 hw20
      obtain ⟨⟨p0, p1, p2, p3, p4⟩, p5, p6, p7, p8, p9⟩ := ten_of J20.out.pp
      have g12 : ¬ (12 : Int) ≤ j := by omega
      go_upto_region 30 with fail
      clear p0 p1 p2 p3 p4 p5 p6 p7 p8 p9 g12
      have SA := S5
      have HLt := Lib.hid (fun W (hW : w.grownBy W none) => rlit_any b o n k T t1 W (HH.out.keep hW) i5 d x5 a5 SA.out)
      have hvz := lit_size (t1)
      generalize hu5 : (t1).literal.1 = u5 at *
      generalize hv5 : (t1).literal.2 = v5 at *
      have HU := Lib.hid (And.intro hu5 hv5)
      obtain ⟨vk, vn, vs⟩ := v5
      simp only at HLt hvz
      have HVZ := Lib.hid hvz
      clear hvz hu5 hv5
      obtain ⟨⟨c0, c1, c2, c3, c4⟩, f0, f1, f2, f3, f4⟩ := boxD5 J20.out.st
      go_wp2_with fail
      refine (HLt.out _ J20.out.g).mono ?_
      rintro e w21 ⟨⟨i6, x6, a6, rfl, hS6⟩, hg⟩
      have J21 := Lib.hid (J20.out.then hg)
      have D21 := Lib.hid hg
      clear hg
      clear c0 c1 c2 c3 c4 f0 f1 f2 f3 f4
      clear J20
      have W21 := Lib.hid (W20.out.keepG D21.out)
      have S6 := Lib.hid hS6
      clear hS6 HLt W20
      obtain ⟨⟨c0, c1, c2, c3, c4⟩, f0, f1, f2, f3, f4⟩ := boxD5 J21.out.st
      have K := J21.out.setS i6 x6 a6
      obtain ⟨z0, z1, z2, hz⟩ := K.vv
      obtain ⟨⟨v0, v1, v2⟩, e0, e1, e2⟩ := boxD3 hz
      have hp1 := J21.out.p1
      have hp2 := J21.out.p2
      go_upto_region 31 with fail
      have gV := grownD3 (((((w21.setCell ⟨w.heap.size, 0, none⟩ (.slice (some ⟨b, o, none⟩) n k)).setCell ⟨w.heap.size, 1, none⟩ (.int .i64 i6)).setCell ⟨w.heap.size, 2, none⟩ (.int .i64 d)).setCell ⟨w.heap.size, 3, none⟩ (.int .i64 x6)).setCell ⟨w.heap.size, 4, none⟩ (.int .i64 a6)) V (.int .i64 vk) (.int .i64 vn) (.string vs)
      have hWk := (W21.out.putD FA.out (by omega) (grownD5 w21 w.heap.size (.slice (some ⟨b, o, none⟩) n k) (.int .i64 i6) (.int .i64 d) (.int .i64 x6) (.int .i64 a6))).putD FA.out (Nat.le_refl _) gV
      obtain ⟨w22, hw22⟩ : ∃ w22, w22 = ((((((((w21.setCell ⟨w.heap.size, 0, none⟩ (.slice (some ⟨b, o, none⟩) n k)).setCell ⟨w.heap.size, 1, none⟩ (.int .i64 i6)).setCell ⟨w.heap.size, 2, none⟩ (.int .i64 d)).setCell ⟨w.heap.size, 3, none⟩ (.int .i64 x6)).setCell ⟨w.heap.size, 4, none⟩ (.int .i64 a6)).setCell ⟨V, 0, none⟩ (.int .i64 vk)).setCell ⟨V, 1, none⟩ (.int .i64 vn)).setCell ⟨V, 2, none⟩ (.string vs)) := ⟨_, rfl⟩
      have J22 : Hid (ColJ b o n k d w p V i6 x6 a6 #[.int .i64 5, .string col, .int .i64 0, .int .i64 0, .int .i64 0, .string ⟨#[]⟩, .string ⟨#[]⟩, .slice arr j cap, .slice none 0 0, .int .i64 ps] w22) := Lib.hid (by rw [hw22]; exact K.setV hz _ _ _)
      have VF : Hid (w22.heap[V]? = some (.cells #[.int .i64 vk, .int .i64 vn, .string vs] 31 (0, 0))) := Lib.hid (by rw [hw22]; exact setD3 hz)
      have W22 : Hid (Win 3 w22 arr cap j (l.flatMap vCT)) := Lib.hid (by rw [hw22]; exact hWk)
      rw [← hw22]
      clear c0 c1 c2 c3 c4 f0 f1 f2 f3 f4
      clear hw22 K hz v0 v1 v2 e0 e1 e2 gV hWk W21 J21
      obtain ⟨⟨v0, v1, v2⟩, e0, e1, e2⟩ := boxD3 VF.out
      obtain ⟨⟨p0, p1, p2, p3, p4⟩, p5, p6, p7, p8, p9⟩ := ten_of J22.out.pp
      go_wp2_with (refine wpList_append_winA rfl (.tmp 87) (.tmp 89) val_el (by rfl) (W22.out.keepG (World.grownBy_alloc w22 (.cells #[.int .i64 vk, .int .i64 vn, .string vs] 31) none)) (by rfl) (some ⟨w22.heap.size, 0, none⟩) 1 1 (by rfl) [.int .i64 vk, .int .i64 vn, .string vs] (fun e => by cases e) rfl (by omega) (fun ad e j u hj => by cases e; rw [add_atT]; rw [cell_of_row _ _ (0 + j) _ _ _ (alc1 w22 _)]; simpa using hj) (by simp [Value.oneCell']) ?_)
      intro arr2 cap2 w23 z2 o2 b2 _
      clear p0 p1 p2 p3 p4 p5 p6 p7 p8 p9 v0 v1 v2 e0 e1 e2
      have ga := World.grownBy_alloc w22 (.cells #[.int .i64 vk, .int .i64 vn, .string vs] 31) none
      have J23 := Lib.hid ((J22.out.then ga).only o2 FA.out)
      have FB : Hid (∀ q, bk arr2 q → V < q) := Lib.hid (fun q hq => (b2 q hq).elim (FA.out q) (fun e => by have hv := (Array.getElem?_eq_some_iff.1 VF.out).1; have := ga.size; omega))
      have W23 : Hid (Win 3 w23 arr2 cap2 (j + 1) ((l ++ [(⟨vk, vn, vs⟩ : Vl)]).flatMap vCT)) := Lib.hid (by
       rw [List.flatMap_append]
       exact z2)
      clear z2 o2 b2 ga W22 VF
      obtain ⟨⟨p0, p1, p2, p3, p4⟩, p5, p6, p7, p8, p9⟩ := ten_of J23.out.pp
      obtain ⟨⟨g0, g1, g2, g3, g4⟩, g5, g6, g7, g8, g9⟩ := ten_f J23.out.pp
      go_upto_region 32 with fail
      obtain ⟨w24, hw24⟩ : ∃ w24, w24 = w23.setCell ⟨p, 7, none⟩ (.slice arr2 (j + 1) cap2) := ⟨_, rfl⟩
      have J24 : Hid (ColJ b o n k d w p V i6 x6 a6 #[.int .i64 5, .string col, .int .i64 0, .int .i64 0, .int .i64 0, .string ⟨#[]⟩, .string ⟨#[]⟩, .slice arr2 (j + 1) cap2, .slice none 0 0, .int .i64 ps] w24) := Lib.hid (by rw [hw24]; exact J23.out.setP 7 _)
      have W24 : Hid (Win 3 w24 arr2 cap2 (j + 1) ((l ++ [(⟨vk, vn, vs⟩ : Vl)]).flatMap vCT)) := Lib.hid (by rw [hw24]; exact W23.out.putD FB.out (Nat.le_of_lt hp2) (gq_cellR _ _ _ _))
      rw [← hw24]
      clear p0 p1 p2 p3 p4 p5 p6 p7 p8 p9 g0 g1 g2 g3 g4 g5 g6 g7 g8 g9
      clear hw24 J23 W23
      have S7 := S6
      have HC := Lib.hid (fun W (hW : w.grownBy W none) => ris_any b o n k T u5 W (HH.out.keep hW) i6 d x6 a6 bComma S7.out key_comma)
      obtain ⟨yc, hyc⟩ : ∃ yc, yc = u5.comes bComma := ⟨_, rfl⟩
      rw [← hyc] at HC
      have HYC := Lib.hid hyc
      clear hyc
      obtain ⟨⟨c0, c1, c2, c3, c4⟩, f0, f1, f2, f3, f4⟩ := boxD5 J24.out.st
      go_wp2_with fail
      refine (HC.out _ J24.out.g).mono ?_
      rintro e w25 ⟨rfl, hg⟩
      have J25 := Lib.hid (J24.out.then hg)
      have D25 := Lib.hid hg
      clear hg
      clear c0 c1 c2 c3 c4 f0 f1 f2 f3 f4
      clear J24
      have W25 := Lib.hid (W24.out.keepG D25.out)
      clear HC W24
      cases yc with
      | false =>
       have HRf : Hid (r0 = (u5, l ++ [(⟨vk, vn, vs⟩ : Vl)])) := Lib.hid (by
        have := HRr.out
        rw [show 13 - j = (12 - j) + 1 by omega, listF_endD (by rw [HL.out]; omega) (by rw [HU.out.1]; exact HYC.out.symm), HU.out.1, HU.out.2] at this
        exact this.symm)
       clear HYC
       go_upto_region 33 with fail
       have HW := Lib.hid (fun W (hW : w.grownBy W none) => rwant_any b o n k T u5 W (HH.out.keep hW) i6 d x6 a6 bShut S7.out key_shut)
       have HPm : Hid (PmS (fun j => V + 1 ≤ j) w25 (.mk 5 col 0 ⟨0, 0, ⟨#[]⟩⟩ ⟨#[]⟩ arr2 cap2 (l ++ [(⟨vk, vn, vs⟩ : Vl)]) none 0 [] ps)) := Lib.hid ⟨win_rw (by rw [List.length_append, HL.out]; exact W25.out) FB.out (by rw [List.length_append, HL.out]; simp; omega) (fun x hx => by
        rcases List.mem_append.1 hx with hx | hx
        ·exact Nat.le_trans (SZ5.out x hx) (by decide)
        ·obtain rfl := List.mem_singleton.1 hx
         exact Nat.le_trans HVZ.out (by decide)), (by rw [List.length_append, HL.out]; exact W25.out.le), .inl rfl, Nat.le_refl _, trivial⟩
       have hVw := (Array.getElem?_eq_some_iff.1 J25.out.vv.choose_spec.choose_spec.choose_spec).1
       have HVw := Lib.hid hVw
       clear hVw
       have JJ : Hid (ColJ b o n k d w p V i6 x6 a6 #[.int .i64 5, .string col, .int .i64 0, .int .i64 0, .int .i64 0, .string ⟨#[]⟩, .string ⟨#[]⟩, .slice arr2 (l ++ [(⟨vk, vn, vs⟩ : Vl)]).length cap2, .slice none 0 0, .int .i64 ps] w25) := Lib.hid (by rw [List.length_append, HL.out]; exact J25.out)
       clear J25
       have J25 := JJ
       clear JJ
       have hp1 := J25.out.p1
       obtain ⟨y, hy⟩ : ∃ y : Pm, y = .mk 5 col 0 ⟨0, 0, ⟨#[]⟩⟩ ⟨#[]⟩ arr2 cap2 (l ++ [(⟨vk, vn, vs⟩ : Vl)]) none 0 [] ps := ⟨_, rfl⟩
       have HY := Lib.hid hy
       have Jy : Hid (ColJ b o n k d w p V i6 x6 a6 y.c.toArray w25) := Lib.hid (by rw [hy]; exact J25.out)
       clear J25 hy
       have HNo := Lib.hid (fun W (hW : w25.grownBy W none) => rnot_any (V + 1) y ask W (by rw [HY.out]; exact HPm.out.keep (.of hW)) (Nat.le_trans HVw.out hW.size))
       refine wp_region_held_drew (S := (fun W => Hid (GY w25 W w.heap.size))) (by kernel_rfl) (Lib.hid (GY.of (grown_drewT (grown_reflX _ _)) _)) (fun hHeld => ?_)
       refine TKA (i := 0) (v := .agg #[.slice (some ⟨b, o, none⟩) n k, .int .i64 i6, .int .i64 d, .int .i64 x6, .int .i64 a6]) rfl (yieldsIf_load_mid (by rfl) _ _ rfl w.heap.size 0 rfl _ _ (fun W hS => range_rowD (blkY Jy.out.st hS.out (by omega) (by omega))) Try.underlying81 rfl st_size) ?_
       simp only [Act.put, List.getElem_toArray, List.getElem_cons_zero, List.size_toArray, List.length_cons, List.length_nil, Nat.reduceAdd, Array.replicate, List.replicate, List.setIfInBounds_toArray, List.set_cons_zero, List.set_cons_succ]
       refine TKA (i := 2) (v := .agg y.c.toArray) rfl (yieldsIf_load_mid (by rfl) _ _ rfl p 0 rfl y.c _ (fun W hS => range_rowD (blkY Jy.out.pp hS.out (by omega) (by omega))) Try.underlying34 rfl (show (Try.prog.info? 34).map (·.size) = some y.c.length by rw [Pm.c_len]; exact pred_size)) ?_
       simp only [Act.put, List.getElem_toArray, List.getElem_cons_succ, List.getElem_cons_zero, List.setIfInBounds_toArray, List.set_cons_zero, List.set_cons_succ]
       refine TKB (i := 3) (v := ?vbz) rfl ?ybz ?rbz
       case ybz => (intro w hSw; (try dsimp only at hSw); go_simp; try with_reducible rfl)
       simp only [Act.put, List.getElem_toArray, List.getElem_cons_succ, List.getElem_cons_zero, List.setIfInBounds_toArray, List.set_cons_zero, List.set_cons_succ]
       refine RD1 (i := 1) rfl (fun K' hK => ?_)
       go_simp
       go_at_call 31
       refine (HW.out _ (gq_dr Jy.out.g)).mono ?_
       rintro e w26 ⟨⟨i8, x8, a8, rfl, hS8⟩, hg⟩
       have gd : w25.grownBy w26 none := (grown_drewT (grown_reflX _ _)).trans hg
       have Z26 : Hid (GY w25 w26 w.heap.size) := Lib.hid (GY.of gd _)
       have J26 := Lib.hid (Jy.out.then gd)
       have D26 := Lib.hid gd
       clear gd
       have S8 := Lib.hid hS8
       clear hS8
       clear hg
       refine hK.out _ _ Z26 (fun hHeld => ?_)
       clear hK K'
       simp only [List.setIfInBounds_toArray, List.set_cons_zero, List.set_cons_succ]
       refine RD1 (i := 4) rfl (fun K' hK => ?_)
       go_simp
       go_at_call 90
       refine (HNo.out _ D26.out).mono ?_
       rintro e w27 ⟨⟨y2, rfl, hy2, hP2⟩, hg⟩
       have Z27 : Hid (GY w25 w27 w.heap.size) := Lib.hid (Z26.out.grown hg)
       have J27 := Lib.hid (J26.out.then hg)
       have EQ := Lib.hid hy2
       have P2 := Lib.hid hP2
       clear hy2 hP2
       clear hg
       refine hK.out _ _ Z27 (fun hHeld => ?_)
       clear hK K'
       simp only [List.setIfInBounds_toArray, List.set_cons_zero, List.set_cons_succ]
       refine RD1 (i := 5) rfl (fun K' hK => ?_)
       refine wp_store_row 81 (.tmp 2) (.tmp 96) rfl (w.heap.size + 1) #[.slice (some ⟨b, o, none⟩) n k, .int .i64 i8, .int .i64 d, .int .i64 x8, .int .i64 a8] (by rfl) (by rfl) 81 #[.slice none 0 0, .int .i64 0, .int .i64 0, .int .i64 0, .int .i64 0] J27.out.rs st_size rfl (by simp [Value.oneCell']) ?_
       have ZR : Hid (GY w25 _ w.heap.size) := Lib.hid (Z27.out.one (grown_setRow w27 (w.heap.size + 1) #[.slice (some ⟨b, o, none⟩) n k, .int .i64 i8, .int .i64 d, .int .i64 x8, .int .i64 a8]) (.inl rfl))
       refine hK.out _ _ ZR (fun hHeld => ?_)
       clear hK K'
       simp only [Act.put, List.getElem_toArray, List.getElem_cons_succ, List.getElem_cons_zero, List.setIfInBounds_toArray, List.set_cons_zero, List.set_cons_succ]
       refine RD1 (i := 6) rfl (fun K' hK => ?_)
       refine wp_store_row 34 (.tmp 3) (.tmp 99) rfl (w.heap.size + 1 + 1) y2.c.toArray (by rfl) (by rfl) 34 z10 ((setRow_other _ _ _ _ (by omega)).trans J27.out.rp) (by rw [Pm.c_size]; exact pred_size) (by rw [Pm.c_size]; rfl) (Pm.c_all _) ?_
       have ZI : Hid (GY w25 _ w.heap.size) := Lib.hid (ZR.out.one (grown_setRow _ (w.heap.size + 1 + 1) y2.c.toArray) (.inr rfl))
       have hF := J27.out.fin i8 x8 a8 y2
       refine hK.out _ _ ZI (fun hHeld => ?_)
       clear hK K'
       simp only [Act.put, List.getElem_toArray, List.getElem_cons_succ, List.getElem_cons_zero, List.setIfInBounds_toArray, List.set_cons_zero, List.set_cons_succ]
       refine wpAnyH_done (by kernel_rfl) ?_ _
       go_wp2_with fail
       refine bodyPost_ret (res_cp rfl _ _ (w.heap.size + 1) (w.heap.size + 1 + 1) _ _ rfl rfl hF.1 hF.2.1 rfl (Pm.c_size _)) rfl ⟨i8, x8, a8, y2, rfl, ?_, ?_, ?_, hF.2.2⟩
       ·rw [HRy.out, HRf.out]; exact S8.out
       ·intro _; rw [HRy.out, HRf.out, EQ.out, HY.out]; cases ask <;> simp [notP, Prd.e, Prd.es, Pm.e, Pm.es]
       ·exact ((P2.out.keep (w' := _) ⟨by simp, fun b' hb' _ => (setRow_other _ _ _ _ (by omega)).trans (setRow_other _ _ _ _ (by omega))⟩).mono (fun j _ hj => by omega))
      | true =>
       have HRt : Hid (listF 12 RS.literal (13 - (j + 1)) u5.pass (l ++ [(⟨vk, vn, vs⟩ : Vl)]) = r0) := Lib.hid (by
        have := HRr.out
        rw [show 13 - j = (13 - (j + 1)) + 1 by omega, listF_moreD (by rw [HL.out]; omega) (by rw [HU.out.1]; exact HYC.out.symm), HU.out.1, HU.out.2] at this
        exact this)
       have HP := Lib.hid (fun W (hW : w.grownBy W none) => rpassX b o n k T u5 W (HH.out.keep hW) i6 d x6 a6 bComma S7.out key_comma HYC.out.symm)
       clear HYC
       obtain ⟨⟨c0, c1, c2, c3, c4⟩, f0, f1, f2, f3, f4⟩ := boxD5 J25.out.st
       go_wp2_with fail
       refine (HP.out _ J25.out.g).mono ?_
       rintro e w26 ⟨⟨i8, x8, a8, rfl, hS8⟩, hg⟩
       have J26 := Lib.hid (J25.out.then hg)
       have D26 := Lib.hid hg
       clear hg
       clear c0 c1 c2 c3 c4 f0 f1 f2 f3 f4
       clear J25
       have S8 := Lib.hid hS8
       clear hS8
       obtain ⟨⟨c0, c1, c2, c3, c4⟩, f0, f1, f2, f3, f4⟩ := boxD5 J26.out.st
       go_wp2_with fail
       go_roundg (13 - (j + 1))
       case measure => omega
       case rel => exact Lib.hid ⟨j + 1, i8, x8, a8, u5.pass, arr2, cap2, l ++ [(⟨vk, vn, vs⟩ : Vl)], by rw [List.length_append, HL.out]; rfl, by omega, by omega, HRt.out, S8.out, J26.out.setS i8 x8 a8, (W25.out.keepG D26.out).putD FB.out (by omega) (grownD5 _ _ _ _ _ _ _), FB.out, fun x hx => by
        rcases List.mem_append.1 hx with hx | hx
        ·exact SZ5.out x hx
        ·obtain rfl := List.mem_singleton.1 hx
         exact HVZ.out⟩
   | false =>
    have HBt := Lib.hid (fun W (hW : w.grownBy W none) => ris_any b o n k T t W (HH.out.keep hW) i2 d x2 a2 bBetween S2.out key_between)
    obtain ⟨yb, hyb⟩ : ∃ yb, yb = t.comes bBetween := ⟨_, rfl⟩
    rw [← hyb] at HBt
    have HYB := Lib.hid hyb
    clear hyb
    obtain ⟨⟨c0, c1, c2, c3, c4⟩, f0, f1, f2, f3, f4⟩ := boxD5 J14.out.st
    go_wp2_with fail
    refine (HBt.out _ J14.out.g).mono ?_
    rintro e w15 ⟨rfl, hg⟩
    have J15 := Lib.hid (J14.out.then hg)
    have D15 := Lib.hid hg
    clear hg
    clear c0 c1 c2 c3 c4 f0 f1 f2 f3 f4
    clear J14
    clear HBt
    cases yb with
    | false =>
     go_upto_region 36 with fail
     have HF := Lib.hid (fun W (hW : w.grownBy W none) => rfail_any b o n k T t W (HH.out.keep hW) i2 d x2 a2 11 S2.out (by decide))
     have hp1 := J15.out.p1
     obtain ⟨y, hy⟩ : ∃ y : Pm, y = .mk 0 col 0 ⟨0, 0, ⟨#[]⟩⟩ ⟨#[]⟩ none 0 [] none 0 [] ps := ⟨_, rfl⟩
     have HY := Lib.hid hy
     have Jy : Hid (ColJ b o n k d w p V i2 x2 a2 y.c.toArray w15) := Lib.hid (by rw [hy]; exact J15.out)
     clear J15 hy
     refine wp_region_held_drew (S := (fun W => Hid (GY w15 W w.heap.size))) (by kernel_rfl) (Lib.hid (GY.of (grown_drewT (grown_reflX _ _)) _)) (fun hHeld => ?_)
     refine TKA (i := 0) (v := .agg #[.slice (some ⟨b, o, none⟩) n k, .int .i64 i2, .int .i64 d, .int .i64 x2, .int .i64 a2]) rfl (yieldsIf_load_mid (by rfl) _ _ rfl w.heap.size 0 rfl _ _ (fun W hS => range_rowD (blkY Jy.out.st hS.out (by omega) (by omega))) Try.underlying81 rfl st_size) ?_
     simp only [Act.put, List.getElem_toArray, List.getElem_cons_zero, List.size_toArray, List.length_cons, List.length_nil, Nat.reduceAdd, Array.replicate, List.replicate, List.setIfInBounds_toArray, List.set_cons_zero, List.set_cons_succ]
     refine TKA (i := 2) (v := .agg y.c.toArray) rfl (yieldsIf_load_mid (by rfl) _ _ rfl p 0 rfl y.c _ (fun W hS => range_rowD (blkY Jy.out.pp hS.out (by omega) (by omega))) Try.underlying34 rfl (show (Try.prog.info? 34).map (·.size) = some y.c.length by rw [Pm.c_len]; exact pred_size)) ?_
     simp only [Act.put, List.getElem_toArray, List.getElem_cons_succ, List.getElem_cons_zero, List.setIfInBounds_toArray, List.set_cons_zero, List.set_cons_succ]
     refine RD1 (i := 1) rfl (fun K' hK => ?_)
     go_simp
     go_at_call 39
     refine (HF.out _ (gq_dr Jy.out.g)).mono ?_
     rintro e w16 ⟨⟨x6, a6, rfl, hS6⟩, hg⟩
     have gd : w15.grownBy w16 none := (grown_drewT (grown_reflX _ _)).trans hg
     have Z16 : Hid (GY w15 w16 w.heap.size) := Lib.hid (GY.of gd _)
     have J16 := Lib.hid (Jy.out.then gd)
     have D16 := Lib.hid gd
     clear gd
     have S6 := Lib.hid hS6
     clear hS6
     clear hg
     refine hK.out _ _ Z16 (fun hHeld => ?_)
     clear hK K'
     simp only [List.setIfInBounds_toArray, List.set_cons_zero, List.set_cons_succ]
     refine RD1 (i := 3) rfl (fun K' hK => ?_)
     refine wp_store_row 81 (.tmp 2) (.tmp 106) rfl (w.heap.size + 1) #[.slice (some ⟨b, o, none⟩) n k, .int .i64 i2, .int .i64 d, .int .i64 x6, .int .i64 a6] (by rfl) (by rfl) 81 #[.slice none 0 0, .int .i64 0, .int .i64 0, .int .i64 0, .int .i64 0] J16.out.rs st_size rfl (by simp [Value.oneCell']) ?_
     have ZR : Hid (GY w15 _ w.heap.size) := Lib.hid (Z16.out.one (grown_setRow w16 (w.heap.size + 1) #[.slice (some ⟨b, o, none⟩) n k, .int .i64 i2, .int .i64 d, .int .i64 x6, .int .i64 a6]) (.inl rfl))
     refine hK.out _ _ ZR (fun hHeld => ?_)
     clear hK K'
     simp only [Act.put, List.getElem_toArray, List.getElem_cons_succ, List.getElem_cons_zero, List.setIfInBounds_toArray, List.set_cons_zero, List.set_cons_succ]
     refine RD1 (i := 4) rfl (fun K' hK => ?_)
     refine wp_store_row 34 (.tmp 3) (.tmp 107) rfl (w.heap.size + 1 + 1) y.c.toArray (by rfl) (by rfl) 34 z10 ((setRow_other _ _ _ _ (by omega)).trans J16.out.rp) (by rw [Pm.c_size]; exact pred_size) (by rw [Pm.c_size]; rfl) (Pm.c_all _) ?_
     have ZI : Hid (GY w15 _ w.heap.size) := Lib.hid (ZR.out.one (grown_setRow _ (w.heap.size + 1 + 1) y.c.toArray) (.inr rfl))
     have hF := J16.out.fin i2 x6 a6 y
     refine hK.out _ _ ZI (fun hHeld => ?_)
     clear hK K'
     simp only [Act.put, List.getElem_toArray, List.getElem_cons_succ, List.getElem_cons_zero, List.setIfInBounds_toArray, List.set_cons_zero, List.set_cons_succ]
     refine wpAnyH_done (by kernel_rfl) ?_ _
     go_wp2_with fail
     refine bodyPost_ret (res_cp rfl _ _ (w.heap.size + 1) (w.heap.size + 1 + 1) _ _ rfl rfl hF.1 hF.2.1 rfl (Pm.c_size _)) rfl ⟨i2, x6, a6, y, rfl, ?_, ?_, ?_, hF.2.2⟩
     ·rw [HRx.out]; exact S6.out.among_bad (fun e => by have := S6.out.err0.2 e; cases this) col pos HYIN.out.symm HYB.out.symm
     ·intro h0; exact absurd (S6.out.err0.2 h0) (by simp [RS.wrong])
     ·rw [HY.out]; exact PmS.leaf ..
    | true =>
     have HRy := Lib.hid (HRx.out.trans (by rw [amongL_between HYIN.out.symm, RS.need_yes HYB.out.symm]))
     have HP := Lib.hid (fun W (hW : w.grownBy W none) => rpassX b o n k T t W (HH.out.keep hW) i2 d x2 a2 bBetween S2.out key_between HYB.out.symm)
     clear HRx HYIN HYB
     go_upto_region 37 with fail
     go_cut [8, 9] from 108 (fun s8 s9 wx => ∃ L U : Nat, s8 = .pointer (some ⟨L, 0, none⟩) ∧ s9 = .pointer (some ⟨U, 0, none⟩) ∧ Hid (BtJ b o n k d w p V i2 x2 a2 #[.int .i64 0, .string col, .int .i64 0, .int .i64 0, .int .i64 0, .string ⟨#[]⟩, .string ⟨#[]⟩, .slice none 0 0, .slice none 0 0, .int .i64 ps] L U #[.int .i64 0, .string col, .int .i64 0, .int .i64 0, .int .i64 0, .string ⟨#[]⟩, .string ⟨#[]⟩, .slice none 0 0, .slice none 0 0, .int .i64 ps] #[.int .i64 0, .string col, .int .i64 0, .int .i64 0, .int .i64 0, .string ⟨#[]⟩, .string ⟨#[]⟩, .slice none 0 0, .slice none 0 0, .int .i64 ps] wx))
     case first =>
      obtain ⟨y, hy⟩ : ∃ y : Pm, y = .mk 0 col 0 ⟨0, 0, ⟨#[]⟩⟩ ⟨#[]⟩ none 0 [] none 0 [] ps := ⟨_, rfl⟩
      have HY := Lib.hid (show #[.int .i64 0, .string col, .int .i64 0, .int .i64 0, .int .i64 0, .string ⟨#[]⟩, .string ⟨#[]⟩, .slice none 0 0, .slice none 0 0, .int .i64 ps] = y.c.toArray by rw [hy]; rfl)
      have Jy : Hid (ColJ b o n k d w p V i2 x2 a2 y.c.toArray w15) := Lib.hid (by rw [hy]; exact J15.out)
      have hlt : V < w15.heap.size := (Array.getElem?_eq_some_iff.1 J15.out.vv.choose_spec.choose_spec.choose_spec).1
      clear J15 hy HP HRy S2
      refine wp_region_held_drew (S := (fun W => Hid (w15.grownBy W none))) (by kernel_rfl) (Lib.hid (grown_drewT (grown_reflX _ _))) (fun hHeld => ?_)
      refine TKA (i := 0) (v := .agg y.c.toArray) rfl (yieldsIf_load_mid (by rfl) _ _ rfl p 0 rfl y.c _ (fun W hS => range_rowD (blkD hS.out Jy.out.pp)) Try.underlying34 rfl (show (Try.prog.info? 34).map (·.size) = some y.c.length by rw [Pm.c_len]; exact pred_size)) ?_
      simp only [Act.put, List.getElem_toArray, List.getElem_cons_zero, List.size_toArray, List.length_cons, List.length_nil, Nat.reduceAdd, Array.replicate, List.replicate, List.setIfInBounds_toArray, List.set_cons_zero, List.set_cons_succ]
      refine TKA (i := 1) (v := .agg y.c.toArray) rfl (yieldsIf_load_mid (by rfl) _ _ rfl p 0 rfl y.c _ (fun W hS => range_rowD (blkD hS.out Jy.out.pp)) Try.underlying34 rfl (show (Try.prog.info? 34).map (·.size) = some y.c.length by rw [Pm.c_len]; exact pred_size)) ?_
      simp only [Act.put, List.getElem_toArray, List.getElem_cons_succ, List.getElem_cons_zero, List.setIfInBounds_toArray, List.set_cons_zero, List.set_cons_succ]
      refine wpAnyH_ready (rs := [2, 3]) (by kernel_rfl) (by simp) ?_
      refine (AllReadyH.cons rfl (fun K' hK => ?_) (AllReadyH.cons rfl (fun K' hK => ?_) AllReadyH.nil))
      ·go_simp
       skip
       refine hK.out _ _ (Lib.hid (gq_al (grown_drewT (grown_reflX _ _)) _)) (fun hHeld => ?_)
       clear hK K'
       simp only [List.setIfInBounds_toArray, List.set_cons_zero, List.set_cons_succ]
       refine RD1 (i := 3) rfl (fun K' hK => ?_)
       go_simp
       skip
       refine hK.out _ _ (Lib.hid (gq_al (gq_al (grown_drewT (grown_reflX _ _)) (.cells #[.int .i64 0, .string ⟨#[]⟩, .int .i64 0, .int .i64 0, .int .i64 0, .string ⟨#[]⟩, .string ⟨#[]⟩, .slice none 0 0, .slice none 0 0, .int .i64 0] 34)) (.cells #[.int .i64 0, .string ⟨#[]⟩, .int .i64 0, .int .i64 0, .int .i64 0, .string ⟨#[]⟩, .string ⟨#[]⟩, .slice none 0 0, .slice none 0 0, .int .i64 0] 34))) (fun hHeld => ?_)
       clear hK K'
       simp only [List.setIfInBounds_toArray, List.set_cons_zero, List.set_cons_succ]
       refine RD1 (i := 4) rfl (fun K' hK => ?_)
       refine wp_store_row 34 (.tmp 8) (.tmp 108) rfl (w15.heap.size) y.c.toArray (by rfl) (by rfl) 34 z10 (alc2a w15.drew _ _) (by rw [Pm.c_size]; exact pred_size) (by rw [Pm.c_size]; rfl) (Pm.c_all _) ?_
       have ZA : Hid (w15.grownBy _ none) := Lib.hid (grown_thenX (gq_al (gq_al (grown_drewT (grown_reflX _ _)) (.cells #[.int .i64 0, .string ⟨#[]⟩, .int .i64 0, .int .i64 0, .int .i64 0, .string ⟨#[]⟩, .string ⟨#[]⟩, .slice none 0 0, .slice none 0 0, .int .i64 0] 34)) (.cells #[.int .i64 0, .string ⟨#[]⟩, .int .i64 0, .int .i64 0, .int .i64 0, .string ⟨#[]⟩, .string ⟨#[]⟩, .slice none 0 0, .slice none 0 0, .int .i64 0] 34)) (grown_setRow ((w15.drew.alloc (.cells #[.int .i64 0, .string ⟨#[]⟩, .int .i64 0, .int .i64 0, .int .i64 0, .string ⟨#[]⟩, .string ⟨#[]⟩, .slice none 0 0, .slice none 0 0, .int .i64 0] 34)).alloc (.cells #[.int .i64 0, .string ⟨#[]⟩, .int .i64 0, .int .i64 0, .int .i64 0, .string ⟨#[]⟩, .string ⟨#[]⟩, .slice none 0 0, .slice none 0 0, .int .i64 0] 34)) (w15.heap.size) y.c.toArray) (fun j e => by cases e; omega))
       refine hK.out _ _ ZA (fun hHeld => ?_)
       clear hK K'
       simp only [Act.put, List.getElem_toArray, List.getElem_cons_succ, List.getElem_cons_zero, List.setIfInBounds_toArray, List.set_cons_zero, List.set_cons_succ]
       refine RD1 (i := 5) rfl (fun K' hK => ?_)
       refine wp_store_row 34 (.tmp 9) (.tmp 109) rfl (w15.heap.size + 1) y.c.toArray (by rfl) (by rfl) 34 z10 ((setRow_other _ _ _ _ (by omega)).trans (alc2b w15.drew _ _)) (by rw [Pm.c_size]; exact pred_size) (by rw [Pm.c_size]; rfl) (Pm.c_all _) ?_
       have ZB : Hid (w15.grownBy _ none) := Lib.hid (grown_thenX ZA.out (grown_setRow _ (w15.heap.size + 1) y.c.toArray) (fun j e => by cases e; omega))
       refine hK.out _ _ ZB (fun hHeld => ?_)
       clear hK K'
       simp only [Act.put, List.getElem_toArray, List.getElem_cons_succ, List.getElem_cons_zero, List.setIfInBounds_toArray, List.set_cons_zero, List.set_cons_succ]
       refine wpAnyH_done (by kernel_rfl) ?_ _
       go_wp2_with fail
       go_meet
       exact ⟨w15.heap.size, w15.heap.size + 1, rfl, rfl, Lib.hid ⟨by rw [HY.out]; exact Jy.out.then ZB.out, by rw [HY.out]; exact (setRow_other _ _ _ _ (by omega)).trans (setRow_heap _ _ _ _ _ _ (alc2a w15.drew _ _)), by rw [HY.out]; exact setRow_heap _ _ _ _ _ _ ((setRow_other _ _ _ _ (by omega)).trans (alc2b w15.drew _ _)), by omega, by omega, by omega⟩⟩
      ·go_simp
       skip
       refine hK.out _ _ (Lib.hid (gq_al (grown_drewT (grown_reflX _ _)) _)) (fun hHeld => ?_)
       clear hK K'
       simp only [List.setIfInBounds_toArray, List.set_cons_zero, List.set_cons_succ]
       refine RD1 (i := 2) rfl (fun K' hK => ?_)
       go_simp
       skip
       refine hK.out _ _ (Lib.hid (gq_al (gq_al (grown_drewT (grown_reflX _ _)) (.cells #[.int .i64 0, .string ⟨#[]⟩, .int .i64 0, .int .i64 0, .int .i64 0, .string ⟨#[]⟩, .string ⟨#[]⟩, .slice none 0 0, .slice none 0 0, .int .i64 0] 34)) (.cells #[.int .i64 0, .string ⟨#[]⟩, .int .i64 0, .int .i64 0, .int .i64 0, .string ⟨#[]⟩, .string ⟨#[]⟩, .slice none 0 0, .slice none 0 0, .int .i64 0] 34))) (fun hHeld => ?_)
       clear hK K'
       simp only [List.setIfInBounds_toArray, List.set_cons_zero, List.set_cons_succ]
       refine RD1 (i := 4) rfl (fun K' hK => ?_)
       refine wp_store_row 34 (.tmp 8) (.tmp 108) rfl (w15.heap.size + 1) y.c.toArray (by rfl) (by rfl) 34 z10 (alc2b w15.drew _ _) (by rw [Pm.c_size]; exact pred_size) (by rw [Pm.c_size]; rfl) (Pm.c_all _) ?_
       have ZA : Hid (w15.grownBy _ none) := Lib.hid (grown_thenX (gq_al (gq_al (grown_drewT (grown_reflX _ _)) (.cells #[.int .i64 0, .string ⟨#[]⟩, .int .i64 0, .int .i64 0, .int .i64 0, .string ⟨#[]⟩, .string ⟨#[]⟩, .slice none 0 0, .slice none 0 0, .int .i64 0] 34)) (.cells #[.int .i64 0, .string ⟨#[]⟩, .int .i64 0, .int .i64 0, .int .i64 0, .string ⟨#[]⟩, .string ⟨#[]⟩, .slice none 0 0, .slice none 0 0, .int .i64 0] 34)) (grown_setRow ((w15.drew.alloc (.cells #[.int .i64 0, .string ⟨#[]⟩, .int .i64 0, .int .i64 0, .int .i64 0, .string ⟨#[]⟩, .string ⟨#[]⟩, .slice none 0 0, .slice none 0 0, .int .i64 0] 34)).alloc (.cells #[.int .i64 0, .string ⟨#[]⟩, .int .i64 0, .int .i64 0, .int .i64 0, .string ⟨#[]⟩, .string ⟨#[]⟩, .slice none 0 0, .slice none 0 0, .int .i64 0] 34)) (w15.heap.size + 1) y.c.toArray) (fun j e => by cases e; omega))
       refine hK.out _ _ ZA (fun hHeld => ?_)
       clear hK K'
       simp only [Act.put, List.getElem_toArray, List.getElem_cons_succ, List.getElem_cons_zero, List.setIfInBounds_toArray, List.set_cons_zero, List.set_cons_succ]
       refine RD1 (i := 5) rfl (fun K' hK => ?_)
       refine wp_store_row 34 (.tmp 9) (.tmp 109) rfl (w15.heap.size) y.c.toArray (by rfl) (by rfl) 34 z10 ((setRow_other _ _ _ _ (by omega)).trans (alc2a w15.drew _ _)) (by rw [Pm.c_size]; exact pred_size) (by rw [Pm.c_size]; rfl) (Pm.c_all _) ?_
       have ZB : Hid (w15.grownBy _ none) := Lib.hid (grown_thenX ZA.out (grown_setRow _ (w15.heap.size) y.c.toArray) (fun j e => by cases e; omega))
       refine hK.out _ _ ZB (fun hHeld => ?_)
       clear hK K'
       simp only [Act.put, List.getElem_toArray, List.getElem_cons_succ, List.getElem_cons_zero, List.setIfInBounds_toArray, List.set_cons_zero, List.set_cons_succ]
       refine wpAnyH_done (by kernel_rfl) ?_ _
       go_wp2_with fail
       go_meet
       exact ⟨w15.heap.size + 1, w15.heap.size, rfl, rfl, Lib.hid ⟨by rw [HY.out]; exact Jy.out.then ZB.out, by rw [HY.out]; exact (setRow_other _ _ _ _ (by omega)).trans (setRow_heap _ _ _ _ _ _ (alc2b w15.drew _ _)), by rw [HY.out]; exact setRow_heap _ _ _ _ _ _ ((setRow_other _ _ _ _ (by omega)).trans (alc2a w15.drew _ _)), by omega, by omega, by omega⟩⟩
     case rest =>
     obtain ⟨L, U, rfl, rfl, hK⟩ := hcut
     obtain ⟨w18, hw18⟩ : ∃ w18, w18 = wc := ⟨_, rfl⟩
     rw [← hw18] at hK ⊢
     have B18 := hK
     have hL1 := hK.out.l1
     have hU1 := hK.out.u1
     have hLU := hK.out.ne
     have hp1 := hK.out.j.p1
     have hp2 := hK.out.j.p2
     clear hK hw18 J15
     obtain ⟨⟨p0, p1, p2, p3, p4⟩, p5, p6, p7, p8, p9⟩ := ten_of B18.out.pl
     obtain ⟨⟨g0, g1, g2, g3, g4⟩, g5, g6, g7, g8, g9⟩ := ten_f B18.out.pl
     go_upto_region 39 with fail
     obtain ⟨w19, hw19⟩ : ∃ w19, w19 = w18.setCell ⟨L, 0, none⟩ (.int .i64 3) := ⟨_, rfl⟩
     have B19 : Hid (BtJ b o n k d w p V i2 x2 a2 #[.int .i64 0, .string col, .int .i64 0, .int .i64 0, .int .i64 0, .string ⟨#[]⟩, .string ⟨#[]⟩, .slice none 0 0, .slice none 0 0, .int .i64 ps] L U #[.int .i64 3, .string col, .int .i64 0, .int .i64 0, .int .i64 0, .string ⟨#[]⟩, .string ⟨#[]⟩, .slice none 0 0, .slice none 0 0, .int .i64 ps] #[.int .i64 0, .string col, .int .i64 0, .int .i64 0, .int .i64 0, .string ⟨#[]⟩, .string ⟨#[]⟩, .slice none 0 0, .slice none 0 0, .int .i64 ps] w19) := Lib.hid (by rw [hw19]; exact B18.out.setL 0 _)
     rw [← hw19]
     clear p0 p1 p2 p3 p4 p5 p6 p7 p8 p9 g0 g1 g2 g3 g4 g5 g6 g7 g8 g9
     clear hw19 B18
     obtain ⟨⟨p0, p1, p2, p3, p4⟩, p5, p6, p7, p8, p9⟩ := ten_of B19.out.pl
     obtain ⟨⟨g0, g1, g2, g3, g4⟩, g5, g6, g7, g8, g9⟩ := ten_f B19.out.pl
     go_upto_region 40 with fail
     obtain ⟨w20, hw20⟩ : ∃ w20, w20 = w19.setCell ⟨L, 2, none⟩ (.int .i64 6) := ⟨_, rfl⟩
     have B20 : Hid (BtJ b o n k d w p V i2 x2 a2 #[.int .i64 0, .string col, .int .i64 0, .int .i64 0, .int .i64 0, .string ⟨#[]⟩, .string ⟨#[]⟩, .slice none 0 0, .slice none 0 0, .int .i64 ps] L U #[.int .i64 3, .string col, .int .i64 6, .int .i64 0, .int .i64 0, .string ⟨#[]⟩, .string ⟨#[]⟩, .slice none 0 0, .slice none 0 0, .int .i64 ps] #[.int .i64 0, .string col, .int .i64 0, .int .i64 0, .int .i64 0, .string ⟨#[]⟩, .string ⟨#[]⟩, .slice none 0 0, .slice none 0 0, .int .i64 ps] w20) := Lib.hid (by rw [hw20]; exact B19.out.setL 2 _)
     rw [← hw20]
     clear p0 p1 p2 p3 p4 p5 p6 p7 p8 p9 g0 g1 g2 g3 g4 g5 g6 g7 g8 g9
     clear hw20 B19
     obtain ⟨⟨p0, p1, p2, p3, p4⟩, p5, p6, p7, p8, p9⟩ := ten_of B20.out.pu
     obtain ⟨⟨g0, g1, g2, g3, g4⟩, g5, g6, g7, g8, g9⟩ := ten_f B20.out.pu
     go_upto_region 41 with fail
     obtain ⟨w21, hw21⟩ : ∃ w21, w21 = w20.setCell ⟨U, 0, none⟩ (.int .i64 3) := ⟨_, rfl⟩
     have B21 : Hid (BtJ b o n k d w p V i2 x2 a2 #[.int .i64 0, .string col, .int .i64 0, .int .i64 0, .int .i64 0, .string ⟨#[]⟩, .string ⟨#[]⟩, .slice none 0 0, .slice none 0 0, .int .i64 ps] L U #[.int .i64 3, .string col, .int .i64 6, .int .i64 0, .int .i64 0, .string ⟨#[]⟩, .string ⟨#[]⟩, .slice none 0 0, .slice none 0 0, .int .i64 ps] #[.int .i64 3, .string col, .int .i64 0, .int .i64 0, .int .i64 0, .string ⟨#[]⟩, .string ⟨#[]⟩, .slice none 0 0, .slice none 0 0, .int .i64 ps] w21) := Lib.hid (by rw [hw21]; exact B20.out.setU 0 _)
     rw [← hw21]
     clear p0 p1 p2 p3 p4 p5 p6 p7 p8 p9 g0 g1 g2 g3 g4 g5 g6 g7 g8 g9
     clear hw21 B20
     obtain ⟨⟨p0, p1, p2, p3, p4⟩, p5, p6, p7, p8, p9⟩ := ten_of B21.out.pu
     obtain ⟨⟨g0, g1, g2, g3, g4⟩, g5, g6, g7, g8, g9⟩ := ten_f B21.out.pu
     go_upto_region 42 with fail
     obtain ⟨w22, hw22⟩ : ∃ w22, w22 = w21.setCell ⟨U, 2, none⟩ (.int .i64 4) := ⟨_, rfl⟩
     have B22 : Hid (BtJ b o n k d w p V i2 x2 a2 #[.int .i64 0, .string col, .int .i64 0, .int .i64 0, .int .i64 0, .string ⟨#[]⟩, .string ⟨#[]⟩, .slice none 0 0, .slice none 0 0, .int .i64 ps] L U #[.int .i64 3, .string col, .int .i64 6, .int .i64 0, .int .i64 0, .string ⟨#[]⟩, .string ⟨#[]⟩, .slice none 0 0, .slice none 0 0, .int .i64 ps] #[.int .i64 3, .string col, .int .i64 4, .int .i64 0, .int .i64 0, .string ⟨#[]⟩, .string ⟨#[]⟩, .slice none 0 0, .slice none 0 0, .int .i64 ps] w22) := Lib.hid (by rw [hw22]; exact B21.out.setU 2 _)
     rw [← hw22]
     clear p0 p1 p2 p3 p4 p5 p6 p7 p8 p9 g0 g1 g2 g3 g4 g5 g6 g7 g8 g9
     clear hw22 B21
     obtain ⟨⟨c0, c1, c2, c3, c4⟩, f0, f1, f2, f3, f4⟩ := boxD5 B22.out.j.st
     go_wp2_with fail
     refine (HP.out _ B22.out.j.g).mono ?_
     rintro e w23 ⟨⟨i3, x3, a3, rfl, hS3⟩, hg⟩
     have B23 := Lib.hid (B22.out.then hg)
     clear hg
     clear c0 c1 c2 c3 c4 f0 f1 f2 f3 f4
     clear B22
     have S3 := Lib.hid hS3
     have HLt := Lib.hid (fun W (hW : w.grownBy W none) => rlit_any b o n k T t.pass W (HH.out.keep hW) i3 d x3 a3 S3.out)
     have hvz := lit_size t.pass
     generalize t.pass.literal = lv at *
     obtain ⟨u6, vk, vn, vs⟩ := lv
     simp only at HLt hvz HRy
     have HVZ := Lib.hid hvz
     clear hS3 HP hvz S3
     obtain ⟨⟨c0, c1, c2, c3, c4⟩, f0, f1, f2, f3, f4⟩ := boxD5 B23.out.j.st
     go_wp2_with fail
     refine (HLt.out _ B23.out.j.g).mono ?_
     rintro e w24 ⟨⟨i4, x4, a4, rfl, hS4⟩, hg⟩
     have B24 := Lib.hid (B23.out.then hg)
     clear hg
     clear c0 c1 c2 c3 c4 f0 f1 f2 f3 f4
     clear B23
     have S4 := Lib.hid hS4
     clear hS4 HLt
     obtain ⟨⟨c0, c1, c2, c3, c4⟩, f0, f1, f2, f3, f4⟩ := boxD5 B24.out.j.st
     have K24 := B24.out.setS i4 x4 a4
     obtain ⟨⟨p0, p1, p2, p3, p4⟩, p5, p6, p7, p8, p9⟩ := ten_of K24.pl
     obtain ⟨⟨g0, g1, g2, g3, g4⟩, g5, g6, g7, g8, g9⟩ := ten_f K24.pl
     go_upto_region 43 with fail
     obtain ⟨w25, hw25⟩ : ∃ w25, w25 = ((((((((w24.setCell ⟨w.heap.size, 0, none⟩ (.slice (some ⟨b, o, none⟩) n k)).setCell ⟨w.heap.size, 1, none⟩ (.int .i64 i4)).setCell ⟨w.heap.size, 2, none⟩ (.int .i64 d)).setCell ⟨w.heap.size, 3, none⟩ (.int .i64 x4)).setCell ⟨w.heap.size, 4, none⟩ (.int .i64 a4)).setCell ⟨L, 3, none⟩ (.int .i64 vk)).setCell ⟨L, 4, none⟩ (.int .i64 vn)).setCell ⟨L, 5, none⟩ (.string vs)) := ⟨_, rfl⟩
     have B25 : Hid (BtJ b o n k d w p V i4 x4 a4 #[.int .i64 0, .string col, .int .i64 0, .int .i64 0, .int .i64 0, .string ⟨#[]⟩, .string ⟨#[]⟩, .slice none 0 0, .slice none 0 0, .int .i64 ps] L U #[.int .i64 3, .string col, .int .i64 6, .int .i64 vk, .int .i64 vn, .string vs, .string ⟨#[]⟩, .slice none 0 0, .slice none 0 0, .int .i64 ps] #[.int .i64 3, .string col, .int .i64 4, .int .i64 0, .int .i64 0, .string ⟨#[]⟩, .string ⟨#[]⟩, .slice none 0 0, .slice none 0 0, .int .i64 ps] w25) := Lib.hid (by rw [hw25]; exact (((K24.setL 3 (.int .i64 vk)).setL 4 (.int .i64 vn)).setL 5 (.string vs)))
     rw [← hw25]
     clear c0 c1 c2 c3 c4 f0 f1 f2 f3 f4
     clear p0 p1 p2 p3 p4 p5 p6 p7 p8 p9 g0 g1 g2 g3 g4 g5 g6 g7 g8 g9
     clear hw25 B24 K24
     have HW := Lib.hid (fun W (hW : w.grownBy W none) => rwant_any b o n k T u6 W (HH.out.keep hW) i4 d x4 a4 bAnd S4.out key_and)
     obtain ⟨⟨c0, c1, c2, c3, c4⟩, f0, f1, f2, f3, f4⟩ := boxD5 B25.out.j.st
     go_wp2_with fail
     refine (HW.out _ B25.out.j.g).mono ?_
     rintro e w26 ⟨⟨i5, x5, a5, rfl, hS5⟩, hg⟩
     have B26 := Lib.hid (B25.out.then hg)
     clear hg
     clear c0 c1 c2 c3 c4 f0 f1 f2 f3 f4
     clear B25
     have S5 := Lib.hid hS5
     have HLt := Lib.hid (fun W (hW : w.grownBy W none) => rlit_any b o n k T (u6.need bAnd) W (HH.out.keep hW) i5 d x5 a5 S5.out)
     have hvz := lit_size (u6.need bAnd)
     generalize (u6.need bAnd).literal = lv at *
     obtain ⟨u7, yk, yn, ys⟩ := lv
     simp only at HLt hvz HRy
     have HYZ := Lib.hid hvz
     clear hS5 HW hvz S5 S4
     obtain ⟨⟨c0, c1, c2, c3, c4⟩, f0, f1, f2, f3, f4⟩ := boxD5 B26.out.j.st
     go_wp2_with fail
     refine (HLt.out _ B26.out.j.g).mono ?_
     rintro e w27 ⟨⟨i6, x6, a6, rfl, hS6⟩, hg⟩
     have B27 := Lib.hid (B26.out.then hg)
     clear hg
     clear c0 c1 c2 c3 c4 f0 f1 f2 f3 f4
     clear B26
     have S6 := Lib.hid hS6
     clear hS6 HLt
     obtain ⟨⟨c0, c1, c2, c3, c4⟩, f0, f1, f2, f3, f4⟩ := boxD5 B27.out.j.st
     have K27 := B27.out.setS i6 x6 a6
     obtain ⟨⟨p0, p1, p2, p3, p4⟩, p5, p6, p7, p8, p9⟩ := ten_of K27.pu
     obtain ⟨⟨g0, g1, g2, g3, g4⟩, g5, g6, g7, g8, g9⟩ := ten_f K27.pu
     go_upto_region 44 with fail
     obtain ⟨w28, hw28⟩ : ∃ w28, w28 = ((((((((w27.setCell ⟨w.heap.size, 0, none⟩ (.slice (some ⟨b, o, none⟩) n k)).setCell ⟨w.heap.size, 1, none⟩ (.int .i64 i6)).setCell ⟨w.heap.size, 2, none⟩ (.int .i64 d)).setCell ⟨w.heap.size, 3, none⟩ (.int .i64 x6)).setCell ⟨w.heap.size, 4, none⟩ (.int .i64 a6)).setCell ⟨U, 3, none⟩ (.int .i64 yk)).setCell ⟨U, 4, none⟩ (.int .i64 yn)).setCell ⟨U, 5, none⟩ (.string ys)) := ⟨_, rfl⟩
     have B28 : Hid (BtJ b o n k d w p V i6 x6 a6 #[.int .i64 0, .string col, .int .i64 0, .int .i64 0, .int .i64 0, .string ⟨#[]⟩, .string ⟨#[]⟩, .slice none 0 0, .slice none 0 0, .int .i64 ps] L U #[.int .i64 3, .string col, .int .i64 6, .int .i64 vk, .int .i64 vn, .string vs, .string ⟨#[]⟩, .slice none 0 0, .slice none 0 0, .int .i64 ps] #[.int .i64 3, .string col, .int .i64 4, .int .i64 yk, .int .i64 yn, .string ys, .string ⟨#[]⟩, .slice none 0 0, .slice none 0 0, .int .i64 ps] w28) := Lib.hid (by rw [hw28]; exact (((K27.setU 3 (.int .i64 yk)).setU 4 (.int .i64 yn)).setU 5 (.string ys)))
     rw [← hw28]
     clear c0 c1 c2 c3 c4 f0 f1 f2 f3 f4
     clear p0 p1 p2 p3 p4 p5 p6 p7 p8 p9 g0 g1 g2 g3 g4 g5 g6 g7 g8 g9
     clear hw28 B27 K27
     have hb0 : p < w28.heap.size := (Array.getElem?_eq_some_iff.1 B28.out.j.pp).1
     have hb1 : V < w28.heap.size := (Array.getElem?_eq_some_iff.1 B28.out.j.vv.choose_spec.choose_spec.choose_spec).1
     refine wp_region_held_drew (S := (fun W => Hid (GY w28 W w.heap.size))) (by kernel_rfl) (Lib.hid (GY.of (grown_drewT (grown_reflX _ _)) _)) (fun hHeld => ?_)
     refine TKA (i := 0) (v := .agg #[.slice (some ⟨b, o, none⟩) n k, .int .i64 i6, .int .i64 d, .int .i64 x6, .int .i64 a6]) rfl (yieldsIf_load_mid (by rfl) _ _ rfl w.heap.size 0 rfl _ _ (fun W hS => range_rowD (blkY B28.out.j.st hS.out (by omega) (by omega))) Try.underlying81 rfl st_size) ?_
     simp only [Act.put, List.getElem_toArray, List.getElem_cons_zero, List.size_toArray, List.length_cons, List.length_nil, Nat.reduceAdd, Array.replicate, List.replicate, List.setIfInBounds_toArray, List.set_cons_zero, List.set_cons_succ]
     refine TKA (i := 1) (v := .agg #[.int .i64 3, .string col, .int .i64 6, .int .i64 vk, .int .i64 vn, .string vs, .string ⟨#[]⟩, .slice none 0 0, .slice none 0 0, .int .i64 ps]) rfl (yieldsIf_load_mid (by rfl) _ _ rfl L 0 rfl _ _ (fun W hS => range_rowD (blkY B28.out.pl hS.out (by omega) (by omega))) Try.underlying34 rfl pred_size) ?_
     simp only [Act.put, List.getElem_toArray, List.getElem_cons_succ, List.getElem_cons_zero, List.setIfInBounds_toArray, List.set_cons_zero, List.set_cons_succ]
     refine TKA (i := 2) (v := .agg #[.int .i64 3, .string col, .int .i64 4, .int .i64 yk, .int .i64 yn, .string ys, .string ⟨#[]⟩, .slice none 0 0, .slice none 0 0, .int .i64 ps]) rfl (yieldsIf_load_mid (by rfl) _ _ rfl U 0 rfl _ _ (fun W hS => range_rowD (blkY B28.out.pu hS.out (by omega) (by omega))) Try.underlying34 rfl pred_size) ?_
     simp only [Act.put, List.getElem_toArray, List.getElem_cons_succ, List.getElem_cons_zero, List.setIfInBounds_toArray, List.set_cons_zero, List.set_cons_succ]
     refine TKB (i := 4) (v := ?vcz) rfl ?ycz ?rcz
     case ycz => (intro w hSw; (try dsimp only at hSw); go_simp; try with_reducible rfl)
     simp only [Act.put, List.getElem_toArray, List.getElem_cons_succ, List.getElem_cons_zero, List.setIfInBounds_toArray, List.set_cons_zero, List.set_cons_succ]
     refine TKB (i := 5) (v := ?vdz) rfl ?ydz ?rdz
     case ydz => (intro w hSw; obtain ⟨⟨p0, p1, p2, p3, p4⟩, p5, p6, p7, p8, p9⟩ := ten_of (blkY B28.out.j.pp hSw.out (by omega) (by omega)); clear hSw; go_simp; try with_reducible rfl)
     simp only [Act.put, List.getElem_toArray, List.getElem_cons_succ, List.getElem_cons_zero, List.setIfInBounds_toArray, List.set_cons_zero, List.set_cons_succ]
     refine TKB (i := 7) (v := ?vez) rfl ?yez ?rez
     case yez => (intro w hSw; (try dsimp only at hSw); go_simp; try with_reducible rfl)
     simp only [Act.put, List.getElem_toArray, List.getElem_cons_succ, List.getElem_cons_zero, List.setIfInBounds_toArray, List.set_cons_zero, List.set_cons_succ]
     refine RD1 (i := 3) rfl (fun K' hK => ?_)
     go_simp
     obtain ⟨w29, hwa⟩ : ∃ w29, w29 = (w28.alloc (.cells #[.int .i64 3, .string col, .int .i64 6, .int .i64 vk, .int .i64 vn, .string vs, .string ⟨#[]⟩, .slice none 0 0, .slice none 0 0, .int .i64 ps, .int .i64 3, .string col, .int .i64 4, .int .i64 yk, .int .i64 yn, .string ys, .string ⟨#[]⟩, .slice none 0 0, .slice none 0 0, .int .i64 ps] 34)).drew := ⟨_, rfl⟩
     have gd : w28.grownBy w29 none := by rw [hwa]; exact gq_dr (gq_al (grown_reflT _ _) _)
     have HB : Hid (w29.heap[w28.heap.size]? = some (.cells ([(.mk 3 col 6 ⟨vk, vn, vs⟩ ⟨#[]⟩ none 0 [] none 0 [] ps : Pm), (.mk 3 col 4 ⟨yk, yn, ys⟩ ⟨#[]⟩ none 0 [] none 0 [] ps : Pm)].flatMap Pm.c).toArray 34 (0, 0))) := Lib.hid (by rw [hwa]; exact alc1 w28 _)
     have hsa : w28.heap.size < w29.heap.size := (Array.getElem?_eq_some_iff.1 HB.out).1
     have ZA : Hid (GY w28 w29 w.heap.size) := Lib.hid (GY.of gd _)
     have J29 := Lib.hid (B28.out.j.then gd)
     have HNo := Lib.hid (fun W (hW : w29.grownBy W none) => rnot_any (V + 1) (.mk 8 ⟨#[]⟩ 0 ⟨0, 0, ⟨#[]⟩⟩ ⟨#[]⟩ none 0 [] (some ⟨w28.heap.size, 0, none⟩) 2 [(.mk 3 col 6 ⟨vk, vn, vs⟩ ⟨#[]⟩ none 0 [] none 0 [] ps : Pm), (.mk 3 col 4 ⟨yk, yn, ys⟩ ⟨#[]⟩ none 0 [] none 0 [] ps : Pm)] ps) ask W ⟨RwS.nil _ _ _, Nat.le_refl _, cells_block (blkD hW HB.out) (by omega), Nat.le_refl _, PmS.leaf .., PmS.leaf .., trivial⟩ (by have := hW.size; omega))
     rw [← hwa]
     clear hwa gd
     refine hK.out _ _ ZA (fun hHeld => ?_)
     clear hK K'
     simp only [List.setIfInBounds_toArray, List.set_cons_zero, List.set_cons_succ]
     refine TKB (i := 6) (v := ?vfz) rfl ?yfz ?rfz
     case yfz => (intro w hSw; (try dsimp only at hSw); go_simp; try with_reducible rfl)
     simp only [Act.put, List.getElem_toArray, List.getElem_cons_succ, List.getElem_cons_zero, List.setIfInBounds_toArray, List.set_cons_zero, List.set_cons_succ]
     refine RD1 (i := 8) rfl (fun K' hK => ?_)
     go_simp
     go_at_call 90
     refine (HNo.out _ (grown_reflT _ _)).mono ?_
     rintro e w30 ⟨⟨y2, rfl, hy2, hP2⟩, hg⟩
     have EQ := Lib.hid hy2
     have P2 := Lib.hid hP2
     have Z30 : Hid (GY w28 w30 w.heap.size) := Lib.hid (ZA.out.grown hg)
     have J30 := Lib.hid (J29.out.then hg)
     clear hy2 hP2 hg
     refine hK.out _ _ Z30 (fun hHeld => ?_)
     clear hK K'
     simp only [List.setIfInBounds_toArray, List.set_cons_zero, List.set_cons_succ]
     refine RD1 (i := 9) rfl (fun K' hK => ?_)
     refine wp_store_row 81 (.tmp 2) (.tmp 128) rfl (w.heap.size + 1) #[.slice (some ⟨b, o, none⟩) n k, .int .i64 i6, .int .i64 d, .int .i64 x6, .int .i64 a6] (by rfl) (by rfl) 81 #[.slice none 0 0, .int .i64 0, .int .i64 0, .int .i64 0, .int .i64 0] J30.out.rs st_size rfl (by simp [Value.oneCell']) ?_
     have ZR : Hid (GY w28 _ w.heap.size) := Lib.hid (Z30.out.one (grown_setRow w30 (w.heap.size + 1) #[.slice (some ⟨b, o, none⟩) n k, .int .i64 i6, .int .i64 d, .int .i64 x6, .int .i64 a6]) (.inl rfl))
     refine hK.out _ _ ZR (fun hHeld => ?_)
     clear hK K'
     simp only [Act.put, List.getElem_toArray, List.getElem_cons_succ, List.getElem_cons_zero, List.setIfInBounds_toArray, List.set_cons_zero, List.set_cons_succ]
     refine RD1 (i := 10) rfl (fun K' hK => ?_)
     refine wp_store_row 34 (.tmp 3) (.tmp 136) rfl (w.heap.size + 1 + 1) y2.c.toArray (by rfl) (by rfl) 34 z10 ((setRow_other _ _ _ _ (by omega)).trans J30.out.rp) (by rw [Pm.c_size]; exact pred_size) (by rw [Pm.c_size]; rfl) (Pm.c_all _) ?_
     have ZI : Hid (GY w28 _ w.heap.size) := Lib.hid (ZR.out.one (grown_setRow _ (w.heap.size + 1 + 1) y2.c.toArray) (.inr rfl))
     have hF := J30.out.fin i6 x6 a6 y2
     refine hK.out _ _ ZI (fun hHeld => ?_)
     clear hK K'
     simp only [Act.put, List.getElem_toArray, List.getElem_cons_succ, List.getElem_cons_zero, List.setIfInBounds_toArray, List.set_cons_zero, List.set_cons_succ]
     refine wpAnyH_done (by kernel_rfl) ?_ _
     go_wp2_with fail
     refine bodyPost_ret (res_cp rfl _ _ (w.heap.size + 1) (w.heap.size + 1 + 1) _ _ rfl rfl hF.1 hF.2.1 rfl (Pm.c_size _)) rfl ⟨i6, x6, a6, y2, rfl, ?_, ?_, ?_, hF.2.2⟩
     ·rw [HRy.out]; exact S6.out
     ·intro _; rw [HRy.out, EQ.out]; cases ask <;> simp [notP, Prd.e, Prd.es, Pm.e, Pm.es]
     ·exact ((P2.out.keep (w' := _) ⟨by simp, fun b' hb' _ => (setRow_other _ _ _ _ (by omega)).trans (setRow_other _ _ _ _ (by omega))⟩).mono (fun j _ hj => by omega))
end Go.Proofs.Ytfambadamebjjaa
namespace Go.Proofs.Ytfambadamebjjaa
open Go.RowKit
structure PrJ (b o n k d : Nat) (w : World) (p i c a : Nat) (x : Array Value) (W : World) : Prop where
 st : W.heap[w.heap.size]? = some (.cells #[.slice (some ⟨b, o, none⟩) n k, .int .i64 i, .int .i64 d, .int .i64 c, .int .i64 a] 81)
 rs : W.heap[w.heap.size + 1]? = some (.cells #[.slice none 0 0, .int .i64 0, .int .i64 0, .int .i64 0, .int .i64 0] 81)
 rp : W.heap[w.heap.size + 1 + 1]? = some (.cells z10 34 (0, 0))
 pp : W.heap[p]? = some (.cells x 34 (0, 0))
 p1 : w.heap.size + 1 + 1 < p
 g : w.grownBy W none
theorem PrJ.then {b o n k d p i c a : Nat} {w W W' : World} {x : Array Value} (h : PrJ b o n k d w p i c a x W) (hg : W.grownBy W' none) : PrJ b o n k d w p i c a x W' :=
 ⟨blkD hg h.st, blkD hg h.rs, blkD hg h.rp, blkD hg h.pp, h.p1, h.g.trans hg⟩
theorem PrJ.setS {b o n k d p i c a : Nat} {w W : World} {x : Array Value} (h : PrJ b o n k d w p i c a x W) (i' c' a' : Nat) : PrJ b o n k d w p i' c' a' x (((((W.setCell ⟨w.heap.size, 0, none⟩ (.slice (some ⟨b, o, none⟩) n k)).setCell ⟨w.heap.size, 1, none⟩ (.int .i64 i')).setCell ⟨w.heap.size, 2, none⟩ (.int .i64 d)).setCell ⟨w.heap.size, 3, none⟩ (.int .i64 c')).setCell ⟨w.heap.size, 4, none⟩ (.int .i64 a')) :=
 have hg := grownD5 W w.heap.size (.slice (some ⟨b, o, none⟩) n k) (.int .i64 i') (.int .i64 d) (.int .i64 c') (.int .i64 a')
 have h1 := h.p1
 ⟨setD5 h.st, blkR h.rs hg (by omega), blkR h.rp hg (by omega), blkR h.pp hg (by omega), h1, grown_thenX h.g hg (fun j e => by cases e; exact Nat.le_refl _)⟩
theorem PrJ.setP {b o n k d p i c a : Nat} {w W : World} {x : Array Value} (h : PrJ b o n k d w p i c a x W) (j : Nat) (u : Value) : PrJ b o n k d w p i c a (x.setIfInBounds j u) (W.setCell ⟨p, j, none⟩ u) :=
 have hg := gq_cellR W p j u
 have h1 := h.p1
 ⟨blkR h.st hg (by omega), blkR h.rs hg (by omega), blkR h.rp hg (by omega), heap_setCell_same _ _ j _ _ u h.pp, h1, grown_thenX h.g hg (fun j e => by cases e; omega)⟩
theorem PrJ.rowS {b o n k d p i c a : Nat} {w W : World} {x : Array Value} (h : PrJ b o n k d w p i c a x W) (i' c' a' : Nat) : PrJ b o n k d w p i' c' a' x (W.setRow w.heap.size #[.slice (some ⟨b, o, none⟩) n k, .int .i64 i', .int .i64 d, .int .i64 c', .int .i64 a']) :=
 have hg := grown_setRow W w.heap.size #[.slice (some ⟨b, o, none⟩) n k, .int .i64 i', .int .i64 d, .int .i64 c', .int .i64 a']
 have h1 := h.p1
 ⟨setRow_heap _ _ _ _ _ _ h.st, blkR h.rs hg (by omega), blkR h.rp hg (by omega), blkR h.pp hg (by omega), h1, grown_thenX h.g hg (fun j e => by cases e; exact Nat.le_refl _)⟩
theorem PrJ.rowP {b o n k d p i c a : Nat} {w W : World} {x : Array Value} (h : PrJ b o n k d w p i c a x W) (y : Array Value) : PrJ b o n k d w p i c a y (W.setRow p y) :=
 have hg := grown_setRow W p y
 have h1 := h.p1
 ⟨blkR h.st hg (by omega), blkR h.rs hg (by omega), blkR h.rp hg (by omega), setRow_heap _ _ _ _ _ _ h.pp, h1, grown_thenX h.g hg (fun j e => by cases e; omega)⟩
theorem PrJ.rowB {b o n k d p i c a g : Nat} {w W : World} {x : Array Value} (h : PrJ b o n k d w p i c a x W) (hg1 : p < g) (y : Array Value) : PrJ b o n k d w p i c a x (W.setRow g y) :=
 have hg := grown_setRow W g y
 have h1 := h.p1
 ⟨blkR h.st hg (by omega), blkR h.rs hg (by omega), blkR h.rp hg (by omega), blkR h.pp hg (by omega), h1, grown_thenX h.g hg (fun j e => by cases e; omega)⟩
theorem PrJ.far3 {b o n k d p i c a g : Nat} {w W : World} {x : Array Value} (h : PrJ b o n k d w p i c a x W) (hg1 : p < g) (u0 u1 u2 : Value) : PrJ b o n k d w p i c a x (((W.setCell ⟨g, 0, none⟩ u0).setCell ⟨g, 1, none⟩ u1).setCell ⟨g, 2, none⟩ u2) :=
 have hg := grownD3 W g u0 u1 u2
 have h1 := h.p1
 ⟨blkR h.st hg (by omega), blkR h.rs hg (by omega), blkR h.rp hg (by omega), blkR h.pp hg (by omega), h1, grown_thenX h.g hg (fun j e => by cases e; omega)⟩
theorem PrJ.fin {b o n k d p i0 c0 a0 : Nat} {w W : World} {x : Array Value} (h : PrJ b o n k d w p i0 c0 a0 x W) (i c a : Nat) (y : Pm) :
  ((W.setRow (w.heap.size + 1) #[.slice (some ⟨b, o, none⟩) n k, .int .i64 i, .int .i64 d, .int .i64 c, .int .i64 a]).setRow (w.heap.size + 1 + 1) y.c.toArray).heap[w.heap.size + 1]? = some (.cells #[.slice (some ⟨b, o, none⟩) n k, .int .i64 i, .int .i64 d, .int .i64 c, .int .i64 a] 81) ∧ ((W.setRow (w.heap.size + 1) #[.slice (some ⟨b, o, none⟩) n k, .int .i64 i, .int .i64 d, .int .i64 c, .int .i64 a]).setRow (w.heap.size + 1 + 1) y.c.toArray).heap[w.heap.size + 1 + 1]? = some (.cells y.c.toArray 34 (0, 0)) ∧ w.grownBy ((W.setRow (w.heap.size + 1) #[.slice (some ⟨b, o, none⟩) n k, .int .i64 i, .int .i64 d, .int .i64 c, .int .i64 a]).setRow (w.heap.size + 1 + 1) y.c.toArray) none := by
 refine ⟨(setRow_other _ _ _ _ (by omega)).trans (setRow_heap _ _ _ _ _ _ h.rs), setRow_heap _ _ _ _ _ _ ((setRow_other _ _ _ _ (by omega)).trans h.rp), ?_⟩
 exact grown_thenX (grown_thenX h.g (grown_setRow _ _ _) (fun j e => by cases e; exact Nat.le_succ _)) (grown_setRow _ _ _) (fun j e => by cases e; omega)
theorem PrJ.begin {b o n k d i c a : Nat} {w W : World} {x : Array Value} (h1 : W.heap[w.heap.size]? = some (.cells #[.slice (some ⟨b, o, none⟩) n k, .int .i64 i, .int .i64 d, .int .i64 c, .int .i64 a] 81)) (h2 : W.heap[w.heap.size + 1]? = some (.cells #[.slice none 0 0, .int .i64 0, .int .i64 0, .int .i64 0, .int .i64 0] 81)) (h3 : W.heap[w.heap.size + 1 + 1]? = some (.cells z10 34 (0, 0))) (hg : w.grownBy W none) :
  PrJ b o n k d w W.heap.size i c a x (W.alloc (.cells x 34)) := by
 have gz := gq_al (grown_reflT W none) (.cells x 34)
 exact ⟨blkD gz h1, blkD gz h2, blkD gz h3, alc1 _ _, (Array.getElem?_eq_some_iff.1 h3).1, hg.trans gz⟩
def OneH (b o n k : Nat) (T : List Tk) (d dm : Nat) : Prop := ∀ (s : RS) (w : World) (_ : TkE b o n k T w) (i c a : Nat) (_ : SR n T s i c a),
 Calls Try.prog 53 #[.agg #[.slice (some ⟨b, o, none⟩) n k, .int .i64 i, .int .i64 d, .int .i64 c, .int .i64 a]] w (PGo b o n k d T (oneF dm s) w)
def AnyH (b o n k : Nat) (T : List Tk) (d dm : Nat) : Prop := ∀ (s : RS) (w : World) (_ : TkE b o n k T w) (i c a : Nat) (_ : SR n T s i c a),
 Calls Try.prog 36 #[.agg #[.slice (some ⟨b, o, none⟩) n k, .int .i64 i, .int .i64 d, .int .i64 c, .int .i64 a], .int .i64 9] w (PGo b o n k d T (anyF dm s) w)
theorem lit_true {t : ByteArray} (h : t = bTrue) : litV t = ⟨1, 1, ⟨#[]⟩⟩ := by subst h; rfl
theorem lit_false {t : ByteArray} (h : t = bFalse) : litV t = ⟨1, 0, ⟨#[]⟩⟩ := by subst h; rfl
theorem lit_one {l : List UInt8} (h : (vlOf (readV l)).k = 1) : l = [84, 82, 85, 69] ∨ l = [70, 65, 76, 83, 69] := by
 unfold readV at h
 by_cases h1 : l = [78, 85, 76, 76]
 ·rw [if_pos h1] at h; simp [vlOf, vlA, vz, vlK] at h
 by_cases h2 : l = [70, 65, 76, 83, 69]
 ·exact .inr h2
 by_cases h3 : l = [84, 82, 85, 69]
 ·exact .inl h3
 rw [if_neg h1, if_neg h2, if_neg h3] at h
 exfalso
 have hi : ∀ x, (vlOf (intRes x)).k ≠ 1 := fun x => by
  unfold intRes
  by_cases a : wrB x = true
  ·rw [if_pos a]
   by_cases b : inI (ival x) = true
   ·rw [if_pos b]; simp [vlOf, vlA, vi, vlK]
   ·rw [if_neg b]; simp [vlOf, vlA, vz, vlK]
  ·rw [if_neg a]; simp [vlOf, vlA, vz, vlK]
 have ht : ∀ x, (vlOf (textRes x)).k ≠ 1 := fun x => by
  cases x with
  | none => simp [textRes, vlOf, vlA, vz, vlK]
  | some t =>
   unfold textRes
   by_cases a : t.length ≤ 60
   ·simp [a, vlOf, vlA, vlK]
   ·simp [a, vlOf, vlA, vz, vlK]
 cases l with
 | nil => exact hi _ h
 | cons c r =>
  dsimp only at h
  split at h
  ·exact ht _ h
  ·exact hi _ h
theorem litP_word {pos : Nat} {s : RS} (hq : relT s.literal.1.hd.text = 0) (hk : s.literal.2.k = 1) : litP pos s = (s.literal.1, .mk (if s.literal.2.n = 1 then 1 else 2) ⟨#[]⟩ 0 ⟨0, 0, ⟨#[]⟩⟩ ⟨#[]⟩ [] [] pos) := by
 unfold litP
 dsimp only
 rw [rel_stay hq, if_pos rfl]
 unfold truthP
 rw [if_pos hk]
theorem litP_bad {pos : Nat} {s : RS} (hq : relT s.literal.1.hd.text = 0) (hk : s.literal.2.k ≠ 1) : (litP pos s).1 = s.literal.1.wrong 11 := by
 unfold litP
 dsimp only
 rw [rel_stay hq, if_pos rfl]
 unfold truthP
 dsimp only
 rw [if_neg hk]
theorem litP_name {pos : Nat} {s : RS} (hq : relT s.literal.1.hd.text ≠ 0) (hn : s.literal.1.pass.named = true) : litP pos s = (s.literal.1.pass.name.1, .mk 3 s.literal.1.pass.name.2 (turnR (relT s.literal.1.hd.text)) s.literal.2 ⟨#[]⟩ [] [] pos) := by
 unfold litP
 dsimp only
 rw [rel_pass hq, if_neg hq, if_pos hn]
theorem litP_two {pos : Nat} {s : RS} (hq : relT s.literal.1.hd.text ≠ 0) (hn : s.literal.1.pass.named = false) : litP pos s = (s.literal.1.pass.literal.1, .mk 11 ⟨#[]⟩ (relT s.literal.1.hd.text) s.literal.2 ⟨#[]⟩ [s.literal.1.pass.literal.2] [] pos) := by
 unfold litP
 dsimp only
 rw [rel_pass hq, if_neg hq, if_neg (by rw [hn]; decide)]
theorem relT_le (t : ByteArray) : relT t ≤ 6 := by
 unfold relT
 repeat' split
 all_goals omega
theorem lit_of {s : RS} {t : ByteArray} (h : s.hd.text = t) (h0 : readC t.data.toList = 0) : s.literal = (s.pass, litV t) := by
 unfold RS.literal; rw [h, if_pos h0]
theorem lit_k {s : RS} (h1 : s.hd.text ≠ bTrue) (h2 : s.hd.text ≠ bFalse) : s.literal.2.k ≠ 1 := by
 unfold RS.literal
 split
 ·intro e
  rcases lit_one e with h | h
  ·exact h1 (bytes_ext (by rw [h]; rfl))
  ·exact h2 (bytes_ext (by rw [h]; rfl))
 ·show (0 : Int) ≠ 1
  decide
theorem rturn_any (q : Nat) (h1 : 1 ≤ q) (h2 : q ≤ 6) (w : World) : Calls Try.prog 86 #[.int .i64 (q : Int)] w fun e w' => e = .returned (.int .i64 ((turnR q : Nat) : Int)) ∧ w.grownBy w' none := by
 rw [← (turn_nat q h1 h2).1]
 exact (refTurned_any q w).mono fun e w' ⟨he, hw⟩ => ⟨he, by rw [hw]; exact grown_reflT _ _⟩
theorem Stays.of_grown2 {S : Nat → Prop} {w w' : World} {g : Nat} (h : w.grownBy w' (some g)) (hS : ∀ j, S j → j ≠ g) : Stays S w w' :=
 ⟨h.size, fun j hj hlt => h.block j hlt (fun e => hS j hj (by cases e; rfl))⟩
theorem need_err {s : RS} {t : ByteArray} (h : (s.need t).err = none) : s.err = none := by
 unfold RS.need at h
 split at h
 ·exact h
 ·simp [RS.wrong] at h
theorem Stays.fin {S : Nat → Prop} {W : World} {g : Nat} {x y : Array Value} (hS : ∀ j, S j → j ≠ g ∧ j ≠ g + 1) : Stays S W ((W.setRow g x).setRow (g + 1) y) :=
 ⟨by simp, fun j hj _ => (setRow_other _ _ _ _ (hS j hj).2).trans (setRow_other _ _ _ _ (hS j hj).1)⟩
set_option linter.unusedSimpArgs false in
set_option linter.unusedVariables false in
set_option maxRecDepth 100000 in
set_option maxHeartbeats 6400000 in
theorem rinner_any (b o n k : Nat) (T : List Tk) (d dm : Nat) (H1 : OneH b o n k T d dm) (H9 : AnyH b o n k T d dm) (s : RS) (w : World) (h : TkE b o n k T w) (i c a : Nat) (hs : SR n T s i c a) (hc : c = 0) :
  Calls Try.prog 75 #[.agg #[.slice (some ⟨b, o, none⟩) n k, .int .i64 i, .int .i64 d, .int .i64 c, .int .i64 a]] w (PGo b o n k d T (oneF (dm + 1) s) w) := by
 have HH := Lib.hid h
 have S0 := Lib.hid hs
 have HC := Lib.hid hc
 have HO := Lib.hid H1
 have HA := Lib.hid H9
 have HNw := Lib.hid (fun W (hW : w.grownBy W none) => rnow_any b o n k T W (h.keep hW) i d c a hs.lt)
 have HNo := Lib.hid (fun W (hW : w.grownBy W none) => ris_any b o n k T s W (h.keep hW) i d c a bNot hs key_not)
 have HOp := Lib.hid (fun W (hW : w.grownBy W none) => ris_any b o n k T s W (h.keep hW) i d c a bOpen hs key_open)
 have A1 := Lib.hid (alc3a w (.cells #[.slice (some ⟨b, o, none⟩) n k, .int .i64 i, .int .i64 d, .int .i64 c, .int .i64 a] 81) (.cells #[.slice none 0 0, .int .i64 0, .int .i64 0, .int .i64 0, .int .i64 0] 81) (.cells z10 34))
 have R1 := Lib.hid (alc3b w (.cells #[.slice (some ⟨b, o, none⟩) n k, .int .i64 i, .int .i64 d, .int .i64 c, .int .i64 a] 81) (.cells #[.slice none 0 0, .int .i64 0, .int .i64 0, .int .i64 0, .int .i64 0] 81) (.cells z10 34))
 have Q1 := Lib.hid (alc3c w (.cells #[.slice (some ⟨b, o, none⟩) n k, .int .i64 i, .int .i64 d, .int .i64 c, .int .i64 a] 81) (.cells #[.slice none 0 0, .int .i64 0, .int .i64 0, .int .i64 0, .int .i64 0] 81) (.cells z10 34))
 have G1 := Lib.hid (gq_al (gq_al (gq_al (grown_reflT w none) (.cells #[.slice (some ⟨b, o, none⟩) n k, .int .i64 i, .int .i64 d, .int .i64 c, .int .i64 a] 81)) (.cells #[.slice none 0 0, .int .i64 0, .int .i64 0, .int .i64 0, .int .i64 0] 81)) (.cells z10 34))
 obtain ⟨r, hr⟩ : ∃ r, r = oneF (dm + 1) s := ⟨_, rfl⟩
 rw [← hr]
 have HR := Lib.hid hr
 have HD : Hid (s.hd = tkA T i) := Lib.hid (by subst hc; exact hs.hd)
 have HZ := Lib.hid (litZ_read h hs)
 generalize (tkA T i) = tk at *
 obtain ⟨kd, tx, ps⟩ := tk
 simp only at HNw
 clear h hs hr hc H1 H9
 go_enter Try.func75, Try.ntmps75
 go_wp2_with fail
 refine (HNw.out _ G1.out).mono ?_
 rintro e w2 ⟨rfl, hg⟩
 have t1 := fieldD2 (.int .i64 kd) (.string tx) (.int .i64 ps) w2
 have A2 := Lib.hid (blkD hg A1.out)
 have R2 := Lib.hid (blkD hg R1.out)
 have Q2 := Lib.hid (blkD hg Q1.out)
 have G2 := Lib.hid (G1.out.trans hg)
 clear hg A1 R1 Q1 G1
 go_upto_region 2 with fail
 have J3 := Lib.hid (PrJ.begin (x := #[.int .i64 0, .string ⟨#[]⟩, .int .i64 0, .int .i64 0, .int .i64 0, .string ⟨#[]⟩, .string ⟨#[]⟩, .slice none 0 0, .slice none 0 0, .int .i64 ps]) A2.out R2.out Q2.out G2.out)
 generalize hw3 : w2.alloc (.cells #[.int .i64 0, .string ⟨#[]⟩, .int .i64 0, .int .i64 0, .int .i64 0, .string ⟨#[]⟩, .string ⟨#[]⟩, .slice none 0 0, .slice none 0 0, .int .i64 ps] 34) = w3 at *
 clear hw3 t1 A2 R2 Q2 G2
 generalize w2.heap.size = p at *
 obtain ⟨yn, hyn⟩ : ∃ yn, yn = s.comes bNot := ⟨_, rfl⟩
 rw [← hyn] at HNo
 have HYN := Lib.hid hyn
 clear hyn
 obtain ⟨⟨c0, c1, c2, c3, c4⟩, f0, f1, f2, f3, f4⟩ := boxD5 J3.out.st
 go_wp2_with fail
 refine (HNo.out _ J3.out.g).mono ?_
 rintro e w4 ⟨rfl, hg⟩
 have J4 := Lib.hid (J3.out.then hg)
 have D4 := Lib.hid hg
 clear hg
 clear c0 c1 c2 c3 c4 f0 f1 f2 f3 f4
 clear J3
 clear HNo
 cases yn with
 | true =>
  have HRx := Lib.hid (HR.out.trans (oneF_not HYN.out.symm))
  have HP := Lib.hid (fun W (hW : w.grownBy W none) => rpassX b o n k T s W (HH.out.keep hW) i d c a bNot S0.out key_not HYN.out.symm)
  clear HR HYN HZ HD HNw HOp HA
  go_upto_region 4 with fail
  have gz := World.grownBy_alloc w4 (.cells #[.int .i64 0, .string ⟨#[]⟩, .int .i64 0, .int .i64 0, .int .i64 0, .string ⟨#[]⟩, .string ⟨#[]⟩, .slice none 0 0, .slice none 0 0, .int .i64 0] 34) none
  have X5 : Hid ((w4.alloc (.cells #[.int .i64 0, .string ⟨#[]⟩, .int .i64 0, .int .i64 0, .int .i64 0, .string ⟨#[]⟩, .string ⟨#[]⟩, .slice none 0 0, .slice none 0 0, .int .i64 0] 34)).heap[w4.heap.size]? = some (.cells #[.int .i64 0, .string ⟨#[]⟩, .int .i64 0, .int .i64 0, .int .i64 0, .string ⟨#[]⟩, .string ⟨#[]⟩, .slice none 0 0, .slice none 0 0, .int .i64 0] 34 (0, 0))) := Lib.hid (alc1 w4 _)
  have hkb : p < w4.heap.size := (Array.getElem?_eq_some_iff.1 J4.out.pp).1
  have J5 := Lib.hid (J4.out.then gz)
  generalize hwz : w4.alloc (.cells #[.int .i64 0, .string ⟨#[]⟩, .int .i64 0, .int .i64 0, .int .i64 0, .string ⟨#[]⟩, .string ⟨#[]⟩, .slice none 0 0, .slice none 0 0, .int .i64 0] 34) = w5 at *
  generalize w4.heap.size = kb at *
  clear gz hwz J4
  obtain ⟨⟨c0, c1, c2, c3, c4⟩, f0, f1, f2, f3, f4⟩ := boxD5 J5.out.st
  go_wp2_with fail
  refine (HP.out _ J5.out.g).mono ?_
  rintro e w6 ⟨⟨i2, x2, a2, rfl, hS2⟩, hg⟩
  have J6 := Lib.hid (J5.out.then hg)
  have D6 := Lib.hid hg
  clear hg
  have X6 := Lib.hid (blkD D6.out X5.out)
  clear X5
  clear c0 c1 c2 c3 c4 f0 f1 f2 f3 f4
  clear J5
  have S2 := Lib.hid hS2
  have H1 := Lib.hid (fun W (hW : w.grownBy W none) => HO.out s.pass W (HH.out.keep hW) i2 x2 a2 S2.out)
  clear hS2 HP
  have hbig := (Array.getElem?_eq_some_iff.1 X6.out).1
  obtain ⟨⟨c0, c1, c2, c3, c4⟩, f0, f1, f2, f3, f4⟩ := boxD5 J6.out.st
  go_wp2_with fail
  refine (H1.out _ J6.out.g).mono ?_
  rintro e w7 ⟨i3, x3, a3, y, rfl, hS3, hE3, hM3, hg⟩
  have J7 := Lib.hid (J6.out.then hg)
  have D7 := Lib.hid hg
  clear hg
  have X7 := Lib.hid (blkD D7.out X6.out)
  clear X6
  clear c0 c1 c2 c3 c4 f0 f1 f2 f3 f4
  clear J6
  have S3 := Lib.hid hS3
  have E3 := Lib.hid hE3
  have M3 := Lib.hid hM3
  clear hS3 hE3 hM3 H1
  have y1 := y.c_size
  have y2 := y.c_all
  have hp1 := J7.out.p1
  simp only [Pm.v]
  have Hcs : Hid (y.c.toArray = y.c.toArray) := Lib.hid rfl
  generalize hcs : y.c.toArray = cs at *
  have HCS := Lib.hid hcs
  clear hcs Hcs
  have K := J7.out.rowS i3 x3 a3
  have KF : Hid ((w7.setRow w.heap.size #[.slice (some ⟨b, o, none⟩) n k, .int .i64 i3, .int .i64 d, .int .i64 x3, .int .i64 a3]).heap[kb]? = some (.cells #[.int .i64 0, .string ⟨#[]⟩, .int .i64 0, .int .i64 0, .int .i64 0, .string ⟨#[]⟩, .string ⟨#[]⟩, .slice none 0 0, .slice none 0 0, .int .i64 0] 34 (0, 0))) := Lib.hid (blkR X7.out (grown_setRow _ _ _) (by omega))
  go_upto_region 5 with first
   | (refine wpList_store_row rfl 81 (.tmp 1) (.tmp 20) rfl w.heap.size #[.slice (some ⟨b, o, none⟩) n k, .int .i64 i3, .int .i64 d, .int .i64 x3, .int .i64 a3] rfl rfl 81 #[.slice (some ⟨b, o, none⟩) n k, .int .i64 i, .int .i64 d, .int .i64 c, .int .i64 a] J7.out.st st_size rfl (by simp [Value.oneCell']) ?_)
   | (refine wpList_store_row rfl 34 (.tmp 5) (.tmp 21) rfl kb cs rfl rfl 34 #[.int .i64 0, .string ⟨#[]⟩, .int .i64 0, .int .i64 0, .int .i64 0, .string ⟨#[]⟩, .string ⟨#[]⟩, .slice none 0 0, .slice none 0 0, .int .i64 0] KF.out (by rw [y1]; exact pred_size) (by rw [y1]; rfl) y2 ?_)
  obtain ⟨w8, hw8⟩ : ∃ w8, w8 = (w7.setRow w.heap.size #[.slice (some ⟨b, o, none⟩) n k, .int .i64 i3, .int .i64 d, .int .i64 x3, .int .i64 a3]).setRow kb cs := ⟨_, rfl⟩
  have J8 : Hid (PrJ b o n k d w p i3 x3 a3 #[.int .i64 0, .string ⟨#[]⟩, .int .i64 0, .int .i64 0, .int .i64 0, .string ⟨#[]⟩, .string ⟨#[]⟩, .slice none 0 0, .slice none 0 0, .int .i64 ps] w8) := Lib.hid (by rw [hw8]; exact K.rowB hkb cs)
  have X8 : Hid (w8.heap[kb]? = some (.cells cs 34 (0, 0))) := Lib.hid (by rw [hw8]; exact setRow_heap _ _ _ _ _ _ KF.out)
  have M8 : Hid (PmS (fun j => kb < j) w8 y) := Lib.hid (by rw [hw8]; exact ((M3.out.mono (fun j _ hj => Nat.lt_of_lt_of_le hbig hj)).keep (.of_grown2 (grown_setRow _ _ _) (fun j hj => by omega))).keep (.of_grown2 (grown_setRow _ _ _) (fun j hj => by omega)))
  rw [← hw8]
  clear K KF hw8 J7 X7 M3 hbig
  obtain ⟨⟨p0, p1, p2, p3, p4⟩, p5, p6, p7, p8, p9⟩ := ten_of J8.out.pp
  obtain ⟨⟨g0, g1, g2, g3, g4⟩, g5, g6, g7, g8, g9⟩ := ten_f J8.out.pp
  go_upto_region 6 with fail
  obtain ⟨w9, hw9⟩ : ∃ w9, w9 = w8.setCell ⟨p, 0, none⟩ (.int .i64 10) := ⟨_, rfl⟩
  have J9 : Hid (PrJ b o n k d w p i3 x3 a3 #[.int .i64 10, .string ⟨#[]⟩, .int .i64 0, .int .i64 0, .int .i64 0, .string ⟨#[]⟩, .string ⟨#[]⟩, .slice none 0 0, .slice none 0 0, .int .i64 ps] w9) := Lib.hid (by rw [hw9]; exact J8.out.setP 0 _)
  have X9 : Hid (w9.heap[kb]? = some (.cells cs 34 (0, 0))) := Lib.hid (by rw [hw9]; exact blkR X8.out (gq_cellR _ _ _ _) (by omega))
  have M9 : Hid (PmS (fun j => kb < j) w9 y) := Lib.hid (by rw [hw9]; exact M8.out.keep (.of_grown2 (gq_cellR _ _ _ _) (fun j hj => by omega)))
  rw [← hw9]
  clear p0 p1 p2 p3 p4 p5 p6 p7 p8 p9 g0 g1 g2 g3 g4 g5 g6 g7 g8 g9
  clear hw9 J8 X8 M8
  obtain ⟨⟨p0, p1, p2, p3, p4⟩, p5, p6, p7, p8, p9⟩ := ten_of J9.out.pp
  obtain ⟨⟨g0, g1, g2, g3, g4⟩, g5, g6, g7, g8, g9⟩ := ten_f J9.out.pp
  have b8 : ∀ o : Obj, (w9.alloc o).cell? ⟨p, 8, none⟩ = some (.slice none 0 0) := fun o => (World.grownBy_alloc w9 o none).cell (by simpa using p8) (by simp)
  have d8 : ∀ o : Obj, (w9.alloc o).frozen? ⟨p, 8, none⟩ = false := fun o => frozen_of_row _ _ 8 _ _ (blkD (World.grownBy_alloc w9 o none) J9.out.pp)
  clear p0 p1 p2 p3 p4 p5 p6 p7 p8 p9 g0 g1 g2 g3 g4 g5 g6 g7 g8 g9
  go_upto_region 7 with (refine wpList_load_row rfl 34 (.tmp 5) rfl kb rfl 34 cs (0, 0) _ X9.out Try.underlying34 rfl (by rw [y1]; exact pred_size) ?_)
  rw [fold_tenD y1]
  clear b8 d8
  have ga := World.grownBy_alloc w9 (.cells cs 34) none
  have ba := alc1 w9 (.cells cs 34)
  have hkq : kb < w9.heap.size := (Array.getElem?_eq_some_iff.1 X9.out).1
  obtain ⟨w10, hw10⟩ : ∃ w10, w10 = (w9.alloc (.cells cs 34)).setCell ⟨p, 8, none⟩ (.slice (some ⟨w9.heap.size, 0, none⟩) 1 1) := ⟨_, rfl⟩
  have J10 : Hid (PrJ b o n k d w p i3 x3 a3 #[.int .i64 10, .string ⟨#[]⟩, .int .i64 0, .int .i64 0, .int .i64 0, .string ⟨#[]⟩, .string ⟨#[]⟩, .slice none 0 0, .slice (some ⟨w9.heap.size, 0, none⟩) 1 1, .int .i64 ps] w10) := Lib.hid (by rw [hw10]; exact (J9.out.then ga).setP 8 _)
  have HPm : Hid (PmS (fun j => p < j) w10 (.mk 10 ⟨#[]⟩ 0 ⟨0, 0, ⟨#[]⟩⟩ ⟨#[]⟩ none 0 [] (some ⟨w9.heap.size, 0, none⟩) 1 [y] ps)) := Lib.hid (by
   rw [hw10]
   exact ⟨RwS.nil _ _ _, Nat.le_refl _, one_cells (T := 34) (x := y) (g := w9.heap.size) (by rw [HCS.out]; exact blkR ba (gq_cellR _ _ _ _) (by omega)) (by omega), Nat.le_refl _, ((M9.out.mono (fun j _ hj => Nat.lt_trans hkb hj)).keep (.of ga)).keep (.of_grown2 (gq_cellR _ _ _ _) (fun j hj => by omega)), trivial⟩)
  rw [← hw10]
  clear hw10 ga ba J9 X9 M9
  clear hkq hkb y1 y2
  obtain ⟨gq, hgq⟩ : ∃ gq, gq = w9.heap.size := ⟨_, rfl⟩
  rw [← hgq] at HPm J10
  simp only [← hgq]
  clear hgq
  obtain ⟨y0, hy0⟩ : ∃ y0, y0 = y := ⟨_, rfl⟩
  rw [← hy0] at HPm E3
  clear hy0 HCS
  have hp1 := J10.out.p1
  obtain ⟨y, hy⟩ : ∃ y : Pm, y = .mk 10 ⟨#[]⟩ 0 ⟨0, 0, ⟨#[]⟩⟩ ⟨#[]⟩ none 0 [] (some ⟨gq, 0, none⟩) 1 [y0] ps := ⟨_, rfl⟩
  have HY := Lib.hid hy
  have Jy : Hid (PrJ b o n k d w p i3 x3 a3 y.c.toArray w10) := Lib.hid (by rw [hy]; exact J10.out)
  clear J10 hy
  refine wp_region_held_drew (S := (fun W => Hid (GY w10 W w.heap.size))) (by kernel_rfl) (Lib.hid (GY.of (grown_drewT (grown_reflX _ _)) _)) (fun hHeld => ?_)
  refine TKA (i := 0) (v := .agg #[.slice (some ⟨b, o, none⟩) n k, .int .i64 i3, .int .i64 d, .int .i64 x3, .int .i64 a3]) rfl (yieldsIf_load_mid (by rfl) _ _ rfl w.heap.size 0 rfl _ _ (fun W hS => range_rowD (blkY Jy.out.st hS.out (by omega) (by omega))) Try.underlying81 rfl st_size) ?_
  simp only [Act.put, List.getElem_toArray, List.getElem_cons_zero, List.size_toArray, List.length_cons, List.length_nil, Nat.reduceAdd, Array.replicate, List.replicate, List.setIfInBounds_toArray, List.set_cons_zero, List.set_cons_succ]
  refine TKA (i := 1) (v := .agg y.c.toArray) rfl (yieldsIf_load_mid (by rfl) _ _ rfl p 0 rfl y.c _ (fun W hS => range_rowD (blkY Jy.out.pp hS.out (by omega) (by omega))) Try.underlying34 rfl (show (Try.prog.info? 34).map (·.size) = some y.c.length by rw [Pm.c_len]; exact pred_size)) ?_
  simp only [Act.put, List.getElem_toArray, List.getElem_cons_succ, List.getElem_cons_zero, List.setIfInBounds_toArray, List.set_cons_zero, List.set_cons_succ]
  refine RD1 (i := 2) rfl (fun K' hK => ?_)
  obtain ⟨w11, hw11⟩ : ∃ w11, w11 = w10.drew := ⟨_, rfl⟩
  have gd : w10.grownBy w11 none := by rw [hw11]; exact grown_drewT (grown_reflX _ _)
  have Z11 : Hid (GY w10 w11 w.heap.size) := Lib.hid (GY.of gd _)
  have J11 := Lib.hid (Jy.out.then gd)
  have D11 := Lib.hid gd
  rw [← hw11]
  clear hw11 gd
  refine wp_store_row 81 (.tmp 2) (.tmp 26) rfl (w.heap.size + 1) #[.slice (some ⟨b, o, none⟩) n k, .int .i64 i3, .int .i64 d, .int .i64 x3, .int .i64 a3] (by rfl) (by rfl) 81 #[.slice none 0 0, .int .i64 0, .int .i64 0, .int .i64 0, .int .i64 0] J11.out.rs st_size rfl (by simp [Value.oneCell']) ?_
  have ZR : Hid (GY w10 _ w.heap.size) := Lib.hid (Z11.out.one (grown_setRow w11 (w.heap.size + 1) #[.slice (some ⟨b, o, none⟩) n k, .int .i64 i3, .int .i64 d, .int .i64 x3, .int .i64 a3]) (.inl rfl))
  refine hK.out _ _ ZR (fun hHeld => ?_)
  clear hK K'
  simp only [Act.put, List.getElem_toArray, List.getElem_cons_succ, List.getElem_cons_zero, List.setIfInBounds_toArray, List.set_cons_zero, List.set_cons_succ]
  refine RD1 (i := 3) rfl (fun K' hK => ?_)
  refine wp_store_row 34 (.tmp 3) (.tmp 27) rfl (w.heap.size + 1 + 1) y.c.toArray (by rfl) (by rfl) 34 z10 ((setRow_other _ _ _ _ (by omega)).trans J11.out.rp) (by rw [Pm.c_size]; exact pred_size) (by rw [Pm.c_size]; rfl) (Pm.c_all _) ?_
  have ZI : Hid (GY w10 _ w.heap.size) := Lib.hid (ZR.out.one (grown_setRow _ (w.heap.size + 1 + 1) y.c.toArray) (.inr rfl))
  have hF := J11.out.fin i3 x3 a3 y
  refine hK.out _ _ ZI (fun hHeld => ?_)
  clear hK K'
  simp only [Act.put, List.getElem_toArray, List.getElem_cons_succ, List.getElem_cons_zero, List.setIfInBounds_toArray, List.set_cons_zero, List.set_cons_succ]
  refine wpAnyH_done (by kernel_rfl) ?_ _
  go_wp2_with fail
  refine bodyPost_ret (res_cp rfl _ _ (w.heap.size + 1) (w.heap.size + 1 + 1) _ _ rfl rfl hF.1 hF.2.1 rfl (Pm.c_size _)) rfl ⟨i3, x3, a3, y, rfl, ?_, ?_, ?_, hF.2.2⟩
  ·rw [HRx.out]; exact S3.out
  ·intro h0; rw [HRx.out, HY.out]; simp [notP, Prd.e, Prd.es, Pm.e, Pm.es, E3.out h0]
  ·rw [HY.out]; exact ((HPm.out.keep (.of D11.out)).keep (.fin (g := w.heap.size + 1) (fun j hj => by omega))).mono (fun j _ hj => by omega)
 | false =>
  obtain ⟨yo, hyo⟩ : ∃ yo, yo = s.comes bOpen := ⟨_, rfl⟩
  rw [← hyo] at HOp
  have HYO := Lib.hid hyo
  clear hyo
  obtain ⟨⟨c0, c1, c2, c3, c4⟩, f0, f1, f2, f3, f4⟩ := boxD5 J4.out.st
  go_wp2_with fail
  refine (HOp.out _ J4.out.g).mono ?_
  rintro e w5 ⟨rfl, hg⟩
  have J5 := Lib.hid (J4.out.then hg)
  have D5 := Lib.hid hg
  clear hg
  clear c0 c1 c2 c3 c4 f0 f1 f2 f3 f4
  clear J4
  clear HOp
  cases yo with
  | true =>
   have HRx := Lib.hid (HR.out.trans (oneF_open HYN.out.symm HYO.out.symm))
   have HP := Lib.hid (fun W (hW : w.grownBy W none) => rpassX b o n k T s W (HH.out.keep hW) i d c a bOpen S0.out key_open HYO.out.symm)
   clear HR HYN HYO HZ HD HNw HO
   obtain ⟨⟨c0, c1, c2, c3, c4⟩, f0, f1, f2, f3, f4⟩ := boxD5 J5.out.st
   go_wp2_with fail
   refine (HP.out _ J5.out.g).mono ?_
   rintro e w6 ⟨⟨i2, x2, a2, rfl, hS2⟩, hg⟩
   have J6 := Lib.hid (J5.out.then hg)
   have D6 := Lib.hid hg
   clear hg
   clear c0 c1 c2 c3 c4 f0 f1 f2 f3 f4
   clear J5
   have S2 := Lib.hid hS2
   have H1 := Lib.hid (fun W (hW : w.grownBy W none) => HA.out s.pass W (HH.out.keep hW) i2 x2 a2 S2.out)
   clear hS2 HP
   have hbig := (Array.getElem?_eq_some_iff.1 J6.out.pp).1
   obtain ⟨⟨c0, c1, c2, c3, c4⟩, f0, f1, f2, f3, f4⟩ := boxD5 J6.out.st
   go_wp2_with fail
   refine (H1.out _ J6.out.g).mono ?_
   rintro e w7 ⟨i3, x3, a3, y, rfl, hS3, hE3, hM3, hg⟩
   have J7 := Lib.hid (J6.out.then hg)
   have D7 := Lib.hid hg
   clear hg
   clear c0 c1 c2 c3 c4 f0 f1 f2 f3 f4
   clear J6
   have S3 := Lib.hid hS3
   have E3 := Lib.hid hE3
   have M3 := Lib.hid hM3
   clear hS3 hE3 hM3 H1
   have y1 := y.c_size
   have y2 := y.c_all
   have hp1 := J7.out.p1
   simp only [Pm.v]
   obtain ⟨cs, HCS⟩ : ∃ cs, cs = y.c.toArray := ⟨_, rfl⟩
   rw [← HCS] at y1 y2
   simp only [← HCS]
   have HCS2 := Lib.hid HCS
   clear HCS
   have K := J7.out.rowS i3 x3 a3
   have KF := Lib.hid K.pp
   go_upto_region 10 with first
    | (refine wpList_store_row rfl 81 (.tmp 1) (.tmp 34) rfl w.heap.size #[.slice (some ⟨b, o, none⟩) n k, .int .i64 i3, .int .i64 d, .int .i64 x3, .int .i64 a3] rfl rfl 81 #[.slice (some ⟨b, o, none⟩) n k, .int .i64 i, .int .i64 d, .int .i64 c, .int .i64 a] J7.out.st st_size rfl (by simp [Value.oneCell']) ?_)
    | (refine wpList_store_row rfl 34 (.tmp 4) (.tmp 35) rfl p cs rfl rfl 34 #[.int .i64 0, .string ⟨#[]⟩, .int .i64 0, .int .i64 0, .int .i64 0, .string ⟨#[]⟩, .string ⟨#[]⟩, .slice none 0 0, .slice none 0 0, .int .i64 ps] KF.out (by rw [y1]; exact pred_size) (by rw [y1]; rfl) y2 ?_)
   obtain ⟨w8, hw8⟩ : ∃ w8, w8 = (w7.setRow w.heap.size #[.slice (some ⟨b, o, none⟩) n k, .int .i64 i3, .int .i64 d, .int .i64 x3, .int .i64 a3]).setRow p cs := ⟨_, rfl⟩
   have J8 : Hid (PrJ b o n k d w p i3 x3 a3 y.c.toArray w8) := Lib.hid (by rw [hw8, ← HCS2.out]; exact K.rowP cs)
   have HPm : Hid (PmS (fun j => p < j) w8 y) := Lib.hid (by rw [hw8]; exact ((M3.out.mono (fun j _ hj => Nat.lt_of_lt_of_le hbig hj)).keep (.of_grown2 (grown_setRow _ _ _) (fun j hj => by omega))).keep (.of_grown2 (grown_setRow _ _ _) (fun j hj => by omega)))
   rw [← hw8]
   clear K KF hw8 J7 M3 hbig
   rw [HCS2.out] at y1 y2
   simp only [HCS2.out]
   clear HCS2
   have HW := Lib.hid (fun W (hW : w.grownBy W none) => rwant_any b o n k T (anyF dm s.pass).1 W (HH.out.keep hW) i3 d x3 a3 bShut S3.out key_shut)
   obtain ⟨y0, hy0⟩ : ∃ y0, y0 = y := ⟨_, rfl⟩
   rw [← hy0] at HPm E3 J8
   simp only [← hy0]
   clear hy0 y1 y2 hp1
   have hp1 := J8.out.p1
   obtain ⟨y, hy⟩ : ∃ y : Pm, y = y0 := ⟨_, rfl⟩
   have HY := Lib.hid hy
   have Jy : Hid (PrJ b o n k d w p i3 x3 a3 y.c.toArray w8) := Lib.hid (by rw [hy]; exact J8.out)
   clear J8 hy
   refine wp_region_held_drew (S := (fun W => Hid (GY w8 W w.heap.size))) (by kernel_rfl) (Lib.hid (GY.of (grown_drewT (grown_reflX _ _)) _)) (fun hHeld => ?_)
   refine TKA (i := 0) (v := .agg #[.slice (some ⟨b, o, none⟩) n k, .int .i64 i3, .int .i64 d, .int .i64 x3, .int .i64 a3]) rfl (yieldsIf_load_mid (by rfl) _ _ rfl w.heap.size 0 rfl _ _ (fun W hS => range_rowD (blkY Jy.out.st hS.out (by omega) (by omega))) Try.underlying81 rfl st_size) ?_
   simp only [Act.put, List.getElem_toArray, List.getElem_cons_zero, List.size_toArray, List.length_cons, List.length_nil, Nat.reduceAdd, Array.replicate, List.replicate, List.setIfInBounds_toArray, List.set_cons_zero, List.set_cons_succ]
   refine TKA (i := 2) (v := .agg y.c.toArray) rfl (yieldsIf_load_mid (by rfl) _ _ rfl p 0 rfl y.c _ (fun W hS => range_rowD (blkY Jy.out.pp hS.out (by omega) (by omega))) Try.underlying34 rfl (show (Try.prog.info? 34).map (·.size) = some y.c.length by rw [Pm.c_len]; exact pred_size)) ?_
   simp only [Act.put, List.getElem_toArray, List.getElem_cons_succ, List.getElem_cons_zero, List.setIfInBounds_toArray, List.set_cons_zero, List.set_cons_succ]
   refine RD1 (i := 1) rfl (fun K' hK => ?_)
   go_simp
   go_at_call 31
   refine (HW.out _ (gq_dr Jy.out.g)).mono ?_
   rintro e w9 ⟨⟨i5, x5, a5, rfl, hS5⟩, hg⟩
   have gd : w8.grownBy w9 none := (grown_drewT (grown_reflX _ _)).trans hg
   have Z9 : Hid (GY w8 w9 w.heap.size) := Lib.hid (GY.of gd _)
   have J9 := Lib.hid (Jy.out.then gd)
   have D9 := Lib.hid gd
   clear gd
   have S5 := Lib.hid hS5
   clear hS5
   clear hg
   refine hK.out _ _ Z9 (fun hHeld => ?_)
   clear hK K'
   simp only [List.setIfInBounds_toArray, List.set_cons_zero, List.set_cons_succ]
   refine RD1 (i := 3) rfl (fun K' hK => ?_)
   refine wp_store_row 81 (.tmp 2) (.tmp 37) rfl (w.heap.size + 1) #[.slice (some ⟨b, o, none⟩) n k, .int .i64 i5, .int .i64 d, .int .i64 x5, .int .i64 a5] (by rfl) (by rfl) 81 #[.slice none 0 0, .int .i64 0, .int .i64 0, .int .i64 0, .int .i64 0] J9.out.rs st_size rfl (by simp [Value.oneCell']) ?_
   have ZR : Hid (GY w8 _ w.heap.size) := Lib.hid (Z9.out.one (grown_setRow w9 (w.heap.size + 1) #[.slice (some ⟨b, o, none⟩) n k, .int .i64 i5, .int .i64 d, .int .i64 x5, .int .i64 a5]) (.inl rfl))
   refine hK.out _ _ ZR (fun hHeld => ?_)
   clear hK K'
   simp only [Act.put, List.getElem_toArray, List.getElem_cons_succ, List.getElem_cons_zero, List.setIfInBounds_toArray, List.set_cons_zero, List.set_cons_succ]
   refine RD1 (i := 4) rfl (fun K' hK => ?_)
   refine wp_store_row 34 (.tmp 3) (.tmp 38) rfl (w.heap.size + 1 + 1) y.c.toArray (by rfl) (by rfl) 34 z10 ((setRow_other _ _ _ _ (by omega)).trans J9.out.rp) (by rw [Pm.c_size]; exact pred_size) (by rw [Pm.c_size]; rfl) (Pm.c_all _) ?_
   have ZI : Hid (GY w8 _ w.heap.size) := Lib.hid (ZR.out.one (grown_setRow _ (w.heap.size + 1 + 1) y.c.toArray) (.inr rfl))
   have hF := J9.out.fin i5 x5 a5 y
   refine hK.out _ _ ZI (fun hHeld => ?_)
   clear hK K'
   simp only [Act.put, List.getElem_toArray, List.getElem_cons_succ, List.getElem_cons_zero, List.setIfInBounds_toArray, List.set_cons_zero, List.set_cons_succ]
   refine wpAnyH_done (by kernel_rfl) ?_ _
   go_wp2_with fail
   refine bodyPost_ret (res_cp rfl _ _ (w.heap.size + 1) (w.heap.size + 1 + 1) _ _ rfl rfl hF.1 hF.2.1 rfl (Pm.c_size _)) rfl ⟨i5, x5, a5, y, rfl, ?_, ?_, ?_, hF.2.2⟩
   ·rw [HRx.out]; exact S5.out
   ·intro h0; rw [HRx.out, HY.out]; exact E3.out (S3.out.err0.1 (need_err (S5.out.err0.2 h0)))
   ·rw [HY.out]; exact ((HPm.out.keep (.of D9.out)).keep (.fin (g := w.heap.size + 1) (fun j hj => by omega))).mono (fun j _ hj => by omega)
  | false =>
   have hkd : s.named = decide (kd = 1) := by unfold RS.named; rw [HD.out]
   obtain ⟨⟨c0, c1, c2, c3, c4⟩, f0, f1, f2, f3, f4⟩ := boxD5 J5.out.st
   go_wp2_with fail
   refine (HNw.out _ J5.out.g).mono ?_
   rintro e w6 ⟨rfl, hg⟩
   have J6 := Lib.hid (J5.out.then hg)
   have D6 := Lib.hid hg
   clear hg
   clear c0 c1 c2 c3 c4 f0 f1 f2 f3 f4
   clear J5
   have t2 := fieldD0 (.int .i64 kd) (.string tx) (.int .i64 ps) w6
   by_cases hk1 : kd = 1
   ·have k1 : ((kd : Int) == 1) = true := by rw [hk1]; rfl
    have HK1 := Lib.hid hk1
    clear hk1
    have HRx := Lib.hid (HR.out.trans (oneF_name HYN.out.symm HYO.out.symm (hkd.trans (decide_eq_true HK1.out))))
    have HCo := Lib.hid (fun W (hW : w.grownBy W none) => rcolumn_any b o n k T s W (HH.out.keep hW) i d c a S0.out s.hd.pos)
    clear HR HYN HYO HZ HD HNw HO HA hkd
    go_upto_region 12 with fail
    have hbg := (Array.getElem?_eq_some_iff.1 J6.out.pp).1
    clear k1 t2 HK1
    obtain ⟨⟨c0, c1, c2, c3, c4⟩, f0, f1, f2, f3, f4⟩ := boxD5 J6.out.st
    go_wp2_with fail
    refine (HCo.out _ J6.out.g).mono ?_
    rintro e w7 ⟨i3, x3, a3, y, rfl, hS3, hE3, hM3, hg⟩
    have J7 := Lib.hid (J6.out.then hg)
    have D7 := Lib.hid hg
    clear hg
    clear c0 c1 c2 c3 c4 f0 f1 f2 f3 f4
    clear J6
    have S3 := Lib.hid hS3
    have E3 := Lib.hid hE3
    have M3 := Lib.hid hM3
    clear hS3 hE3 hM3 HCo
    have y1 := y.c_size
    have y2 := y.c_all
    have hp1 := J7.out.p1
    simp only [Pm.v]
    obtain ⟨cs, HCS⟩ : ∃ cs, cs = y.c.toArray := ⟨_, rfl⟩
    rw [← HCS] at y1 y2
    simp only [← HCS]
    have HCS2 := Lib.hid HCS
    clear HCS
    have hF := Lib.hid (J7.out.fin i3 x3 a3 y)
    go_wp2_with first
     | (refine wpList_store_row rfl 81 (.tmp 2) (.tmp 45) rfl (w.heap.size + 1) #[.slice (some ⟨b, o, none⟩) n k, .int .i64 i3, .int .i64 d, .int .i64 x3, .int .i64 a3] rfl rfl 81 #[.slice none 0 0, .int .i64 0, .int .i64 0, .int .i64 0, .int .i64 0] J7.out.rs st_size rfl (by simp [Value.oneCell']) ?_)
     | (refine wpList_store_row rfl 34 (.tmp 3) (.tmp 46) rfl (w.heap.size + 1 + 1) cs rfl rfl 34 z10 ((setRow_other _ _ _ _ (by omega)).trans J7.out.rp) (by rw [y1]; exact pred_size) (by rw [y1]; rfl) y2 ?_)
    refine bodyPost_ret (res_cp rfl _ _ (w.heap.size + 1) (w.heap.size + 1 + 1) _ cs rfl rfl (by have := hF.out.1; rw [← HCS2.out] at this; exact this) (by have := hF.out.2.1; rw [← HCS2.out] at this; exact this) rfl y1) rfl ⟨i3, x3, a3, y, by rw [HCS2.out]; rfl, by rw [HRx.out]; exact S3.out, fun h0 => by rw [HRx.out]; exact E3.out h0, ?_, by have := hF.out.2.2; rw [← HCS2.out] at this; exact this⟩
    exact ((M3.out.mono (fun j _ hj => Nat.lt_of_lt_of_le hbg hj)).keep (.fin (fun j hj => by omega))).mono (fun j _ hj => by omega)
   ·have k1 : ((kd : Int) == 1) = false := by rw [beq_eq_false_iff_ne]; omega
    have HRx := Lib.hid (HR.out.trans (oneF_lit HYN.out.symm HYO.out.symm (hkd.trans (decide_eq_false hk1))))
    have HTx : Hid (s.hd.text = tx) := Lib.hid (by rw [HD.out])
    have HLt := Lib.hid (fun W (hW : w.grownBy W none) => rlit_any b o n k T s W (HH.out.keep hW) i d c a S0.out)
    have hvz := lit_size s
    have HE : Hid (s.err = none) := Lib.hid (S0.out.err0.2 HC.out)
    have HPw := Lib.hid (fun h1 h2 => HRx.out.trans (litP_word (pos := s.hd.pos) (s := s) h1 h2))
    have HPb := Lib.hid (fun h1 h2 => (congrArg Prod.fst HRx.out).trans (litP_bad (pos := s.hd.pos) (s := s) h1 h2))
    have HPn := Lib.hid (fun h1 h2 => HRx.out.trans (litP_name (pos := s.hd.pos) (s := s) h1 h2))
    have HPt := Lib.hid (fun h1 h2 => HRx.out.trans (litP_two (pos := s.hd.pos) (s := s) h1 h2))
    have HTr : Hid (tx = bTrue → s.literal.1.err = none ∧ s.literal.2 = ⟨1, 1, ⟨#[]⟩⟩) := Lib.hid (fun e => by rw [lit_of (HTx.out.trans e) (by decide +kernel)]; exact ⟨HE.out, lit_true rfl⟩)
    have HFa : Hid (tx = bFalse → s.literal.1.err = none ∧ s.literal.2 = ⟨1, 0, ⟨#[]⟩⟩) := Lib.hid (fun e => by rw [lit_of (HTx.out.trans e) (by decide +kernel)]; exact ⟨HE.out, lit_false rfl⟩)
    have HKn : Hid (tx ≠ bTrue → tx ≠ bFalse → s.literal.2.k ≠ 1) := Lib.hid (fun h1 h2 => lit_k (by rw [HTx.out]; exact h1) (by rw [HTx.out]; exact h2))
    generalize s.literal.1 = u at *
    generalize s.literal.2 = v at *
    obtain ⟨vk, vn, vs⟩ := v
    simp only at HLt hvz HPw HPn HPt HTr HFa HKn
    have HVZ := Lib.hid hvz
    clear hvz HRx HR HYN HYO HZ HO HA hkd hk1 HD
    obtain ⟨⟨c0, c1, c2, c3, c4⟩, f0, f1, f2, f3, f4⟩ := boxD5 J6.out.st
    go_upto_region 13 with fail
    clear k1 t2
    clear c0 c1 c2 c3 c4 f0 f1 f2 f3 f4
    obtain ⟨⟨c0, c1, c2, c3, c4⟩, f0, f1, f2, f3, f4⟩ := boxD5 J6.out.st
    go_wp2_with fail
    refine (HNw.out _ J6.out.g).mono ?_
    rintro e w7 ⟨rfl, hg⟩
    have J7 := Lib.hid (J6.out.then hg)
    have D7 := Lib.hid hg
    clear hg
    clear c0 c1 c2 c3 c4 f0 f1 f2 f3 f4
    clear J6
    clear HNw
    go_upto_region 14 with fail
    have gz := World.grownBy_alloc w7 (.cells #[.int .i64 kd, .string tx, .int .i64 ps] 94) none
    have X8 : Hid ((w7.alloc (.cells #[.int .i64 kd, .string tx, .int .i64 ps] 94)).heap[w7.heap.size]? = some (.cells #[.int .i64 kd, .string tx, .int .i64 ps] 94 (0, 0))) := Lib.hid (alc1 w7 _)
    have hkb : p < w7.heap.size := (Array.getElem?_eq_some_iff.1 J7.out.pp).1
    have J8 := Lib.hid (J7.out.then gz)
    generalize hwz : w7.alloc (.cells #[.int .i64 kd, .string tx, .int .i64 ps] 94) = w8 at *
    generalize w7.heap.size = kb at *
    have hp0 := J8.out.p1
    clear gz hwz J7
    obtain ⟨⟨c0, c1, c2, c3, c4⟩, f0, f1, f2, f3, f4⟩ := boxD5 J8.out.st
    go_wp2_with fail
    refine (HLt.out _ J8.out.g).mono ?_
    rintro e w9 ⟨⟨i1, x1, a1, rfl, hS1⟩, hg⟩
    have J9 := Lib.hid (J8.out.then hg)
    have D9 := Lib.hid hg
    clear hg
    have X9 := Lib.hid (blkD D9.out X8.out)
    clear X8
    clear c0 c1 c2 c3 c4 f0 f1 f2 f3 f4
    clear J8
    have S1 := Lib.hid hS1
    clear hS1 HLt
    obtain ⟨⟨c0, c1, c2, c3, c4⟩, f0, f1, f2, f3, f4⟩ := boxD5 J9.out.st
    have K9 := J9.out.setS i1 x1 a1
    obtain ⟨⟨p0, p1, p2, p3, p4⟩, p5, p6, p7, p8, p9⟩ := ten_of K9.pp
    obtain ⟨⟨g0, g1, g2, g3, g4⟩, g5, g6, g7, g8, g9⟩ := ten_f K9.pp
    go_upto_region 15 with fail
    obtain ⟨w10, hw10⟩ : ∃ w10, w10 = ((((((((w9.setCell ⟨w.heap.size, 0, none⟩ (.slice (some ⟨b, o, none⟩) n k)).setCell ⟨w.heap.size, 1, none⟩ (.int .i64 i1)).setCell ⟨w.heap.size, 2, none⟩ (.int .i64 d)).setCell ⟨w.heap.size, 3, none⟩ (.int .i64 x1)).setCell ⟨w.heap.size, 4, none⟩ (.int .i64 a1)).setCell ⟨p, 3, none⟩ (.int .i64 vk)).setCell ⟨p, 4, none⟩ (.int .i64 vn)).setCell ⟨p, 5, none⟩ (.string vs)) := ⟨_, rfl⟩
    have J10 : Hid (PrJ b o n k d w p i1 x1 a1 #[.int .i64 0, .string ⟨#[]⟩, .int .i64 0, .int .i64 vk, .int .i64 vn, .string vs, .string ⟨#[]⟩, .slice none 0 0, .slice none 0 0, .int .i64 ps] w10) := Lib.hid (by rw [hw10]; exact (((K9.setP 3 (.int .i64 vk)).setP 4 (.int .i64 vn)).setP 5 (.string vs)))
    have X10 : Hid (w10.heap[kb]? = some (.cells #[.int .i64 kd, .string tx, .int .i64 ps] 94 (0, 0))) := Lib.hid (by rw [hw10]; repeat (first | with_reducible exact X9.out | refine blk_ne ?_ (by omega)))
    rw [← hw10]
    clear c0 c1 c2 c3 c4 f0 f1 f2 f3 f4
    clear p0 p1 p2 p3 p4 p5 p6 p7 p8 p9 g0 g1 g2 g3 g4 g5 g6 g7 g8 g9
    clear X9
    clear hw10 J9 K9
    have HRel := Lib.hid (fun W (hW : w.grownBy W none) => rrel_any b o n k T u W (HH.out.keep hW) i1 d x1 a1 S1.out)
    have HPs := Lib.hid (fun (hq : relT u.hd.text ≠ 0) W (hW : w.grownBy W none) => rpassX b o n k T u W (HH.out.keep hW) i1 d x1 a1 u.hd.text S1.out (rel_key hq) (decide_eq_true rfl))
    have HE2 : Hid (relT u.hd.text ≠ 0 → u.pass.err = none) := Lib.hid (fun hq => S1.out.err0.2 (S1.out.good (RS.more_rel hq)).1)
    have hq6 := relT_le u.hd.text
    generalize relT u.hd.text = q at *
    obtain ⟨⟨c0, c1, c2, c3, c4⟩, f0, f1, f2, f3, f4⟩ := boxD5 J10.out.st
    go_wp2_with fail
    refine (HRel.out _ J10.out.g).mono ?_
    rintro e w11 ⟨rfl, hg⟩
    have J11 := Lib.hid (J10.out.then hg)
    have D11 := Lib.hid hg
    clear hg
    have X11 := Lib.hid (blkD D11.out X10.out)
    clear X10
    clear c0 c1 c2 c3 c4 f0 f1 f2 f3 f4
    clear J10
    clear HRel
    by_cases hq0 : q = 0
    ·have k0 : ((q : Int) == 0) = true := by rw [hq0]; rfl
     have HQ0 := Lib.hid hq0
     clear hq0
     clear HPn HPt HPs HE2 hq6
     go_upto_region 17 with fail
     clear k0
     by_cases ht : tx = bTrue
     ·skip
      obtain ⟨hu, hv⟩ := HTr.out ht
      obtain ⟨rfl, rfl, rfl⟩ := Vl.mk.inj hv
      have hx : x1 = 0 := S1.out.err0.1 hu
      have HRw := Lib.hid (HPw.out HQ0.out rfl)
      have HX := Lib.hid hx
      clear hx hu hv HPw HPb HTr HFa HKn
      have KT : Hid ((tx.toList == [84, 82, 85, 69]) = true) := Lib.hid (bytes_is (by rw [ht]; rfl))
      clear ht
      go_cut [66] from 8 (fun s66 wx => s66 = .bool true ∧ wx = w11)
      case first =>
       have kt := KT.out
       have kx : ((x1 : Int) == 0) = true := by rw [HX.out]; rfl
       obtain ⟨⟨v0, v1, v2⟩, e0, e1, e2⟩ := boxD3 X11.out
       obtain ⟨⟨c0, c1, c2, c3, c4⟩, f0, f1, f2, f3, f4⟩ := boxD5 J11.out.st
       go_wp2_with fail
       go_meet
       exact ⟨rfl, rfl⟩
      case rest =>
      obtain ⟨rfl, hwc⟩ := hcut
      rw [hwc]
      clear hwc
      go_upto_region 18 with fail
      have hp1 := J11.out.p1
      obtain ⟨y, hy⟩ : ∃ y : Pm, y = .mk 1 ⟨#[]⟩ 0 ⟨0, 0, ⟨#[]⟩⟩ ⟨#[]⟩ none 0 [] none 0 [] ps := ⟨_, rfl⟩
      have HY := Lib.hid hy
      have Jy := J11
      clear J11 hy
      refine wp_region_held_drew (S := (fun W => Hid (GY w11 W w.heap.size))) (by kernel_rfl) (Lib.hid (GY.of (grown_drewT (grown_reflX _ _)) _)) (fun hHeld => ?_)
      refine TKA (i := 0) (v := .agg #[.slice (some ⟨b, o, none⟩) n k, .int .i64 i1, .int .i64 d, .int .i64 x1, .int .i64 a1]) rfl (yieldsIf_load_mid (by rfl) _ _ rfl w.heap.size 0 rfl _ _ (fun W hS => range_rowD (blkY Jy.out.st hS.out (by omega) (by omega))) Try.underlying81 rfl st_size) ?_
      simp only [Act.put, List.getElem_toArray, List.getElem_cons_zero, List.size_toArray, List.length_cons, List.length_nil, Nat.reduceAdd, Array.replicate, List.replicate, List.setIfInBounds_toArray, List.set_cons_zero, List.set_cons_succ]
      refine TKB (i := 1) (v := ?vaz) rfl ?yaz ?raz
      case yaz => (intro w hSw; (try dsimp only at hSw); go_simp; try with_reducible rfl)
      simp only [Act.put, List.getElem_toArray, List.getElem_cons_succ, List.getElem_cons_zero, List.setIfInBounds_toArray, List.set_cons_zero, List.set_cons_succ]
      refine TKB (i := 2) (v := ?vbz) rfl ?ybz ?rbz
      case ybz => (intro w hSw; obtain ⟨⟨v0, v1, v2⟩, e0, e1, e2⟩ := boxD3 (blkY X11.out hSw.out (by omega) (by omega)); clear hSw; go_simp; try with_reducible rfl)
      simp only [Act.put, List.getElem_toArray, List.getElem_cons_succ, List.getElem_cons_zero, List.setIfInBounds_toArray, List.set_cons_zero, List.set_cons_succ]
      refine TKB (i := 3) (v := ?vcz) rfl ?ycz ?rcz
      case ycz => (intro w hSw; (try dsimp only at hSw); go_simp; try with_reducible rfl)
      simp only [Act.put, List.getElem_toArray, List.getElem_cons_succ, List.getElem_cons_zero, List.setIfInBounds_toArray, List.set_cons_zero, List.set_cons_succ]
      refine RD1 (i := 4) rfl (fun K' hK => ?_)
      obtain ⟨w12, hw12⟩ : ∃ w12, w12 = w11.drew := ⟨_, rfl⟩
      have gd : w11.grownBy w12 none := by rw [hw12]; exact grown_drewT (grown_reflX _ _)
      have Z12 : Hid (GY w11 w12 w.heap.size) := Lib.hid (GY.of gd _)
      have J12 := Lib.hid (Jy.out.then gd)
      have D12 := Lib.hid gd
      rw [← hw12]
      clear hw12 gd
      refine wp_store_row 81 (.tmp 2) (.tmp 67) rfl (w.heap.size + 1) #[.slice (some ⟨b, o, none⟩) n k, .int .i64 i1, .int .i64 d, .int .i64 x1, .int .i64 a1] (by rfl) (by rfl) 81 #[.slice none 0 0, .int .i64 0, .int .i64 0, .int .i64 0, .int .i64 0] J12.out.rs st_size rfl (by simp [Value.oneCell']) ?_
      have ZR : Hid (GY w11 _ w.heap.size) := Lib.hid (Z12.out.one (grown_setRow w12 (w.heap.size + 1) #[.slice (some ⟨b, o, none⟩) n k, .int .i64 i1, .int .i64 d, .int .i64 x1, .int .i64 a1]) (.inl rfl))
      refine hK.out _ _ ZR (fun hHeld => ?_)
      clear hK K'
      simp only [Act.put, List.getElem_toArray, List.getElem_cons_succ, List.getElem_cons_zero, List.setIfInBounds_toArray, List.set_cons_zero, List.set_cons_succ]
      refine RD1 (i := 5) rfl (fun K' hK => ?_)
      refine wp_store_row 34 (.tmp 3) (.tmp 70) rfl (w.heap.size + 1 + 1) (.mk 1 ⟨#[]⟩ 0 ⟨0, 0, ⟨#[]⟩⟩ ⟨#[]⟩ none 0 [] none 0 [] ps : Pm).c.toArray (by rfl) (by rfl) 34 z10 ((setRow_other _ _ _ _ (by omega)).trans J12.out.rp) (by rw [Pm.c_size]; exact pred_size) (by rw [Pm.c_size]; rfl) (Pm.c_all _) ?_
      have ZI : Hid (GY w11 _ w.heap.size) := Lib.hid (ZR.out.one (grown_setRow _ (w.heap.size + 1 + 1) (.mk 1 ⟨#[]⟩ 0 ⟨0, 0, ⟨#[]⟩⟩ ⟨#[]⟩ none 0 [] none 0 [] ps : Pm).c.toArray) (.inr rfl))
      have hF := J12.out.fin i1 x1 a1 (.mk 1 ⟨#[]⟩ 0 ⟨0, 0, ⟨#[]⟩⟩ ⟨#[]⟩ none 0 [] none 0 [] ps : Pm)
      refine hK.out _ _ ZI (fun hHeld => ?_)
      clear hK K'
      simp only [Act.put, List.getElem_toArray, List.getElem_cons_succ, List.getElem_cons_zero, List.setIfInBounds_toArray, List.set_cons_zero, List.set_cons_succ]
      refine wpAnyH_done (by kernel_rfl) ?_ _
      go_wp2_with fail
      refine bodyPost_ret (res_cp rfl _ _ (w.heap.size + 1) (w.heap.size + 1 + 1) _ _ rfl rfl hF.1 hF.2.1 rfl (Pm.c_size _)) rfl ⟨i1, x1, a1, (.mk 1 ⟨#[]⟩ 0 ⟨0, 0, ⟨#[]⟩⟩ ⟨#[]⟩ none 0 [] none 0 [] ps : Pm), rfl, ?_, ?_, ?_, hF.2.2⟩
      ·rw [HRw.out]; exact S1.out
      ·intro _; rw [HRw.out]; rfl
      ·exact PmS.leaf ..
     ·have kt1 : (tx.toList == [84, 82, 85, 69]) = false := bytes_not (fun e => ht (bytes_ext (by rw [e]; rfl)))
      have ht1 := ht
      clear ht
      by_cases ht : tx = bFalse
      ·skip
       clear ht1
       obtain ⟨hu, hv⟩ := HFa.out ht
       obtain ⟨rfl, rfl, rfl⟩ := Vl.mk.inj hv
       have hx : x1 = 0 := S1.out.err0.1 hu
       have HRw := Lib.hid (HPw.out HQ0.out rfl)
       have HX := Lib.hid hx
       clear hx hu hv HPw HPb HTr HFa HKn
       have KT : Hid ((tx.toList == [70, 65, 76, 83, 69]) = true) := Lib.hid (bytes_is (by rw [ht]; rfl))
       clear ht
       obtain ⟨⟨v0, v1, v2⟩, e0, e1, e2⟩ := boxD3 X11.out
       go_upto_region 19 with fail
       clear kt1 v0 v1 v2 e0 e1 e2
       go_cut [78] from 8 (fun s66 wx => s66 = .bool true ∧ wx = w11)
       case first =>
        have kt := KT.out
        have kx : ((x1 : Int) == 0) = true := by rw [HX.out]; rfl
        obtain ⟨⟨v0, v1, v2⟩, e0, e1, e2⟩ := boxD3 X11.out
        obtain ⟨⟨c0, c1, c2, c3, c4⟩, f0, f1, f2, f3, f4⟩ := boxD5 J11.out.st
        go_wp2_with fail
        go_meet
        exact ⟨rfl, rfl⟩
       case rest =>
       obtain ⟨rfl, hwc⟩ := hcut
       rw [hwc]
       clear hwc
       go_upto_region 20 with fail
       have hp1 := J11.out.p1
       obtain ⟨y, hy⟩ : ∃ y : Pm, y = .mk 2 ⟨#[]⟩ 0 ⟨0, 0, ⟨#[]⟩⟩ ⟨#[]⟩ none 0 [] none 0 [] ps := ⟨_, rfl⟩
       have HY := Lib.hid hy
       have Jy := J11
       clear J11 hy
       refine wp_region_held_drew (S := (fun W => Hid (GY w11 W w.heap.size))) (by kernel_rfl) (Lib.hid (GY.of (grown_drewT (grown_reflX _ _)) _)) (fun hHeld => ?_)
       refine TKA (i := 0) (v := .agg #[.slice (some ⟨b, o, none⟩) n k, .int .i64 i1, .int .i64 d, .int .i64 x1, .int .i64 a1]) rfl (yieldsIf_load_mid (by rfl) _ _ rfl w.heap.size 0 rfl _ _ (fun W hS => range_rowD (blkY Jy.out.st hS.out (by omega) (by omega))) Try.underlying81 rfl st_size) ?_
       simp only [Act.put, List.getElem_toArray, List.getElem_cons_zero, List.size_toArray, List.length_cons, List.length_nil, Nat.reduceAdd, Array.replicate, List.replicate, List.setIfInBounds_toArray, List.set_cons_zero, List.set_cons_succ]
       refine TKB (i := 1) (v := ?vdz) rfl ?ydz ?rdz
       case ydz => (intro w hSw; (try dsimp only at hSw); go_simp; try with_reducible rfl)
       simp only [Act.put, List.getElem_toArray, List.getElem_cons_succ, List.getElem_cons_zero, List.setIfInBounds_toArray, List.set_cons_zero, List.set_cons_succ]
       refine TKB (i := 2) (v := ?vez) rfl ?yez ?rez
       case yez => (intro w hSw; obtain ⟨⟨v0, v1, v2⟩, e0, e1, e2⟩ := boxD3 (blkY X11.out hSw.out (by omega) (by omega)); clear hSw; go_simp; try with_reducible rfl)
       simp only [Act.put, List.getElem_toArray, List.getElem_cons_succ, List.getElem_cons_zero, List.setIfInBounds_toArray, List.set_cons_zero, List.set_cons_succ]
       refine TKB (i := 3) (v := ?vfz) rfl ?yfz ?rfz
       case yfz => (intro w hSw; (try dsimp only at hSw); go_simp; try with_reducible rfl)
       simp only [Act.put, List.getElem_toArray, List.getElem_cons_succ, List.getElem_cons_zero, List.setIfInBounds_toArray, List.set_cons_zero, List.set_cons_succ]
       refine RD1 (i := 4) rfl (fun K' hK => ?_)
       obtain ⟨w12, hw12⟩ : ∃ w12, w12 = w11.drew := ⟨_, rfl⟩
       have gd : w11.grownBy w12 none := by rw [hw12]; exact grown_drewT (grown_reflX _ _)
       have Z12 : Hid (GY w11 w12 w.heap.size) := Lib.hid (GY.of gd _)
       have J12 := Lib.hid (Jy.out.then gd)
       have D12 := Lib.hid gd
       rw [← hw12]
       clear hw12 gd
       refine wp_store_row 81 (.tmp 2) (.tmp 79) rfl (w.heap.size + 1) #[.slice (some ⟨b, o, none⟩) n k, .int .i64 i1, .int .i64 d, .int .i64 x1, .int .i64 a1] (by rfl) (by rfl) 81 #[.slice none 0 0, .int .i64 0, .int .i64 0, .int .i64 0, .int .i64 0] J12.out.rs st_size rfl (by simp [Value.oneCell']) ?_
       have ZR : Hid (GY w11 _ w.heap.size) := Lib.hid (Z12.out.one (grown_setRow w12 (w.heap.size + 1) #[.slice (some ⟨b, o, none⟩) n k, .int .i64 i1, .int .i64 d, .int .i64 x1, .int .i64 a1]) (.inl rfl))
       refine hK.out _ _ ZR (fun hHeld => ?_)
       clear hK K'
       simp only [Act.put, List.getElem_toArray, List.getElem_cons_succ, List.getElem_cons_zero, List.setIfInBounds_toArray, List.set_cons_zero, List.set_cons_succ]
       refine RD1 (i := 5) rfl (fun K' hK => ?_)
       refine wp_store_row 34 (.tmp 3) (.tmp 82) rfl (w.heap.size + 1 + 1) (.mk 2 ⟨#[]⟩ 0 ⟨0, 0, ⟨#[]⟩⟩ ⟨#[]⟩ none 0 [] none 0 [] ps : Pm).c.toArray (by rfl) (by rfl) 34 z10 ((setRow_other _ _ _ _ (by omega)).trans J12.out.rp) (by rw [Pm.c_size]; exact pred_size) (by rw [Pm.c_size]; rfl) (Pm.c_all _) ?_
       have ZI : Hid (GY w11 _ w.heap.size) := Lib.hid (ZR.out.one (grown_setRow _ (w.heap.size + 1 + 1) (.mk 2 ⟨#[]⟩ 0 ⟨0, 0, ⟨#[]⟩⟩ ⟨#[]⟩ none 0 [] none 0 [] ps : Pm).c.toArray) (.inr rfl))
       have hF := J12.out.fin i1 x1 a1 (.mk 2 ⟨#[]⟩ 0 ⟨0, 0, ⟨#[]⟩⟩ ⟨#[]⟩ none 0 [] none 0 [] ps : Pm)
       refine hK.out _ _ ZI (fun hHeld => ?_)
       clear hK K'
       simp only [Act.put, List.getElem_toArray, List.getElem_cons_succ, List.getElem_cons_zero, List.setIfInBounds_toArray, List.set_cons_zero, List.set_cons_succ]
       refine wpAnyH_done (by kernel_rfl) ?_ _
       go_wp2_with fail
       refine bodyPost_ret (res_cp rfl _ _ (w.heap.size + 1) (w.heap.size + 1 + 1) _ _ rfl rfl hF.1 hF.2.1 rfl (Pm.c_size _)) rfl ⟨i1, x1, a1, (.mk 2 ⟨#[]⟩ 0 ⟨0, 0, ⟨#[]⟩⟩ ⟨#[]⟩ none 0 [] none 0 [] ps : Pm), rfl, ?_, ?_, ?_, hF.2.2⟩
       ·rw [HRw.out]; exact S1.out
       ·intro _; rw [HRw.out]; rfl
       ·exact PmS.leaf ..
      ·skip
       have kt2 : (tx.toList == [70, 65, 76, 83, 69]) = false := bytes_not (fun e => ht (bytes_ext (by rw [e]; rfl)))
       have HRb := Lib.hid (HPb.out HQ0.out (HKn.out ht1 ht))
       clear HPw HPb HTr HFa HKn ht ht1
       obtain ⟨⟨v0, v1, v2⟩, e0, e1, e2⟩ := boxD3 X11.out
       obtain ⟨⟨c0, c1, c2, c3, c4⟩, f0, f1, f2, f3, f4⟩ := boxD5 J11.out.st
       go_upto_region 21 with fail
       clear kt1 kt2 v0 v1 v2 e0 e1 e2
       clear c0 c1 c2 c3 c4 f0 f1 f2 f3 f4
       have HF := Lib.hid (fun W (hW : w.grownBy W none) => rfail_any b o n k T u W (HH.out.keep hW) i1 d x1 a1 11 S1.out (by decide))
       have hp1 := J11.out.p1
       obtain ⟨y, hy⟩ : ∃ y : Pm, y = .mk 0 ⟨#[]⟩ 0 ⟨vk, vn, vs⟩ ⟨#[]⟩ none 0 [] none 0 [] ps := ⟨_, rfl⟩
       have HY := Lib.hid hy
       have Jy : Hid (PrJ b o n k d w p i1 x1 a1 y.c.toArray w11) := Lib.hid (by rw [hy]; exact J11.out)
       clear J11 hy
       refine wp_region_held_drew (S := (fun W => Hid (GY w11 W w.heap.size))) (by kernel_rfl) (Lib.hid (GY.of (grown_drewT (grown_reflX _ _)) _)) (fun hHeld => ?_)
       refine TKA (i := 0) (v := .agg #[.slice (some ⟨b, o, none⟩) n k, .int .i64 i1, .int .i64 d, .int .i64 x1, .int .i64 a1]) rfl (yieldsIf_load_mid (by rfl) _ _ rfl w.heap.size 0 rfl _ _ (fun W hS => range_rowD (blkY Jy.out.st hS.out (by omega) (by omega))) Try.underlying81 rfl st_size) ?_
       simp only [Act.put, List.getElem_toArray, List.getElem_cons_zero, List.size_toArray, List.length_cons, List.length_nil, Nat.reduceAdd, Array.replicate, List.replicate, List.setIfInBounds_toArray, List.set_cons_zero, List.set_cons_succ]
       refine TKA (i := 2) (v := .agg y.c.toArray) rfl (yieldsIf_load_mid (by rfl) _ _ rfl p 0 rfl y.c _ (fun W hS => range_rowD (blkY Jy.out.pp hS.out (by omega) (by omega))) Try.underlying34 rfl (show (Try.prog.info? 34).map (·.size) = some y.c.length by rw [Pm.c_len]; exact pred_size)) ?_
       simp only [Act.put, List.getElem_toArray, List.getElem_cons_succ, List.getElem_cons_zero, List.setIfInBounds_toArray, List.set_cons_zero, List.set_cons_succ]
       refine RD1 (i := 1) rfl (fun K' hK => ?_)
       go_simp
       go_at_call 39
       refine (HF.out _ (gq_dr Jy.out.g)).mono ?_
       rintro e w12 ⟨⟨x6, a6, rfl, hS6⟩, hg⟩
       have gd : w11.grownBy w12 none := (grown_drewT (grown_reflX _ _)).trans hg
       have Z12 : Hid (GY w11 w12 w.heap.size) := Lib.hid (GY.of gd _)
       have J12 := Lib.hid (Jy.out.then gd)
       have D12 := Lib.hid gd
       clear gd
       have S6 := Lib.hid hS6
       clear hS6
       clear hg
       refine hK.out _ _ Z12 (fun hHeld => ?_)
       clear hK K'
       simp only [List.setIfInBounds_toArray, List.set_cons_zero, List.set_cons_succ]
       refine RD1 (i := 3) rfl (fun K' hK => ?_)
       refine wp_store_row 81 (.tmp 2) (.tmp 84) rfl (w.heap.size + 1) #[.slice (some ⟨b, o, none⟩) n k, .int .i64 i1, .int .i64 d, .int .i64 x6, .int .i64 a6] (by rfl) (by rfl) 81 #[.slice none 0 0, .int .i64 0, .int .i64 0, .int .i64 0, .int .i64 0] J12.out.rs st_size rfl (by simp [Value.oneCell']) ?_
       have ZR : Hid (GY w11 _ w.heap.size) := Lib.hid (Z12.out.one (grown_setRow w12 (w.heap.size + 1) #[.slice (some ⟨b, o, none⟩) n k, .int .i64 i1, .int .i64 d, .int .i64 x6, .int .i64 a6]) (.inl rfl))
       refine hK.out _ _ ZR (fun hHeld => ?_)
       clear hK K'
       simp only [Act.put, List.getElem_toArray, List.getElem_cons_succ, List.getElem_cons_zero, List.setIfInBounds_toArray, List.set_cons_zero, List.set_cons_succ]
       refine RD1 (i := 4) rfl (fun K' hK => ?_)
       refine wp_store_row 34 (.tmp 3) (.tmp 85) rfl (w.heap.size + 1 + 1) y.c.toArray (by rfl) (by rfl) 34 z10 ((setRow_other _ _ _ _ (by omega)).trans J12.out.rp) (by rw [Pm.c_size]; exact pred_size) (by rw [Pm.c_size]; rfl) (Pm.c_all _) ?_
       have ZI : Hid (GY w11 _ w.heap.size) := Lib.hid (ZR.out.one (grown_setRow _ (w.heap.size + 1 + 1) y.c.toArray) (.inr rfl))
       have hF := J12.out.fin i1 x6 a6 y
       refine hK.out _ _ ZI (fun hHeld => ?_)
       clear hK K'
       simp only [Act.put, List.getElem_toArray, List.getElem_cons_succ, List.getElem_cons_zero, List.setIfInBounds_toArray, List.set_cons_zero, List.set_cons_succ]
       refine wpAnyH_done (by kernel_rfl) ?_ _
       go_wp2_with fail
       refine bodyPost_ret (res_cp rfl _ _ (w.heap.size + 1) (w.heap.size + 1 + 1) _ _ rfl rfl hF.1 hF.2.1 rfl (Pm.c_size _)) rfl ⟨i1, x6, a6, y, rfl, ?_, ?_, ?_, hF.2.2⟩
       ·rw [HRb.out]; exact S6.out
       ·intro h0; exact absurd (S6.out.err0.2 h0) (by simp [RS.wrong])
       ·rw [HY.out]; exact PmS.leaf ..
    ·have k0 : ((q : Int) == 0) = false := by rw [beq_eq_false_iff_ne]; omega
     have HP := Lib.hid (HPs.out hq0)
     have hq1 : 1 ≤ q := by omega
     have HPn2 := Lib.hid (HPn.out hq0)
     have HPt2 := Lib.hid (HPt.out hq0)
     have hE2 := HE2.out hq0
     have HE3 := Lib.hid hE2
     clear HPw HPb HPn HPt HTr HFa HKn HPs HE2 hE2 hq0
     obtain ⟨⟨c0, c1, c2, c3, c4⟩, f0, f1, f2, f3, f4⟩ := boxD5 J11.out.st
     go_upto_region 22 with fail
     clear k0
     clear c0 c1 c2 c3 c4 f0 f1 f2 f3 f4
     obtain ⟨⟨c0, c1, c2, c3, c4⟩, f0, f1, f2, f3, f4⟩ := boxD5 J11.out.st
     go_wp2_with fail
     refine (HP.out _ J11.out.g).mono ?_
     rintro e w12 ⟨⟨i2, x2, a2, rfl, hS2⟩, hg⟩
     have J12 := Lib.hid (J11.out.then hg)
     have D12 := Lib.hid hg
     clear hg
     have X12 := Lib.hid (blkD D12.out X11.out)
     clear X11
     clear c0 c1 c2 c3 c4 f0 f1 f2 f3 f4
     clear J11
     have S2 := Lib.hid hS2
     clear hS2 HP
     obtain ⟨⟨c0, c1, c2, c3, c4⟩, f0, f1, f2, f3, f4⟩ := boxD5 J12.out.st
     have K12 := J12.out.setS i2 x2 a2
     go_upto_region 23 with fail
     obtain ⟨w13, hw13⟩ : ∃ w13, w13 = (((((w12.setCell ⟨w.heap.size, 0, none⟩ (.slice (some ⟨b, o, none⟩) n k)).setCell ⟨w.heap.size, 1, none⟩ (.int .i64 i2)).setCell ⟨w.heap.size, 2, none⟩ (.int .i64 d)).setCell ⟨w.heap.size, 3, none⟩ (.int .i64 x2)).setCell ⟨w.heap.size, 4, none⟩ (.int .i64 a2)) := ⟨_, rfl⟩
     have J13 : Hid (PrJ b o n k d w p i2 x2 a2 #[.int .i64 0, .string ⟨#[]⟩, .int .i64 0, .int .i64 vk, .int .i64 vn, .string vs, .string ⟨#[]⟩, .slice none 0 0, .slice none 0 0, .int .i64 ps] w13) := Lib.hid (by rw [hw13]; exact K12)
     have X13 : Hid (w13.heap[kb]? = some (.cells #[.int .i64 kd, .string tx, .int .i64 ps] 94 (0, 0))) := Lib.hid (by rw [hw13]; repeat (first | with_reducible exact X12.out | refine blk_ne ?_ (by omega)))
     rw [← hw13]
     clear c0 c1 c2 c3 c4 f0 f1 f2 f3 f4
     clear X12
     clear hw13 J12 K12
     have e2 : x2 = 0 := S2.out.err0.1 HE3.out
     have HN2 := Lib.hid (fun W (hW : w.grownBy W none) => rnow_any b o n k T W (HH.out.keep hW) i2 d x2 a2 S2.out.lt)
     have hk2 : u.pass.named = decide ((tkA T i2).kind = 1) := by
      have hS := S2.out
      subst e2
      unfold RS.named
      rw [hS.hd]
     generalize (tkA T i2) = tk2 at *
     obtain ⟨kd2, tx2, ps2⟩ := tk2
     simp only at HN2 hk2
     have HK2 := Lib.hid hk2
     clear e2 hk2 HE3
     obtain ⟨⟨c0, c1, c2, c3, c4⟩, f0, f1, f2, f3, f4⟩ := boxD5 J13.out.st
     go_wp2_with fail
     refine (HN2.out _ J13.out.g).mono ?_
     rintro e w14 ⟨rfl, hg⟩
     have J14 := Lib.hid (J13.out.then hg)
     have D14 := Lib.hid hg
     clear hg
     have X14 := Lib.hid (blkD D14.out X13.out)
     clear X13
     clear c0 c1 c2 c3 c4 f0 f1 f2 f3 f4
     clear J13
     clear HN2
     have t2 := fieldD0 (.int .i64 kd2) (.string tx2) (.int .i64 ps2) w14
     by_cases hkk : kd2 = 1
     ·have k1 : ((kd2 : Int) == 1) = true := by rw [hkk]; rfl
      have HKK := Lib.hid hkk
      clear hkk
      have HRn := Lib.hid (HPn2.out (HK2.out.trans (decide_eq_true HKK.out)))
      have HNm := Lib.hid (fun W (hW : w.grownBy W none) => rname_any b o n k T u.pass W (HH.out.keep hW) i2 d x2 a2 S2.out)
      have HTu := Lib.hid (fun W (_ : w.grownBy W none) => rturn_any q hq1 hq6 W)
      generalize u.pass.name.1 = u2 at *
      generalize u.pass.name.2 = col2 at *
      clear HPn2 HPt2 HK2 HKK
      obtain ⟨⟨c0, c1, c2, c3, c4⟩, f0, f1, f2, f3, f4⟩ := boxD5 J14.out.st
      obtain ⟨⟨p0, p1, p2, p3, p4⟩, p5, p6, p7, p8, p9⟩ := ten_of J14.out.pp
      obtain ⟨⟨g0, g1, g2, g3, g4⟩, g5, g6, g7, g8, g9⟩ := ten_f J14.out.pp
      clear hq1 hq6
      clear c0 c1 c2 c3 c4 f0 f1 f2 f3 f4
      clear p0 p1 p2 p3 p4 p5 p6 p7 p8 p9 g0 g1 g2 g3 g4 g5 g6 g7 g8 g9
      obtain ⟨⟨c0, c1, c2, c3, c4⟩, f0, f1, f2, f3, f4⟩ := boxD5 J14.out.st
      obtain ⟨⟨p0, p1, p2, p3, p4⟩, p5, p6, p7, p8, p9⟩ := ten_of J14.out.pp
      obtain ⟨⟨g0, g1, g2, g3, g4⟩, g5, g6, g7, g8, g9⟩ := ten_f J14.out.pp
      go_upto_region 25 with fail
      obtain ⟨w15, hw15⟩ : ∃ w15, w15 = (w14.setCell ⟨p, 0, none⟩ (.int .i64 3)) := ⟨_, rfl⟩
      have J15 : Hid (PrJ b o n k d w p i2 x2 a2 #[.int .i64 3, .string ⟨#[]⟩, .int .i64 0, .int .i64 vk, .int .i64 vn, .string vs, .string ⟨#[]⟩, .slice none 0 0, .slice none 0 0, .int .i64 ps] w15) := Lib.hid (by rw [hw15]; exact (J14.out.setP 0 (.int .i64 3)))
      have X15 : Hid (w15.heap[kb]? = some (.cells #[.int .i64 kd, .string tx, .int .i64 ps] 94 (0, 0))) := Lib.hid (by rw [hw15]; repeat (first | with_reducible exact X14.out | refine blk_ne ?_ (by omega)))
      rw [← hw15]
      clear c0 c1 c2 c3 c4 f0 f1 f2 f3 f4
      clear p0 p1 p2 p3 p4 p5 p6 p7 p8 p9 g0 g1 g2 g3 g4 g5 g6 g7 g8 g9
      clear X14
      clear hw15 J14
      clear k1 t2
      obtain ⟨⟨c0, c1, c2, c3, c4⟩, f0, f1, f2, f3, f4⟩ := boxD5 J15.out.st
      go_wp2_with fail
      refine (HTu.out _ J15.out.g).mono ?_
      rintro e w16 ⟨rfl, hg⟩
      have J16 := Lib.hid (J15.out.then hg)
      have D16 := Lib.hid hg
      clear hg
      have X16 := Lib.hid (blkD D16.out X15.out)
      clear X15
      clear c0 c1 c2 c3 c4 f0 f1 f2 f3 f4
      clear J15
      clear HTu
      obtain ⟨⟨c0, c1, c2, c3, c4⟩, f0, f1, f2, f3, f4⟩ := boxD5 J16.out.st
      obtain ⟨⟨p0, p1, p2, p3, p4⟩, p5, p6, p7, p8, p9⟩ := ten_of J16.out.pp
      obtain ⟨⟨g0, g1, g2, g3, g4⟩, g5, g6, g7, g8, g9⟩ := ten_f J16.out.pp
      go_upto_region 26 with fail
      obtain ⟨w17, hw17⟩ : ∃ w17, w17 = (w16.setCell ⟨p, 2, none⟩ (.int .i64 ((turnR q : Nat) : Int))) := ⟨_, rfl⟩
      have J17 : Hid (PrJ b o n k d w p i2 x2 a2 #[.int .i64 3, .string ⟨#[]⟩, .int .i64 ((turnR q : Nat) : Int), .int .i64 vk, .int .i64 vn, .string vs, .string ⟨#[]⟩, .slice none 0 0, .slice none 0 0, .int .i64 ps] w17) := Lib.hid (by rw [hw17]; exact (J16.out.setP 2 (.int .i64 ((turnR q : Nat) : Int))))
      have X17 : Hid (w17.heap[kb]? = some (.cells #[.int .i64 kd, .string tx, .int .i64 ps] 94 (0, 0))) := Lib.hid (by rw [hw17]; repeat (first | with_reducible exact X16.out | refine blk_ne ?_ (by omega)))
      rw [← hw17]
      clear c0 c1 c2 c3 c4 f0 f1 f2 f3 f4
      clear p0 p1 p2 p3 p4 p5 p6 p7 p8 p9 g0 g1 g2 g3 g4 g5 g6 g7 g8 g9
      clear X16
      clear hw17 J16
      obtain ⟨⟨c0, c1, c2, c3, c4⟩, f0, f1, f2, f3, f4⟩ := boxD5 J17.out.st
      go_wp2_with fail
      refine (HNm.out _ J17.out.g).mono ?_
      rintro e w18 ⟨⟨i3, x3, a3, rfl, hS3⟩, hg⟩
      have J18 := Lib.hid (J17.out.then hg)
      have D18 := Lib.hid hg
      clear hg
      have X18 := Lib.hid (blkD D18.out X17.out)
      clear X17
      clear c0 c1 c2 c3 c4 f0 f1 f2 f3 f4
      clear J17
      have S3 := Lib.hid hS3
      clear hS3 HNm
      obtain ⟨⟨c0, c1, c2, c3, c4⟩, f0, f1, f2, f3, f4⟩ := boxD5 J18.out.st
      have K18 := J18.out.setS i3 x3 a3
      obtain ⟨⟨p0, p1, p2, p3, p4⟩, p5, p6, p7, p8, p9⟩ := ten_of K18.pp
      obtain ⟨⟨g0, g1, g2, g3, g4⟩, g5, g6, g7, g8, g9⟩ := ten_f K18.pp
      go_upto_region 27 with fail
      obtain ⟨w19, hw19⟩ : ∃ w19, w19 = ((((((w18.setCell ⟨w.heap.size, 0, none⟩ (.slice (some ⟨b, o, none⟩) n k)).setCell ⟨w.heap.size, 1, none⟩ (.int .i64 i3)).setCell ⟨w.heap.size, 2, none⟩ (.int .i64 d)).setCell ⟨w.heap.size, 3, none⟩ (.int .i64 x3)).setCell ⟨w.heap.size, 4, none⟩ (.int .i64 a3)).setCell ⟨p, 1, none⟩ (.string col2)) := ⟨_, rfl⟩
      have J19 : Hid (PrJ b o n k d w p i3 x3 a3 #[.int .i64 3, .string col2, .int .i64 ((turnR q : Nat) : Int), .int .i64 vk, .int .i64 vn, .string vs, .string ⟨#[]⟩, .slice none 0 0, .slice none 0 0, .int .i64 ps] w19) := Lib.hid (by rw [hw19]; exact (K18.setP 1 (.string col2)))
      have X19 : Hid (w19.heap[kb]? = some (.cells #[.int .i64 kd, .string tx, .int .i64 ps] 94 (0, 0))) := Lib.hid (by rw [hw19]; repeat (first | with_reducible exact X18.out | refine blk_ne ?_ (by omega)))
      rw [← hw19]
      clear c0 c1 c2 c3 c4 f0 f1 f2 f3 f4
      clear p0 p1 p2 p3 p4 p5 p6 p7 p8 p9 g0 g1 g2 g3 g4 g5 g6 g7 g8 g9
      clear X18
      clear hw19 J18 K18
      have hp1 := J19.out.p1
      obtain ⟨y, hy⟩ : ∃ y : Pm, y = .mk 3 col2 (turnR q) ⟨vk, vn, vs⟩ ⟨#[]⟩ none 0 [] none 0 [] ps := ⟨_, rfl⟩
      have HY := Lib.hid hy
      have Jy : Hid (PrJ b o n k d w p i3 x3 a3 y.c.toArray w19) := Lib.hid (by rw [hy]; exact J19.out)
      clear J19 hy
      refine wp_region_held_drew (S := (fun W => Hid (GY w19 W w.heap.size))) (by kernel_rfl) (Lib.hid (GY.of (grown_drewT (grown_reflX _ _)) _)) (fun hHeld => ?_)
      refine TKA (i := 0) (v := .agg #[.slice (some ⟨b, o, none⟩) n k, .int .i64 i3, .int .i64 d, .int .i64 x3, .int .i64 a3]) rfl (yieldsIf_load_mid (by rfl) _ _ rfl w.heap.size 0 rfl _ _ (fun W hS => range_rowD (blkY Jy.out.st hS.out (by omega) (by omega))) Try.underlying81 rfl st_size) ?_
      simp only [Act.put, List.getElem_toArray, List.getElem_cons_zero, List.size_toArray, List.length_cons, List.length_nil, Nat.reduceAdd, Array.replicate, List.replicate, List.setIfInBounds_toArray, List.set_cons_zero, List.set_cons_succ]
      refine TKA (i := 1) (v := .agg y.c.toArray) rfl (yieldsIf_load_mid (by rfl) _ _ rfl p 0 rfl y.c _ (fun W hS => range_rowD (blkY Jy.out.pp hS.out (by omega) (by omega))) Try.underlying34 rfl (show (Try.prog.info? 34).map (·.size) = some y.c.length by rw [Pm.c_len]; exact pred_size)) ?_
      simp only [Act.put, List.getElem_toArray, List.getElem_cons_succ, List.getElem_cons_zero, List.setIfInBounds_toArray, List.set_cons_zero, List.set_cons_succ]
      refine RD1 (i := 2) rfl (fun K' hK => ?_)
      obtain ⟨w20, hw20⟩ : ∃ w20, w20 = w19.drew := ⟨_, rfl⟩
      have gd : w19.grownBy w20 none := by rw [hw20]; exact grown_drewT (grown_reflX _ _)
      have Z20 : Hid (GY w19 w20 w.heap.size) := Lib.hid (GY.of gd _)
      have J20 := Lib.hid (Jy.out.then gd)
      have D20 := Lib.hid gd
      rw [← hw20]
      clear hw20 gd
      refine wp_store_row 81 (.tmp 2) (.tmp 102) rfl (w.heap.size + 1) #[.slice (some ⟨b, o, none⟩) n k, .int .i64 i3, .int .i64 d, .int .i64 x3, .int .i64 a3] (by rfl) (by rfl) 81 #[.slice none 0 0, .int .i64 0, .int .i64 0, .int .i64 0, .int .i64 0] J20.out.rs st_size rfl (by simp [Value.oneCell']) ?_
      have ZR : Hid (GY w19 _ w.heap.size) := Lib.hid (Z20.out.one (grown_setRow w20 (w.heap.size + 1) #[.slice (some ⟨b, o, none⟩) n k, .int .i64 i3, .int .i64 d, .int .i64 x3, .int .i64 a3]) (.inl rfl))
      refine hK.out _ _ ZR (fun hHeld => ?_)
      clear hK K'
      simp only [Act.put, List.getElem_toArray, List.getElem_cons_succ, List.getElem_cons_zero, List.setIfInBounds_toArray, List.set_cons_zero, List.set_cons_succ]
      refine RD1 (i := 3) rfl (fun K' hK => ?_)
      refine wp_store_row 34 (.tmp 3) (.tmp 103) rfl (w.heap.size + 1 + 1) y.c.toArray (by rfl) (by rfl) 34 z10 ((setRow_other _ _ _ _ (by omega)).trans J20.out.rp) (by rw [Pm.c_size]; exact pred_size) (by rw [Pm.c_size]; rfl) (Pm.c_all _) ?_
      have ZI : Hid (GY w19 _ w.heap.size) := Lib.hid (ZR.out.one (grown_setRow _ (w.heap.size + 1 + 1) y.c.toArray) (.inr rfl))
      have hF := J20.out.fin i3 x3 a3 y
      refine hK.out _ _ ZI (fun hHeld => ?_)
      clear hK K'
      simp only [Act.put, List.getElem_toArray, List.getElem_cons_succ, List.getElem_cons_zero, List.setIfInBounds_toArray, List.set_cons_zero, List.set_cons_succ]
      refine wpAnyH_done (by kernel_rfl) ?_ _
      go_wp2_with fail
      refine bodyPost_ret (res_cp rfl _ _ (w.heap.size + 1) (w.heap.size + 1 + 1) _ _ rfl rfl hF.1 hF.2.1 rfl (Pm.c_size _)) rfl ⟨i3, x3, a3, y, rfl, ?_, ?_, ?_, hF.2.2⟩
      ·rw [HRn.out]; exact S3.out
      ·intro _; rw [HRn.out, HY.out]; rfl
      ·rw [HY.out]; exact PmS.leaf ..
     ·have k1 : ((kd2 : Int) == 1) = false := by rw [beq_eq_false_iff_ne]; omega
      have HRn := Lib.hid (HPt2.out (HK2.out.trans (decide_eq_false hkk)))
      have HLt := Lib.hid (fun W (hW : w.grownBy W none) => rlit_any b o n k T u.pass W (HH.out.keep hW) i2 d x2 a2 S2.out)
      have hvz := lit_size u.pass
      generalize u.pass.literal.1 = u2 at *
      generalize u.pass.literal.2 = v2 at *
      obtain ⟨yk, yn, ys⟩ := v2
      simp only at HLt hvz HRn
      have HYZ := Lib.hid hvz
      clear HPn2 HPt2 HK2 hkk hvz hq1 hq6
      obtain ⟨⟨c0, c1, c2, c3, c4⟩, f0, f1, f2, f3, f4⟩ := boxD5 J14.out.st
      go_upto_region 28 with fail
      clear k1 t2
      clear c0 c1 c2 c3 c4 f0 f1 f2 f3 f4
      go_upto_region 29 with fail
      have gz := World.grownBy_alloc w14 (.cells #[.int .i64 0, .int .i64 0, .string ⟨#[]⟩] 31) none
      have V15 : Hid ((w14.alloc (.cells #[.int .i64 0, .int .i64 0, .string ⟨#[]⟩] 31)).heap[w14.heap.size]? = some (.cells #[.int .i64 0, .int .i64 0, .string ⟨#[]⟩] 31 (0, 0))) := Lib.hid (alc1 w14 _)
      have hvb : p < w14.heap.size := (Array.getElem?_eq_some_iff.1 J14.out.pp).1
      have J15 := Lib.hid (J14.out.then gz)
      generalize hwz : w14.alloc (.cells #[.int .i64 0, .int .i64 0, .string ⟨#[]⟩] 31) = w15 at *
      generalize w14.heap.size = vb at *
      clear gz hwz J14 X14
      obtain ⟨⟨c0, c1, c2, c3, c4⟩, f0, f1, f2, f3, f4⟩ := boxD5 J15.out.st
      go_wp2_with fail
      refine (HLt.out _ J15.out.g).mono ?_
      rintro e w16 ⟨⟨i3, x3, a3, rfl, hS3⟩, hg⟩
      have J16 := Lib.hid (J15.out.then hg)
      have D16 := Lib.hid hg
      clear hg
      have V16 := Lib.hid (blkD D16.out V15.out)
      clear V15
      clear c0 c1 c2 c3 c4 f0 f1 f2 f3 f4
      clear J15
      have S3 := Lib.hid hS3
      clear hS3 HLt
      obtain ⟨⟨c0, c1, c2, c3, c4⟩, f0, f1, f2, f3, f4⟩ := boxD5 J16.out.st
      have K := J16.out.setS i3 x3 a3
      have hz := blkR V16.out (grownD5 w16 w.heap.size (.slice (some ⟨b, o, none⟩) n k) (.int .i64 i3) (.int .i64 d) (.int .i64 x3) (.int .i64 a3)) (by omega)
      obtain ⟨⟨v0, v1, v2⟩, e0, e1, e2⟩ := boxD3 hz
      go_upto_region 30 with fail
      obtain ⟨w17, hw17⟩ : ∃ w17, w17 = ((((((((w16.setCell ⟨w.heap.size, 0, none⟩ (.slice (some ⟨b, o, none⟩) n k)).setCell ⟨w.heap.size, 1, none⟩ (.int .i64 i3)).setCell ⟨w.heap.size, 2, none⟩ (.int .i64 d)).setCell ⟨w.heap.size, 3, none⟩ (.int .i64 x3)).setCell ⟨w.heap.size, 4, none⟩ (.int .i64 a3)).setCell ⟨vb, 0, none⟩ (.int .i64 yk)).setCell ⟨vb, 1, none⟩ (.int .i64 yn)).setCell ⟨vb, 2, none⟩ (.string ys)) := ⟨_, rfl⟩
      have J17 : Hid (PrJ b o n k d w p i3 x3 a3 #[.int .i64 0, .string ⟨#[]⟩, .int .i64 0, .int .i64 vk, .int .i64 vn, .string vs, .string ⟨#[]⟩, .slice none 0 0, .slice none 0 0, .int .i64 ps] w17) := Lib.hid (by rw [hw17]; exact K.far3 hvb _ _ _)
      have V17 : Hid (w17.heap[vb]? = some (.cells #[.int .i64 yk, .int .i64 yn, .string ys] 31 (0, 0))) := Lib.hid (by rw [hw17]; exact setD3 hz)
      rw [← hw17]
      clear c0 c1 c2 c3 c4 f0 f1 f2 f3 f4
      clear hw17 K hz v0 v1 v2 e0 e1 e2 J16 V16
      obtain ⟨⟨c0, c1, c2, c3, c4⟩, f0, f1, f2, f3, f4⟩ := boxD5 J17.out.st
      obtain ⟨⟨p0, p1, p2, p3, p4⟩, p5, p6, p7, p8, p9⟩ := ten_of J17.out.pp
      obtain ⟨⟨g0, g1, g2, g3, g4⟩, g5, g6, g7, g8, g9⟩ := ten_f J17.out.pp
      go_upto_region 31 with fail
      obtain ⟨w18, hw18⟩ : ∃ w18, w18 = (w17.setCell ⟨p, 0, none⟩ (.int .i64 11)) := ⟨_, rfl⟩
      have J18 : Hid (PrJ b o n k d w p i3 x3 a3 #[.int .i64 11, .string ⟨#[]⟩, .int .i64 0, .int .i64 vk, .int .i64 vn, .string vs, .string ⟨#[]⟩, .slice none 0 0, .slice none 0 0, .int .i64 ps] w18) := Lib.hid (by rw [hw18]; exact (J17.out.setP 0 (.int .i64 11)))
      have V18 : Hid (w18.heap[vb]? = some (.cells #[.int .i64 yk, .int .i64 yn, .string ys] 31 (0, 0))) := Lib.hid (by rw [hw18]; repeat (first | with_reducible exact V17.out | refine blk_ne ?_ (by omega)))
      rw [← hw18]
      clear c0 c1 c2 c3 c4 f0 f1 f2 f3 f4
      clear p0 p1 p2 p3 p4 p5 p6 p7 p8 p9 g0 g1 g2 g3 g4 g5 g6 g7 g8 g9
      clear V17
      clear hw18 J17
      obtain ⟨⟨c0, c1, c2, c3, c4⟩, f0, f1, f2, f3, f4⟩ := boxD5 J18.out.st
      obtain ⟨⟨p0, p1, p2, p3, p4⟩, p5, p6, p7, p8, p9⟩ := ten_of J18.out.pp
      obtain ⟨⟨g0, g1, g2, g3, g4⟩, g5, g6, g7, g8, g9⟩ := ten_f J18.out.pp
      go_upto_region 32 with fail
      obtain ⟨w19, hw19⟩ : ∃ w19, w19 = (w18.setCell ⟨p, 2, none⟩ (.int .i64 q)) := ⟨_, rfl⟩
      have J19 : Hid (PrJ b o n k d w p i3 x3 a3 #[.int .i64 11, .string ⟨#[]⟩, .int .i64 q, .int .i64 vk, .int .i64 vn, .string vs, .string ⟨#[]⟩, .slice none 0 0, .slice none 0 0, .int .i64 ps] w19) := Lib.hid (by rw [hw19]; exact (J18.out.setP 2 (.int .i64 q)))
      have V19 : Hid (w19.heap[vb]? = some (.cells #[.int .i64 yk, .int .i64 yn, .string ys] 31 (0, 0))) := Lib.hid (by rw [hw19]; repeat (first | with_reducible exact V18.out | refine blk_ne ?_ (by omega)))
      rw [← hw19]
      clear c0 c1 c2 c3 c4 f0 f1 f2 f3 f4
      clear p0 p1 p2 p3 p4 p5 p6 p7 p8 p9 g0 g1 g2 g3 g4 g5 g6 g7 g8 g9
      clear V18
      clear hw19 J18
      obtain ⟨⟨v0, v1, v2⟩, e0, e1, e2⟩ := boxD3 V19.out
      obtain ⟨⟨p0, p1, p2, p3, p4⟩, p5, p6, p7, p8, p9⟩ := ten_of J19.out.pp
      obtain ⟨⟨g0, g1, g2, g3, g4⟩, g5, g6, g7, g8, g9⟩ := ten_f J19.out.pp
      have b7 : ∀ o : Obj, (w19.alloc o).cell? ⟨p, 7, none⟩ = some (.slice none 0 0) := fun o => (World.grownBy_alloc w19 o none).cell (by simpa using p7) (by simp)
      have d7 : ∀ o : Obj, (w19.alloc o).frozen? ⟨p, 7, none⟩ = false := fun o => frozen_of_row _ _ 7 _ _ (blkD (World.grownBy_alloc w19 o none) J19.out.pp)
      clear p0 p1 p2 p3 p4 p5 p6 p7 p8 p9 g0 g1 g2 g3 g4 g5 g6 g7 g8 g9
      go_upto_region 33 with fail
      clear b7 d7 v0 v1 v2 e0 e1 e2
      have ga := World.grownBy_alloc w19 (.cells #[.int .i64 yk, .int .i64 yn, .string ys] 31) none
      have ba := alc1 w19 (.cells #[.int .i64 yk, .int .i64 yn, .string ys] 31)
      have hkq : p < w19.heap.size := (Array.getElem?_eq_some_iff.1 J19.out.pp).1
      obtain ⟨w20, hw20⟩ : ∃ w20, w20 = (w19.alloc (.cells #[.int .i64 yk, .int .i64 yn, .string ys] 31)).setCell ⟨p, 7, none⟩ (.slice (some ⟨w19.heap.size, 0, none⟩) 1 1) := ⟨_, rfl⟩
      have J20 : Hid (PrJ b o n k d w p i3 x3 a3 #[.int .i64 11, .string ⟨#[]⟩, .int .i64 q, .int .i64 vk, .int .i64 vn, .string vs, .string ⟨#[]⟩, .slice (some ⟨w19.heap.size, 0, none⟩) 1 1, .slice none 0 0, .int .i64 ps] w20) := Lib.hid (by rw [hw20]; exact (J19.out.then ga).setP 7 _)
      have HPm : Hid (PmS (fun j => p < j) w20 (.mk 11 ⟨#[]⟩ q ⟨vk, vn, vs⟩ ⟨#[]⟩ (some ⟨w19.heap.size, 0, none⟩) 1 [⟨yk, yn, ys⟩] none 0 [] ps)) := Lib.hid (by
       rw [hw20]
       exact ⟨rw_one (g := w19.heap.size) (blkR ba (gq_cellR _ _ _ _) (by omega)) (by omega) (Nat.le_trans HYZ.out (by decide)), Nat.le_refl _, .inl rfl, Nat.le_refl _, trivial⟩)
      rw [← hw20]
      clear hw20 ga ba J19 V19 hkq
      obtain ⟨gq, hgq⟩ : ∃ gq, gq = w19.heap.size := ⟨_, rfl⟩
      rw [← hgq] at HPm J20
      simp only [← hgq]
      clear hgq
      have hp1 := J20.out.p1
      obtain ⟨y, hy⟩ : ∃ y : Pm, y = .mk 11 ⟨#[]⟩ q ⟨vk, vn, vs⟩ ⟨#[]⟩ (some ⟨gq, 0, none⟩) 1 [⟨yk, yn, ys⟩] none 0 [] ps := ⟨_, rfl⟩
      have HY := Lib.hid hy
      have Jy : Hid (PrJ b o n k d w p i3 x3 a3 y.c.toArray w20) := Lib.hid (by rw [hy]; exact J20.out)
      clear J20 hy
      refine wp_region_held_drew (S := (fun W => Hid (GY w20 W w.heap.size))) (by kernel_rfl) (Lib.hid (GY.of (grown_drewT (grown_reflX _ _)) _)) (fun hHeld => ?_)
      refine TKA (i := 0) (v := .agg #[.slice (some ⟨b, o, none⟩) n k, .int .i64 i3, .int .i64 d, .int .i64 x3, .int .i64 a3]) rfl (yieldsIf_load_mid (by rfl) _ _ rfl w.heap.size 0 rfl _ _ (fun W hS => range_rowD (blkY Jy.out.st hS.out (by omega) (by omega))) Try.underlying81 rfl st_size) ?_
      simp only [Act.put, List.getElem_toArray, List.getElem_cons_zero, List.size_toArray, List.length_cons, List.length_nil, Nat.reduceAdd, Array.replicate, List.replicate, List.setIfInBounds_toArray, List.set_cons_zero, List.set_cons_succ]
      refine TKA (i := 1) (v := .agg y.c.toArray) rfl (yieldsIf_load_mid (by rfl) _ _ rfl p 0 rfl y.c _ (fun W hS => range_rowD (blkY Jy.out.pp hS.out (by omega) (by omega))) Try.underlying34 rfl (show (Try.prog.info? 34).map (·.size) = some y.c.length by rw [Pm.c_len]; exact pred_size)) ?_
      simp only [Act.put, List.getElem_toArray, List.getElem_cons_succ, List.getElem_cons_zero, List.setIfInBounds_toArray, List.set_cons_zero, List.set_cons_succ]
      refine RD1 (i := 2) rfl (fun K' hK => ?_)
      obtain ⟨w21, hw21⟩ : ∃ w21, w21 = w20.drew := ⟨_, rfl⟩
      have gd : w20.grownBy w21 none := by rw [hw21]; exact grown_drewT (grown_reflX _ _)
      have Z21 : Hid (GY w20 w21 w.heap.size) := Lib.hid (GY.of gd _)
      have J21 := Lib.hid (Jy.out.then gd)
      have D21 := Lib.hid gd
      rw [← hw21]
      clear hw21 gd
      refine wp_store_row 81 (.tmp 2) (.tmp 116) rfl (w.heap.size + 1) #[.slice (some ⟨b, o, none⟩) n k, .int .i64 i3, .int .i64 d, .int .i64 x3, .int .i64 a3] (by rfl) (by rfl) 81 #[.slice none 0 0, .int .i64 0, .int .i64 0, .int .i64 0, .int .i64 0] J21.out.rs st_size rfl (by simp [Value.oneCell']) ?_
      have ZR : Hid (GY w20 _ w.heap.size) := Lib.hid (Z21.out.one (grown_setRow w21 (w.heap.size + 1) #[.slice (some ⟨b, o, none⟩) n k, .int .i64 i3, .int .i64 d, .int .i64 x3, .int .i64 a3]) (.inl rfl))
      refine hK.out _ _ ZR (fun hHeld => ?_)
      clear hK K'
      simp only [Act.put, List.getElem_toArray, List.getElem_cons_succ, List.getElem_cons_zero, List.setIfInBounds_toArray, List.set_cons_zero, List.set_cons_succ]
      refine RD1 (i := 3) rfl (fun K' hK => ?_)
      refine wp_store_row 34 (.tmp 3) (.tmp 117) rfl (w.heap.size + 1 + 1) y.c.toArray (by rfl) (by rfl) 34 z10 ((setRow_other _ _ _ _ (by omega)).trans J21.out.rp) (by rw [Pm.c_size]; exact pred_size) (by rw [Pm.c_size]; rfl) (Pm.c_all _) ?_
      have ZI : Hid (GY w20 _ w.heap.size) := Lib.hid (ZR.out.one (grown_setRow _ (w.heap.size + 1 + 1) y.c.toArray) (.inr rfl))
      have hF := J21.out.fin i3 x3 a3 y
      refine hK.out _ _ ZI (fun hHeld => ?_)
      clear hK K'
      simp only [Act.put, List.getElem_toArray, List.getElem_cons_succ, List.getElem_cons_zero, List.setIfInBounds_toArray, List.set_cons_zero, List.set_cons_succ]
      refine wpAnyH_done (by kernel_rfl) ?_ _
      go_wp2_with fail
      refine bodyPost_ret (res_cp rfl _ _ (w.heap.size + 1) (w.heap.size + 1 + 1) _ _ rfl rfl hF.1 hF.2.1 rfl (Pm.c_size _)) rfl ⟨i3, x3, a3, y, rfl, ?_, ?_, ?_, hF.2.2⟩
      ·rw [HRn.out]; exact S3.out
      ·intro _; rw [HRn.out, HY.out]; rfl
      ·rw [HY.out]; exact ((HPm.out.keep (.of D21.out)).keep (.fin (g := w.heap.size + 1) (fun j hj => by omega))).mono (fun j _ hj => by omega)
end Go.Proofs.Ytfambadamebjjaa
