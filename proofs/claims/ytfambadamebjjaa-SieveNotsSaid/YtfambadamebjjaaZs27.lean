import Derived.Test.YtfambadamebjjaaZs19
import Derived.Test.YtfambadamebjjaaZs26
import Derived.Test.YtfambadamebjjaaZs18
import Derived.Deep.DeepCutAuto
import Derived.Test.YtfambadamebjjaaZs02
set_option linter.unusedSimpArgs false
set_option linter.unusedVariables false
namespace Go.Proofs.Ytfambadamebjjaa
open Go.RowKit
theorem alc3a (w : World) (o o2 o3 : Obj) : (((w.alloc o).alloc o2).alloc o3).heap[w.heap.size]? = some o := blkD (World.grownBy_alloc _ o3 none) (alc2a w o o2)
theorem alc3b (w : World) (o o2 o3 : Obj) : (((w.alloc o).alloc o2).alloc o3).heap[w.heap.size + 1]? = some o2 := blkD (World.grownBy_alloc _ o3 none) (alc2b w o o2)
theorem alc3c (w : World) (o o2 o3 : Obj) : (((w.alloc o).alloc o2).alloc o3).heap[w.heap.size + 1 + 1]? = some o3 := by
 have := alc1 ((w.alloc o).alloc o2) o3
 rw [show ((w.alloc o).alloc o2).heap.size = w.heap.size + 1 + 1 by simp] at this
 exact this
theorem boxD3 {w : World} {b : Nat} {v0 v1 v2 : Value} {T : TypeId} (h : w.heap[b]? = some (.cells #[v0, v1, v2] T (0, 0))) : (w.cell? ⟨b, 0, none⟩ = some v0 ∧ w.cell? ⟨b, 1, none⟩ = some v1 ∧ w.cell? ⟨b, 2, none⟩ = some v2) ∧ w.frozen? ⟨b, 0, none⟩ = false ∧ w.frozen? ⟨b, 1, none⟩ = false ∧ w.frozen? ⟨b, 2, none⟩ = false := by
 have c0 := cell_of_row _ _ 0 _ _ _ h
 have c1 := cell_of_row _ _ 1 _ _ _ h
 have c2 := cell_of_row _ _ 2 _ _ _ h
 simp at c0 c1 c2
 exact ⟨⟨c0, c1, c2⟩, frozen_of_row _ _ 0 _ _ h, frozen_of_row _ _ 1 _ _ h, frozen_of_row _ _ 2 _ _ h⟩
def GY (w w' : World) (g : Nat) : Prop := w.heap.size ≤ w'.heap.size ∧ ∀ k, k < w.heap.size → k ≠ g + 1 → k ≠ g + 1 + 1 → w'.heap[k]? = w.heap[k]?
theorem GY.of {w w' : World} (h : w.grownBy w' none) (g : Nat) : GY w w' g := ⟨h.size, fun k hk _ _ => h.block k hk (by simp)⟩
theorem GY.one {w w' w'' : World} {g r : Nat} (h : GY w w' g) (k : w'.grownBy w'' (some r)) (hr : r = g + 1 ∨ r = g + 1 + 1) : GY w w'' g :=
 ⟨Nat.le_trans h.1 k.size, fun j hj h1 h2 => (k.block j (Nat.lt_of_lt_of_le hj h.1) (fun e => by cases e; rcases hr with e | e; exact h1 e; exact h2 e)).trans (h.2 j hj h1 h2)⟩
theorem blkY {w w' : World} {j g : Nat} {x : Obj} (h : w.heap[j]? = some x) (hg : GY w w' g) (h1 : j ≠ g + 1) (h2 : j ≠ g + 1 + 1) : w'.heap[j]? = some x :=
 (hg.2 j (Array.getElem?_eq_some_iff.1 h).1 h1 h2).trans h
def bTrue : ByteArray := ⟨#[84, 82, 85, 69]⟩
def bFalse : ByteArray := ⟨#[70, 65, 76, 83, 69]⟩
theorem keyNull : keyT bNull := .inl (by decide +kernel)
theorem keyTrue : keyT bTrue := .inl (by decide +kernel)
theorem keyFalse : keyT bFalse := .inl (by decide +kernel)
def litZ (s : RS) (c kd : Nat) : Bool := (decide (c = 0) && (decide (kd = 2) || decide (kd = 3))) || s.comes bNull || s.comes bTrue || s.comes bFalse
theorem litZ_read {b o n k i c a : Nat} {T : List Tk} {s : RS} {w : World} (h : TkE b o n k T w) (hs : SR n T s i c a) : decide (readC s.hd.text.data.toList = 0) = litZ s c (tkA T i).kind := by
 have r1 : readC bNull.data.toList = 0 ∧ readC bTrue.data.toList = 0 ∧ readC bFalse.data.toList = 0 := by decide +kernel
 by_cases hc : c = 0
 ·have hs0 := hs
  subst hc
  have hd := hs.hd
  have hw := h.tw _ (tkA_mem (T := T) (i := i) (by have := hs.lt; have := h.len; omega))
  rw [← hd] at hw ⊢
  have hb : ∀ t : ByteArray, s.comes t = true ↔ s.hd.text = t := fun t => by unfold RS.comes; exact decide_eq_true_iff
  rw [Bool.eq_iff_iff, decide_eq_true_iff]
  unfold litZ
  simp only [Bool.or_eq_true, Bool.and_eq_true, decide_eq_true_iff, hb, true_and]
  constructor
  ·intro e
   rcases hw.only e with e | e | ⟨_, e | e | e⟩
   ·exact .inl (.inl (.inl (.inl e)))
   ·exact .inl (.inl (.inl (.inr e)))
   ·exact .inl (.inl (.inr (bytes_ext e)))
   ·exact .inl (.inr (bytes_ext e))
   ·exact .inr (bytes_ext e)
  ·rintro (((e | e) | e) | e)
   ·exact hw.lit e
   ·rw [e]; exact r1.1
   ·rw [e]; exact r1.2.1
   ·rw [e]; exact r1.2.2
 ·obtain ⟨_, _, ht⟩ := hs.bad hc
  unfold litZ RS.comes
  rw [ht, decide_eq_false hc, Bool.false_and, Bool.false_or]
  decide +kernel
theorem litZ_true {b o n k i c a : Nat} {T : List Tk} {s : RS} {w : World} (h : TkE b o n k T w) (hs : SR n T s i c a) (hz : litZ s c (tkA T i).kind = true) : c = 0 ∧ a = 0 ∧ (tkA T i).kind ≠ 0 ∧ s.more ∧ s.literal = (s.pass, litV (tkA T i).text) := by
 have hr := litZ_read h hs
 rw [hz, decide_eq_true_iff] at hr
 have hm : s.more := .inr (fun e => by
  rw [e] at hr
  exact absurd hr (by decide +kernel))
 obtain ⟨rfl, rfl⟩ := hs.good hm
 have hd := hs.hd
 have hw := h.tw _ (tkA_mem (T := T) (i := i) (by have := hs.lt; have := h.len; omega))
 refine ⟨rfl, rfl, ?_, hm, ?_⟩
 ·rw [← hd] at hw ⊢
  rcases hw.only hr with e | e | ⟨e, _⟩ <;> rw [e] <;> decide
 ·unfold RS.literal
  rw [if_pos hr, hd]
theorem litZ_false {b o n k i c a : Nat} {T : List Tk} {s : RS} {w : World} (h : TkE b o n k T w) (hs : SR n T s i c a) (hz : litZ s c (tkA T i).kind = false) : s.literal = (s.wrong 11, ⟨0, 0, ⟨#[]⟩⟩) := by
 have hr := litZ_read h hs
 rw [hz, decide_eq_false_iff_not] at hr
 unfold RS.literal
 rw [if_neg hr]
theorem setD3 {w : World} {b : Nat} {v0 v1 v2 u0 u1 u2 : Value} {T : TypeId} (h : w.heap[b]? = some (.cells #[v0, v1, v2] T (0, 0))) : (((w.setCell ⟨b, 0, none⟩ u0).setCell ⟨b, 1, none⟩ u1).setCell ⟨b, 2, none⟩ u2).heap[b]? = some (.cells #[u0, u1, u2] T (0, 0)) := by
 have h0 := heap_setCell_same _ _ 0 _ _ u0 h
 have h1 := heap_setCell_same _ _ 1 _ _ u1 h0
 have h2 := heap_setCell_same _ _ 2 _ _ u2 h1
 simpa using h2
theorem rstep_anyC (b o n k : Nat) (T : List Tk) (s : RS) (w : World) (h : TkE b o n k T w) (i d c a : Nat) (hs : SR n T s i c a) (h1 : c = 0) (h3 : a = 0) (hm : (tkA T i).kind ≠ 0) :
  Calls Try.prog 33 #[.agg #[.slice (some ⟨b, o, none⟩) n k, .int .i64 i, .int .i64 d, .int .i64 c, .int .i64 a]] w fun e w' => e = .returned (.agg #[.slice (some ⟨b, o, none⟩) n k, .int .i64 ((i : Int) + 1), .int .i64 d, .int .i64 0, .int .i64 0]) ∧ w.grownBy w' none := by
 subst h1
 subst h3
 exact rstep_any b o n k T s w h i d 0 hs hm
theorem grownD3 (w : World) (g : Nat) (u0 u1 u2 : Value) : w.grownBy (((w.setCell ⟨g, 0, none⟩ u0).setCell ⟨g, 1, none⟩ u1).setCell ⟨g, 2, none⟩ u2) (some g) :=
 ((gq_cellR w g 0 u0).trans (gq_cellR _ g 1 u1)).trans (gq_cellR _ g 2 u2)
theorem litV_ofD {t : ByteArray} {k n : Int} {x : ByteArray} {c : Nat} (h : readV t.data.toList = .tuple #[.agg #[.int .i64 k, .int .i64 n, .string x], .int .i64 c]) : litV t = ⟨k, n, x⟩ := by
 unfold litV
 rw [h]
 rfl
set_option maxRecDepth 100000 in
theorem rlit_any (b o n k : Nat) (T : List Tk) (s : RS) (w : World) (h : TkE b o n k T w) (i d c a : Nat) (hs : SR n T s i c a) :
  Calls Try.prog 84 #[.agg #[.slice (some ⟨b, o, none⟩) n k, .int .i64 i, .int .i64 d, .int .i64 c, .int .i64 a]] w fun e w' => (∃ i' c' a' : Nat, e = .returned (.tuple #[.agg #[.slice (some ⟨b, o, none⟩) n k, .int .i64 i', .int .i64 d, .int .i64 c', .int .i64 a'], .agg #[.int .i64 s.literal.2.k, .int .i64 s.literal.2.n, .string s.literal.2.s]]) ∧ SR n T s.literal.1 i' c' a') ∧ w.grownBy w' none := by
 have HN := Lib.hid (fun W (hW : w.grownBy W none) => rnow_any b o n k T W (h.keep hW) i d c a hs.lt)
 have HF := Lib.hid (fun W (hW : w.grownBy W none) => rfail_any b o n k T s W (h.keep hW) i d c a 11 hs (by decide))
 have HI1 := Lib.hid (fun W (hW : w.grownBy W none) => ris_any b o n k T s W (h.keep hW) i d c a bNull hs keyNull)
 have HI2 := Lib.hid (fun W (hW : w.grownBy W none) => ris_any b o n k T s W (h.keep hW) i d c a bTrue hs keyTrue)
 have HI3 := Lib.hid (fun W (hW : w.grownBy W none) => ris_any b o n k T s W (h.keep hW) i d c a bFalse hs keyFalse)
 have A1 := Lib.hid (alc3a w (.cells #[.slice (some ⟨b, o, none⟩) n k, .int .i64 i, .int .i64 d, .int .i64 c, .int .i64 a] 81) (.cells #[.slice none 0 0, .int .i64 0, .int .i64 0, .int .i64 0, .int .i64 0] 81) (.cells #[.int .i64 0, .int .i64 0, .string ⟨#[]⟩] 31))
 have R1 := Lib.hid (alc3b w (.cells #[.slice (some ⟨b, o, none⟩) n k, .int .i64 i, .int .i64 d, .int .i64 c, .int .i64 a] 81) (.cells #[.slice none 0 0, .int .i64 0, .int .i64 0, .int .i64 0, .int .i64 0] 81) (.cells #[.int .i64 0, .int .i64 0, .string ⟨#[]⟩] 31))
 have V1 := Lib.hid (alc3c w (.cells #[.slice (some ⟨b, o, none⟩) n k, .int .i64 i, .int .i64 d, .int .i64 c, .int .i64 a] 81) (.cells #[.slice none 0 0, .int .i64 0, .int .i64 0, .int .i64 0, .int .i64 0] 81) (.cells #[.int .i64 0, .int .i64 0, .string ⟨#[]⟩] 31))
 have G1 := Lib.hid (gq_al (gq_al (gq_al (grown_reflT w none) (.cells #[.slice (some ⟨b, o, none⟩) n k, .int .i64 i, .int .i64 d, .int .i64 c, .int .i64 a] 81)) (.cells #[.slice none 0 0, .int .i64 0, .int .i64 0, .int .i64 0, .int .i64 0] 81)) (.cells #[.int .i64 0, .int .i64 0, .string ⟨#[]⟩] 31))
 have HZ := litZ_read h hs
 obtain ⟨res, hres⟩ : ∃ res, res = s.literal := ⟨_, rfl⟩
 rw [← hres]
 obtain ⟨z, hz⟩ : ∃ z, z = litZ s c (tkA T i).kind := ⟨_, rfl⟩
 rw [← hz] at HZ
 go_enter Try.func84, Try.ntmps84
 go_wp2_with fail
 refine (HN.out _ G1.out).mono ?_
 rintro e w2 ⟨rfl, hg⟩
 have V2 := Lib.hid (blkD hg V1.out)
 have R2 := Lib.hid (blkD hg R1.out)
 obtain ⟨⟨r0, r1, r2, r3, r4⟩, q0, q1, q2, q3, q4⟩ := boxD5 R2.out
 have A2 := Lib.hid (blkD hg A1.out)
 have G2 := Lib.hid (G1.out.trans hg)
 obtain ⟨⟨c0, c1, c2, c3, c4⟩, f0, f1, f2, f3, f4⟩ := boxD5 A2.out
 clear hg
 go_upto_region 2 with fail
 obtain ⟨w3, hw3⟩ : ∃ w3, w3 = w2.alloc (.cells #[.int .i64 (tkA T i).kind, .string (tkA T i).text, .int .i64 (tkA T i).pos] 94) := ⟨_, rfl⟩
 have gz : w2.grownBy w3 none := by rw [hw3]; exact World.grownBy_alloc w2 _ none
 have K3 : Hid (w3.heap[w2.heap.size]? = some (.cells #[.int .i64 (tkA T i).kind, .string (tkA T i).text, .int .i64 (tkA T i).pos] 94 (0, 0))) := Lib.hid (by rw [hw3]; exact alc1 w2 _)
 rw [← hw3]
 have A3 := Lib.hid (blkD gz A2.out)
 have R3 := Lib.hid (blkD gz R2.out)
 have V3 := Lib.hid (blkD gz V2.out)
 have G3 := Lib.hid (G2.out.trans gz)
 have hszw := G1.out.size
 have hblk : w.heap.size + 1 + 1 < w2.heap.size := (Array.getElem?_eq_some_iff.1 V2.out).1
 have HT1 := Lib.hid (fun hh => litZ_true h hs hh)
 have HT0 := Lib.hid (fun hh => litZ_false h hs hh)
 have HST := Lib.hid (fun W (hW : w.grownBy W none) (h1 : c = 0) (h2 : (tkA T i).kind ≠ 0) (h3 : a = 0) => rstep_anyC b o n k T s W (h.keep hW) i d c a hs h1 h3 h2)
 have HPS := Lib.hid (fun (h1 : c = 0) (h3 : a = 0) (hm : s.more) => (by subst h1; subst h3; exact hs.pass hm : SR n T s.pass (i + 1) 0 0))
 have hsz : (tkA T i).text.size ≤ 1510 := h.sz _ (tkA_mem (T := T) (i := i) (by have := hs.lt; have := h.len; omega))
 have HR := Lib.hid (fun W => refRead_any (tkA T i).text W hsz)
 have HL := Lib.hid (readV_code (tkA T i).text.data.toList)
 clear gz hw3 A1 A2 R1 R2 V1 V2 r0 r1 r2 r3 r4 q0 q1 q2 q3 q4 c0 c1 c2 c3 c4 f0 f1 f2 f3 f4 h hs HN hsz HZ
 generalize tkA T i = tk at *
 obtain ⟨kd, tx, ps⟩ := tk
 simp only at *
 go_cut [33] from 9 (fun s33 wx => s33 = .bool z ∧ Hid (w3.grownBy wx none))
 case first => as_aux_lemma =>
  obtain ⟨⟨c0, c1, c2, c3, c4⟩, f0, f1, f2, f3, f4⟩ := boxD5 A3.out
  obtain ⟨⟨v0, v1, v2⟩, e0, e1, e2⟩ := boxD3 K3.out
  unfold litZ at hz
  generalize s.comes bNull = y1 at *
  generalize s.comes bTrue = y2 at *
  generalize s.comes bFalse = y3 at *
  clear HF HT1 HT0 HST HPS HR HL R3 V3 K3
  by_cases hc : c = 0
  ·have ce : ((c : Int) == 0) = true := by rw [hc]; rfl
   rw [decide_eq_true hc, Bool.true_and] at hz
   by_cases h2 : kd = 2
   ·have ke2 : ((kd : Int) == 2) = true := by rw [h2]; rfl
    go_wp2_with fail
    go_meet
    exact ⟨by rw [hz, decide_eq_true h2]; simp, Lib.hid (grown_reflT _ _)⟩
   ·have ke2 : ((kd : Int) == 2) = false := by rw [beq_eq_false_iff_ne]; omega
    by_cases h3 : kd = 3
    ·have ke3 : ((kd : Int) == 3) = true := by rw [h3]; rfl
     go_wp2_with fail
     go_meet
     exact ⟨by rw [hz, decide_eq_true h3]; simp, Lib.hid (grown_reflT _ _)⟩
    ·have ke3 : ((kd : Int) == 3) = false := by rw [beq_eq_false_iff_ne]; omega
     have hq : (decide (kd = 2) || decide (kd = 3)) = false := by rw [decide_eq_false h2, decide_eq_false h3]; rfl
     rw [hq] at hz
     clear hc h2 h3
     go_wp2_with fail
     refine (HI1.out _ (G3.out.trans (grown_reflT _ _))).mono ?_
     rintro e x1 ⟨rfl, hg⟩
     have X1 := Lib.hid hg
     have A4 := Lib.hid (blkD hg A3.out)
     clear hg c0 c1 c2 c3 c4 f0 f1 f2 f3 f4
     obtain ⟨⟨c0, c1, c2, c3, c4⟩, f0, f1, f2, f3, f4⟩ := boxD5 A4.out
     cases y1 with
     | true =>
      go_wp2_with fail
      go_meet
      exact ⟨by rw [hz]; simp, Lib.hid ((grown_reflT _ _).trans X1.out)⟩
     | false =>
      go_wp2_with fail
      refine (HI2.out _ (G3.out.trans ((grown_reflT _ _).trans X1.out))).mono ?_
      rintro e x2 ⟨rfl, hg⟩
      have X2 := Lib.hid hg
      have A5 := Lib.hid (blkD hg A4.out)
      clear hg c0 c1 c2 c3 c4 f0 f1 f2 f3 f4
      obtain ⟨⟨c0, c1, c2, c3, c4⟩, f0, f1, f2, f3, f4⟩ := boxD5 A5.out
      cases y2 with
      | true =>
       go_wp2_with fail
       go_meet
       exact ⟨by rw [hz]; simp, Lib.hid (((grown_reflT _ _).trans X1.out).trans X2.out)⟩
      | false =>
       go_wp2_with fail
       refine (HI3.out _ (G3.out.trans (((grown_reflT _ _).trans X1.out).trans X2.out))).mono ?_
       rintro e x3 ⟨rfl, hg⟩
       have X3 := Lib.hid hg
       have A6 := Lib.hid (blkD hg A5.out)
       clear hg c0 c1 c2 c3 c4 f0 f1 f2 f3 f4
       obtain ⟨⟨c0, c1, c2, c3, c4⟩, f0, f1, f2, f3, f4⟩ := boxD5 A6.out
       cases y3 with
       | true =>
        go_wp2_with fail
        go_meet
        exact ⟨by rw [hz]; simp, Lib.hid ((((grown_reflT _ _).trans X1.out).trans X2.out).trans X3.out)⟩
       | false =>
        go_wp2_with fail
        go_meet
        exact ⟨by rw [hz]; simp [hq], Lib.hid ((((grown_reflT _ _).trans X1.out).trans X2.out).trans X3.out)⟩
  ·have ce : ((c : Int) == 0) = false := by rw [beq_eq_false_iff_ne]; omega
   have hq := hc
   rw [decide_eq_false hc, Bool.false_and] at hz
   clear hc
   go_wp2_with fail
   refine (HI1.out _ (G3.out.trans (grown_reflT _ _))).mono ?_
   rintro e x1 ⟨rfl, hg⟩
   have X1 := Lib.hid hg
   have A4 := Lib.hid (blkD hg A3.out)
   clear hg c0 c1 c2 c3 c4 f0 f1 f2 f3 f4
   obtain ⟨⟨c0, c1, c2, c3, c4⟩, f0, f1, f2, f3, f4⟩ := boxD5 A4.out
   cases y1 with
   | true =>
    go_wp2_with fail
    go_meet
    exact ⟨by rw [hz]; simp, Lib.hid ((grown_reflT _ _).trans X1.out)⟩
   | false =>
    go_wp2_with fail
    refine (HI2.out _ (G3.out.trans ((grown_reflT _ _).trans X1.out))).mono ?_
    rintro e x2 ⟨rfl, hg⟩
    have X2 := Lib.hid hg
    have A5 := Lib.hid (blkD hg A4.out)
    clear hg c0 c1 c2 c3 c4 f0 f1 f2 f3 f4
    obtain ⟨⟨c0, c1, c2, c3, c4⟩, f0, f1, f2, f3, f4⟩ := boxD5 A5.out
    cases y2 with
    | true =>
     go_wp2_with fail
     go_meet
     exact ⟨by rw [hz]; simp, Lib.hid (((grown_reflT _ _).trans X1.out).trans X2.out)⟩
    | false =>
     go_wp2_with fail
     refine (HI3.out _ (G3.out.trans (((grown_reflT _ _).trans X1.out).trans X2.out))).mono ?_
     rintro e x3 ⟨rfl, hg⟩
     have X3 := Lib.hid hg
     have A6 := Lib.hid (blkD hg A5.out)
     clear hg c0 c1 c2 c3 c4 f0 f1 f2 f3 f4
     obtain ⟨⟨c0, c1, c2, c3, c4⟩, f0, f1, f2, f3, f4⟩ := boxD5 A6.out
     cases y3 with
     | true =>
      go_wp2_with fail
      go_meet
      exact ⟨by rw [hz]; simp, Lib.hid ((((grown_reflT _ _).trans X1.out).trans X2.out).trans X3.out)⟩
     | false =>
      go_wp2_with fail
      go_meet
      exact ⟨by rw [hz]; simp [hq], Lib.hid ((((grown_reflT _ _).trans X1.out).trans X2.out).trans X3.out)⟩
 case rest =>
 obtain ⟨rfl, X4⟩ := hcut
 obtain ⟨w4, hw4⟩ : ∃ w4, w4 = wc := ⟨_, rfl⟩
 rw [← hw4] at X4 ⊢
 have G4 := Lib.hid (G3.out.trans X4.out)
 have A4 := Lib.hid (blkD X4.out A3.out)
 have R4 := Lib.hid (blkD X4.out R3.out)
 have V4 := Lib.hid (blkD X4.out V3.out)
 have K4 := Lib.hid (blkD X4.out K3.out)
 clear hw4 A3 R3 V3 K3 HI1 HI2 HI3
 obtain ⟨⟨v0, v1, v2⟩, e0, e1, e2⟩ := boxD3 K4.out
 cases z with
 | true =>
  obtain ⟨h1, h3, h2, hm, hlit⟩ := HT1.out hz.symm
  have HP := Lib.hid (fun W (hW : w.grownBy W none) => HST.out W hW h1 h2 h3)
  have HS := Lib.hid (HPS.out h1 h3 hm)
  obtain ⟨vk, vn, vs, hv⟩ := HL.out
  rw [litV_ofD hv] at hlit
  rw [hv] at HR
  have hre := hres.trans hlit
  clear hres
  subst hre
  clear HT1 HT0 HST HPS HL HF hz hlit hm h2 hv
  generalize readC tx.data.toList = cd at *
  obtain rfl := h1
  obtain rfl := h3
  simp only [show ((0 : Nat) : Int) = 0 from rfl] at *
  go_wp2_with fail
  refine (HR.out _).mono ?_
  rintro e w5 ⟨rfl, hg⟩
  have hgg := grown_belowX hg none
  have A5 := Lib.hid (blkD hgg A4.out)
  have R5 := Lib.hid (blkD hgg R4.out)
  have V5 := Lib.hid (blkD hgg V4.out)
  have G5 := Lib.hid (G4.out.trans hgg)
  clear hg hgg K4 A4 R4 V4 HR
  go_upto_region 4 with fail
  obtain ⟨w6, hw6⟩ : ∃ w6, w6 = w5.alloc (.cells #[.int .i64 vk, .int .i64 vn, .string vs] 31) := ⟨_, rfl⟩
  have gz : w5.grownBy w6 none := by rw [hw6]; exact World.grownBy_alloc w5 _ none
  have U6 : Hid (w6.heap[w5.heap.size]? = some (.cells #[.int .i64 vk, .int .i64 vn, .string vs] 31 (0, 0))) := Lib.hid (by rw [hw6]; exact alc1 w5 _)
  rw [← hw6]
  have A6 := Lib.hid (blkD gz A5.out)
  have R6 := Lib.hid (blkD gz R5.out)
  have V6 := Lib.hid (blkD gz V5.out)
  have G6 := Lib.hid (G5.out.trans gz)
  have h5 : w.heap.size + 1 + 1 < w5.heap.size := (Array.getElem?_eq_some_iff.1 V5.out).1
  clear gz hw6 A5 R5 V5 v0 v1 v2 e0 e1 e2
  refine wp_region_held_drew (S := (fun W => Hid (GY w6 W w.heap.size))) (by kernel_rfl) (Lib.hid (GY.of (grown_drewT (grown_reflX _ _)) _)) (fun hHeld => ?_)
  refine TKB (i := 0) (v := ?vaz) rfl ?yaz ?raz
  case yaz => (intro w hSw; obtain ⟨⟨c0, c1, c2, c3, c4⟩, f0, f1, f2, f3, f4⟩ := boxD5 (blkY A6.out hSw.out (by omega) (by omega)); clear hSw; go_simp; try with_reducible rfl)
  simp only [Act.put, List.getElem_toArray, List.getElem_cons_succ, List.getElem_cons_zero, List.size_toArray, List.length_cons, List.length_nil, Nat.reduceAdd, Array.replicate, List.replicate, List.setIfInBounds_toArray, List.set_cons_zero, List.set_cons_succ]
  refine TKB (i := 2) (v := ?vbz) rfl ?ybz ?rbz
  case ybz => (intro w hSw; obtain ⟨⟨v0, v1, v2⟩, e0, e1, e2⟩ := boxD3 (blkY U6.out hSw.out (by omega) (by omega)); clear hSw; go_simp; try with_reducible rfl)
  simp only [Act.put, List.getElem_toArray, List.getElem_cons_succ, List.getElem_cons_zero, List.size_toArray, List.length_cons, List.length_nil, Nat.reduceAdd, Array.replicate, List.replicate, List.setIfInBounds_toArray, List.set_cons_zero, List.set_cons_succ]
  refine RD1 (i := 1) rfl (fun K' hK => ?_)
  go_simp
  go_at_call 33
  refine (HP.out _ (gq_dr G6.out)).mono ?_
  rintro e w7 ⟨rfl, hg⟩
  have Z7 : Hid (GY w6 w7 w.heap.size) := Lib.hid (GY.of ((grown_drewT (grown_reflX _ _)).trans hg) _)
  have G7 := Lib.hid ((gq_dr G6.out).trans hg)
  have R7 := Lib.hid (blkD (w := w6.drew) hg R6.out)
  have V7 := Lib.hid (blkD (w := w6.drew) hg V6.out)
  obtain ⟨⟨r0, r1, r2, r3, r4⟩, q0, q1, q2, q3, q4⟩ := boxD5 R7.out
  clear hg
  refine hK.out _ _ Z7 (fun hHeld => ?_)
  clear hK K'
  simp only [Act.put, List.getElem_toArray, List.getElem_cons_succ, List.getElem_cons_zero, List.size_toArray, List.length_cons, List.length_nil, Nat.reduceAdd, Array.replicate, List.replicate, List.setIfInBounds_toArray, List.set_cons_zero, List.set_cons_succ]
  refine RD1 (i := 3) rfl (fun K' hK => ?_)
  go_simp
  have g8 := grownD5 w7 (w.heap.size + 1) (.slice (some ⟨b, o, none⟩) n k) (.int .i64 ((i : Int) + 1)) (.int .i64 d) (.int .i64 0) (.int .i64 0)
  have Z8 : Hid (GY w6 _ w.heap.size) := Lib.hid (Z7.out.one g8 (.inl rfl))
  have V8 := Lib.hid (blkR V7.out g8 (by omega))
  obtain ⟨⟨r0, r1, r2⟩, q0, q1, q2⟩ := boxD3 V8.out
  refine hK.out _ _ Z8 (fun hHeld => ?_)
  clear hK K'
  simp only [Act.put, List.getElem_toArray, List.getElem_cons_succ, List.getElem_cons_zero, List.size_toArray, List.length_cons, List.length_nil, Nat.reduceAdd, Array.replicate, List.replicate, List.setIfInBounds_toArray, List.set_cons_zero, List.set_cons_succ]
  refine RD1 (i := 4) rfl (fun K' hK => ?_)
  go_simp
  have Z9 : Hid (GY w6 _ w.heap.size) := Lib.hid (Z8.out.one (grownD3 _ (w.heap.size + 1 + 1) (.int .i64 vk) (.int .i64 vn) (.string vs)) (.inr rfl))
  refine hK.out _ _ Z9 (fun hHeld => ?_)
  clear hK K'
  simp only [Act.put, List.getElem_toArray, List.getElem_cons_succ, List.getElem_cons_zero, List.size_toArray, List.length_cons, List.length_nil, Nat.reduceAdd, Array.replicate, List.replicate, List.setIfInBounds_toArray, List.set_cons_zero, List.set_cons_succ]
  refine wpAnyH_done (by kernel_rfl) ?_ _
  go_wp2_with fail
  exact bodyPost_ret (res_cv rfl _ _ (w.heap.size + 1) (w.heap.size + 1 + 1) _ _ rfl rfl (blk_ne (blk_ne (blk_ne (setD5 R7.out) (by omega)) (by omega)) (by omega)) (setD3 V8.out) rfl rfl) rfl ⟨⟨i + 1, 0, 0, rfl, HS.out⟩, grown_thenX (grown_thenX G7.out g8 (fun j e => by cases e; exact Nat.le_succ _)) (grownD3 _ (w.heap.size + 1 + 1) _ _ _) (fun j e => by cases e; omega)⟩
 | false =>
  have hlit := HT0.out hz.symm
  have hre := hres.trans hlit
  clear hres
  subst hre
  clear HT1 HT0 HST HPS HL HR hz hlit v0 v1 v2 e0 e1 e2 K4
  obtain ⟨⟨c0, c1, c2, c3, c4⟩, f0, f1, f2, f3, f4⟩ := boxD5 A4.out
  go_wp2_with fail
  refine (HF.out _ G4.out).mono ?_
  rintro e w5 ⟨⟨c', a', rfl, hS⟩, hg⟩
  have HS := Lib.hid hS
  have V5 := Lib.hid (blkD hg V4.out)
  have R5 := Lib.hid (blkD hg R4.out)
  obtain ⟨⟨r0, r1, r2, r3, r4⟩, q0, q1, q2, q3, q4⟩ := boxD5 R5.out
  have A5 := Lib.hid (blkD hg A4.out)
  have G5 := Lib.hid (G4.out.trans hg)
  obtain ⟨⟨c0, c1, c2, c3, c4⟩, f0, f1, f2, f3, f4⟩ := boxD5 A5.out
  clear hg
  clear hS
  have g6 := grownD5 w5 (w.heap.size + 1) (.slice (some ⟨b, o, none⟩) n k) (.int .i64 (i : Int)) (.int .i64 d) (.int .i64 c') (.int .i64 a')
  obtain ⟨⟨v0, v1, v2⟩, e0, e1, e2⟩ := boxD3 (blkR V5.out g6 (by omega))
  go_wp2_with fail
  exact bodyPost_ret (res_cv rfl _ _ (w.heap.size + 1) (w.heap.size + 1 + 1) _ _ rfl rfl (by repeat (first | with_reducible exact setD5 R5.out | refine blk_ne ?_ (by simp <;> omega))) (setD3 (blkR V5.out g6 (by omega))) rfl rfl) rfl ⟨⟨i, c', a', rfl, HS.out⟩, grown_thenX (grown_thenX G5.out g6 (fun j e => by cases e; exact Nat.le_succ _)) (grownD3 _ (w.heap.size + 1 + 1) _ _ _) (fun j e => by cases e; omega)⟩

end Go.Proofs.Ytfambadamebjjaa
namespace Go.Proofs.Ytfambadamebjjaa
open Go.RowKit

end Go.Proofs.Ytfambadamebjjaa
namespace Go.Proofs.Ytfambadamebjjaa
open Go.RowKit
theorem key_sign (j : Nat) (h1 : 1 ≤ j) (h2 : j ≤ 6) : keyT (signS j) ∧ relT (signS j) = j := by
 have : j = 1 ∨ j = 2 ∨ j = 3 ∨ j = 4 ∨ j = 5 ∨ j = 6 := by omega
 rcases this with rfl | rfl | rfl | rfl | rfl | rfl <;> exact ⟨.inr (by decide +kernel), by decide +kernel⟩
theorem rel_zero (t : ByteArray) (h : ∀ q : Nat, 1 ≤ q → q < 7 → t ≠ signS q) : relT t = 0 := by
 have f : ∀ (q : Nat) (x : ByteArray), signS q = x → 1 ≤ q → q < 7 → t ≠ x := fun q x e a b => e ▸ h q a b
 unfold relT
 rw [if_neg (f 1 ⟨#[61]⟩ (by decide +kernel) (by omega) (by omega)), if_neg (f 2 ⟨#[60, 62]⟩ (by decide +kernel) (by omega) (by omega)), if_neg (f 3 ⟨#[60]⟩ (by decide +kernel) (by omega) (by omega)), if_neg (f 4 ⟨#[60, 61]⟩ (by decide +kernel) (by omega) (by omega)), if_neg (f 5 ⟨#[62]⟩ (by decide +kernel) (by omega) (by omega)), if_neg (f 6 ⟨#[62, 61]⟩ (by decide +kernel) (by omega) (by omega))]
set_option maxRecDepth 100000 in
theorem rrel_any (b o n k : Nat) (T : List Tk) (s : RS) (w : World) (h : TkE b o n k T w) (i d c a : Nat) (hs : SR n T s i c a) :
  Calls Try.prog 85 #[.agg #[.slice (some ⟨b, o, none⟩) n k, .int .i64 i, .int .i64 d, .int .i64 c, .int .i64 a]] w fun e w' => e = .returned (.int .i64 (relT s.hd.text : Nat)) ∧ w.grownBy w' none := by
 have HI := Lib.hid (fun (j : Nat) (h1 : 1 ≤ j) (h2 : j ≤ 6) W (hW : w.grownBy W none) => ris_any b o n k T s W (h.keep hW) i d c a (signS j) hs (key_sign j h1 h2).1)
 have HR : Hid (∀ j : Nat, 1 ≤ j → j ≤ 6 → s.comes (signS j) = true → relT s.hd.text = j) := Lib.hid (fun j h1 h2 hc => by
  have : s.hd.text = signS j := of_decide_eq_true hc
  rw [this]
  exact (key_sign j h1 h2).2)
 have HZ : Hid ((∀ q : Nat, 1 ≤ q → q < 7 → s.comes (signS q) = false) → relT s.hd.text = 0) := Lib.hid (fun hh => rel_zero _ (fun q h1 h2 => by
  have := hh q h1 h2
  unfold RS.comes at this
  exact of_decide_eq_false this))
 obtain ⟨res, hres⟩ : ∃ res, res = relT s.hd.text := ⟨_, rfl⟩
 rw [← hres] at HR HZ ⊢
 have A1 := Lib.hid (alc1 w (.cells #[.slice (some ⟨b, o, none⟩) n k, .int .i64 i, .int .i64 d, .int .i64 c, .int .i64 a] 81))
 have G1 := Lib.hid (gq_al (grown_reflT w none) (.cells #[.slice (some ⟨b, o, none⟩) n k, .int .i64 i, .int .i64 d, .int .i64 c, .int .i64 a] 81))
 clear h hs hres
 go_enter Try.func85, Try.ntmps85
 go_wp2_with fail
 obtain ⟨w1, hw1⟩ : ∃ w1, w1 = w.alloc (.cells #[.slice (some ⟨b, o, none⟩) n k, .int .i64 i, .int .i64 d, .int .i64 c, .int .i64 a] 81) := ⟨_, rfl⟩
 rw [← hw1] at A1 G1 ⊢
 clear hw1
 go_loopw [3] (fun s3 wr => ∃ j : Nat, s3 = .int .i64 j ∧ 1 ≤ j ∧ j ≤ 7 ∧ Hid (∀ q : Nat, 1 ≤ q → q < j → s.comes (signS q) = false) ∧ Hid (w1.grownBy wr none)) (fun s3 _ => 8 - (intOf s3).toNat)
 case atStart => exact ⟨1, rfl, by omega, by omega, Lib.hid (fun q a b => by omega), Lib.hid (grown_reflT _ _)⟩
 case round =>
  obtain ⟨j, rfl, h1, h7, HQ, KG⟩ := hrel
  have AR := Lib.hid (blkD KG.out A1.out)
  have GR := Lib.hid (G1.out.trans KG.out)
  by_cases hle : j ≤ 6
  ·have j6 : (j : Int) ≤ 6 := by omega
   go_upto_region 4 with fail
   refine wp_region_held_drew (S := (fun W => Hid (wr.grownBy W none))) (by kernel_rfl) (Lib.hid (grown_drewT (grown_reflX _ _))) (fun hHeld => ?_)
   refine TKB (i := 0) (v := ?vaz) rfl ?yaz ?raz
   case yaz => (intro w hSw; obtain ⟨⟨c0, c1, c2, c3, c4⟩, f0, f1, f2, f3, f4⟩ := boxD5 (blkD hSw.out AR.out); clear hSw; go_simp; try with_reducible rfl)
   simp only [Act.put, List.getElem_toArray, List.getElem_cons_succ, List.getElem_cons_zero, List.size_toArray, List.length_cons, List.length_nil, Nat.reduceAdd, Array.replicate, List.replicate, List.setIfInBounds_toArray, List.set_cons_zero, List.set_cons_succ]
   refine TKB (i := 1) (v := ?vbz) rfl ?ybz ?rbz
   case ybz => (intro w hSw; (try dsimp only at hSw); go_simp; try with_reducible rfl)
   simp only [Act.put, List.getElem_toArray, List.getElem_cons_succ, List.getElem_cons_zero, List.size_toArray, List.length_cons, List.length_nil, Nat.reduceAdd, Array.replicate, List.replicate, List.setIfInBounds_toArray, List.set_cons_zero, List.set_cons_succ]
   refine RD1 (i := 2) rfl (fun K' hK => ?_)
   go_simp
   go_at_call 91
   refine (refSign_any _ _).mono ?_
   rintro e x2 ⟨rfl, rfl⟩
   refine hK.out _ _ (Lib.hid (grown_drewT (grown_reflX _ _))) (fun hHeld => ?_)
   clear hK K'
   simp only [Act.put, List.getElem_toArray, List.getElem_cons_succ, List.getElem_cons_zero, List.size_toArray, List.length_cons, List.length_nil, Nat.reduceAdd, Array.replicate, List.replicate, List.setIfInBounds_toArray, List.set_cons_zero, List.set_cons_succ]
   refine RD1 (i := 3) rfl (fun K' hK => ?_)
   go_simp
   go_at_call 32
   refine (HI.out j h1 hle _ (gq_dr GR.out)).mono ?_
   rintro e x3 ⟨rfl, hg⟩
   have Z3 : Hid (wr.grownBy x3 none) := Lib.hid ((grown_drewT (grown_reflX _ _)).trans hg)
   clear hg
   refine hK.out _ _ Z3 (fun hHeld => ?_)
   clear hK K'
   simp only [Act.put, List.getElem_toArray, List.getElem_cons_succ, List.getElem_cons_zero, List.size_toArray, List.length_cons, List.length_nil, Nat.reduceAdd, Array.replicate, List.replicate, List.setIfInBounds_toArray, List.set_cons_zero, List.set_cons_succ]
   refine wpAnyH_done (by kernel_rfl) ?_ _
   have G3 := Lib.hid (GR.out.trans Z3.out)
   have KG3 := Lib.hid (KG.out.trans Z3.out)
   cases hy : s.comes (signS j) with
   | true =>
    obtain rfl := HR.out j h1 hle hy
    go_wp2_with fail
    go_ret
    exact ⟨rfl, G3.out⟩
   | false =>
    have HQ2 : Hid (∀ q : Nat, 1 ≤ q → q < j + 1 → s.comes (signS q) = false) := Lib.hid (fun q a b => by
     by_cases e : q = j
     ·rw [e]; exact hy
     ·exact HQ.out q a (by omega))
    go_wp2_with fail
    go_roundw
    case rel => exact ⟨j + 1, by go_num, by omega, by omega, HQ2, KG3⟩
    case measure => simp [intOf]; omega
  ·obtain rfl : j = 7 := by omega
   obtain rfl := HZ.out HQ.out
   go_wp2_with fail
   go_ret
   exact ⟨rfl, GR.out⟩
end Go.Proofs.Ytfambadamebjjaa
namespace Go.Proofs.Ytfambadamebjjaa
open Go.RowKit

end Go.Proofs.Ytfambadamebjjaa
