import Derived.Test.YtfambadamebjjaaZs19
import Derived.Test.YtfambadamebjjaaZs27
import Derived.Test.YtfambadamebjjaaZs25
import Derived.Laws.Tables
import Derived.Laws.Rows
import Derived.Test.YtfambadamebjjaaZs22
import Derived.Test.YtfambadamebjjaaZs05
set_option linter.unusedSimpArgs false
set_option linter.unusedVariables false
namespace Go.Proofs.Ytfambadamebjjaa
open Go.RowKit
def aggW (j : Nat) : ByteArray := [bCount, bSum, bMin, bMax].getD j ⟨#[]⟩
theorem aggW_key (j : Nat) (h : j < 4) : keyT (aggW j) := by
 have : j = 0 ∨ j = 1 ∨ j = 2 ∨ j = 3 := by omega
 rcases this with rfl | rfl | rfl | rfl <;> exact .inl (by decide +kernel)
theorem aggW_is (t : ByteArray) (j : Nat) (h : j < 4) : t = aggW j ↔ aggT t = j + 2 := by
 have n : bCount ≠ bSum ∧ bCount ≠ bMin ∧ bCount ≠ bMax ∧ bSum ≠ bMin ∧ bSum ≠ bMax ∧ bMin ≠ bMax := by decide +kernel
 obtain ⟨n1, n2, n3, n4, n5, n6⟩ := n
 have : j = 0 ∨ j = 1 ∨ j = 2 ∨ j = 3 := by omega
 rcases this with rfl | rfl | rfl | rfl <;> simp only [aggW, List.getD_cons_zero, List.getD_cons_succ, List.getD_eq_getElem?_getD, List.getElem?_cons_zero, List.getElem?_cons_succ, Option.getD_some] <;>
  rcases aggT_cases t with ⟨e, a⟩ | ⟨m1, e, a⟩ | ⟨m1, m2, e, a⟩ | ⟨m1, m2, m3, e, a⟩ | ⟨m1, m2, m3, m4, a⟩ <;> rw [a] <;> first | (subst e; simp [n1, n2, n3, n4, n5, n6, Ne.symm n1, Ne.symm n2, Ne.symm n3, Ne.symm n4, Ne.symm n5, Ne.symm n6]; done) | (simp [m1, m2, m3, m4]; done)
theorem aggT_le (t : ByteArray) : aggT t = 0 ∨ (2 ≤ aggT t ∧ aggT t ≤ 5) := by
 rcases aggT_cases t with ⟨e, a⟩ | ⟨m1, e, a⟩ | ⟨m1, m2, e, a⟩ | ⟨m1, m2, m3, e, a⟩ | ⟨m1, m2, m3, m4, a⟩ <;> rw [a] <;> decide
def aggJ (g j : Nat) : Nat := if g < j + 2 then g else 0
theorem aggJ_hit {g j : Nat} (h : g = j + 2) : aggJ g (j + 1) = j + 2 := by unfold aggJ; rw [if_pos (by omega)]; exact h
theorem aggJ_miss {g j : Nat} (h : g ≠ j + 2) : aggJ g (j + 1) = aggJ g j := by
 unfold aggJ
 by_cases e : g < j + 2
 ·rw [if_pos e, if_pos (by omega)]
 ·rw [if_neg e, if_neg (by omega)]
theorem GY.grown {w w' w'' : World} {g : Nat} (h : GY w w' g) (k : w'.grownBy w'' none) : GY w w'' g :=
 ⟨Nat.le_trans h.1 k.size, fun j hj h1 h2 => (k.block j (Nat.lt_of_lt_of_le hj h.1) (by simp)).trans (h.2 j hj h1 h2)⟩
theorem boxD4 {w : World} {b : Nat} {v0 v1 v2 v3 : Value} {T : TypeId} (h : w.heap[b]? = some (.cells #[v0, v1, v2, v3] T (0, 0))) : w.cell? ⟨b, 0, none⟩ = some v0 ∧ w.cell? ⟨b, 1, none⟩ = some v1 ∧ w.cell? ⟨b, 2, none⟩ = some v2 ∧ w.cell? ⟨b, 3, none⟩ = some v3 := by
 have c0 := cell_of_row _ _ 0 _ _ _ h
 have c1 := cell_of_row _ _ 1 _ _ _ h
 have c2 := cell_of_row _ _ 2 _ _ _ h
 have c3 := cell_of_row _ _ 3 _ _ _ h
 simp at c0 c1 c2 c3
 exact ⟨c0, c1, c2, c3⟩
theorem cellW {w : World} {b j : Nat} {T : TypeId} (h : w.heap[b]? = some (.cells #[.string (aggW 0), .string (aggW 1), .string (aggW 2), .string (aggW 3)] T (0, 0))) (hj : j < 4) : w.cell? ⟨b, j, none⟩ = some (.string (aggW j)) := by
 obtain ⟨k0, k1, k2, k3⟩ := boxD4 h
 have : j = 0 ∨ j = 1 ∨ j = 2 ∨ j = 3 := by omega
 rcases this with rfl | rfl | rfl | rfl <;> assumption
set_option maxRecDepth 100000 in
set_option maxHeartbeats 6400000 in
theorem ritem_any (b o n k : Nat) (T : List Tk) (s : RS) (w : World) (h : TkE b o n k T w) (i d c a : Nat) (hs : SR n T s i c a) :
  Calls Try.prog 52 #[.agg #[.slice (some ⟨b, o, none⟩) n k, .int .i64 i, .int .i64 d, .int .i64 c, .int .i64 a]] w fun e w' => (∃ i' c' a' : Nat, (∃ p : Nat, e = .returned (.tuple #[.agg #[.slice (some ⟨b, o, none⟩) n k, .int .i64 i', .int .i64 d, .int .i64 c', .int .i64 a'], .agg #[.int .i64 ((itemL s).2.agg : Nat), .string (itemL s).2.col, .int .i64 p]])) ∧ SR n T (itemL s).1 i' c' a') ∧ w.grownBy w' none := by
 have HN := Lib.hid (fun W (hW : w.grownBy W none) => rnow_any b o n k T W (h.keep hW) i d c a hs.lt)
 have HI := Lib.hid (fun (j : Nat) (hj : j < 4) W (hW : w.grownBy W none) => ris_any b o n k T s W (h.keep hW) i d c a (aggW j) hs (aggW_key j hj))
 have A1 := Lib.hid (alc3a w (.cells #[.slice (some ⟨b, o, none⟩) n k, .int .i64 i, .int .i64 d, .int .i64 c, .int .i64 a] 81) (.cells #[.slice none 0 0, .int .i64 0, .int .i64 0, .int .i64 0, .int .i64 0] 81) (.cells #[.int .i64 0, .string ⟨#[]⟩, .int .i64 0] 106))
 have R1 := Lib.hid (alc3b w (.cells #[.slice (some ⟨b, o, none⟩) n k, .int .i64 i, .int .i64 d, .int .i64 c, .int .i64 a] 81) (.cells #[.slice none 0 0, .int .i64 0, .int .i64 0, .int .i64 0, .int .i64 0] 81) (.cells #[.int .i64 0, .string ⟨#[]⟩, .int .i64 0] 106))
 have I1 := Lib.hid (alc3c w (.cells #[.slice (some ⟨b, o, none⟩) n k, .int .i64 i, .int .i64 d, .int .i64 c, .int .i64 a] 81) (.cells #[.slice none 0 0, .int .i64 0, .int .i64 0, .int .i64 0, .int .i64 0] 81) (.cells #[.int .i64 0, .string ⟨#[]⟩, .int .i64 0] 106))
 have G1 := Lib.hid (gq_al (gq_al (gq_al (grown_reflT w none) (.cells #[.slice (some ⟨b, o, none⟩) n k, .int .i64 i, .int .i64 d, .int .i64 c, .int .i64 a] 81)) (.cells #[.slice none 0 0, .int .i64 0, .int .i64 0, .int .i64 0, .int .i64 0] 81)) (.cells #[.int .i64 0, .string ⟨#[]⟩, .int .i64 0] 106))
 have HH := Lib.hid h
 have HSR := Lib.hid hs
 have HNm := Lib.hid (fun W (hW : w.grownBy W none) => rname_any b o n k T s W (h.keep hW) i d c a hs)
 have HSt := Lib.hid (fun (h1 : c = 0) (h3 : a = 0) (h2 : (tkA T i).kind ≠ 0) W (hW : w.grownBy W none) => rstep_anyC b o n k T s W (h.keep hW) i d c a hs h1 h3 h2)
 have HM : Hid (aggT s.hd.text ≠ 0 → c = 0 ∧ a = 0 ∧ (tkA T i).kind ≠ 0 ∧ s.more) := Lib.hid (fun hg => by
  rcases aggT_le s.hd.text with e | ⟨e1, e2⟩
  ·exact absurd e hg
  ·exact hs.come h (aggW_key (aggT s.hd.text - 2) (by omega)) (decide_eq_true ((aggW_is _ _ (by omega)).2 (by omega))))
 obtain ⟨res, hres⟩ : ∃ res, res = itemL s := ⟨_, rfl⟩
 have HRes := Lib.hid hres
 rw [← hres]
 obtain ⟨g, hg0⟩ : ∃ g, g = aggT s.hd.text := ⟨_, rfl⟩
 have HG := Lib.hid hg0
 have HB : Hid (∀ j, j < 4 → s.comes (aggW j) = decide (g = j + 2)) := Lib.hid (fun j hj => by
  unfold RS.comes
  rw [Bool.eq_iff_iff, decide_eq_true_iff, decide_eq_true_iff, hg0]
  exact aggW_is _ j hj)
 have hgl := aggT_le s.hd.text
 rw [← hg0] at HM hgl
 generalize (tkA T i) = tk at *
 obtain ⟨kd, tx, ps⟩ := tk
 simp only at *
 clear h hs hres hg0
 go_enter Try.func52, Try.ntmps52
 go_wp2_with fail
 refine (HN.out _ G1.out).mono ?_
 rintro e w2 ⟨rfl, hg⟩
 have t1 := fieldD2 (.int .i64 kd) (.string tx) (.int .i64 ps) w2
 have I2 := Lib.hid (blkD hg I1.out)
 have R2 := Lib.hid (blkD hg R1.out)
 obtain ⟨⟨r0, r1, r2, r3, r4⟩, q0, q1, q2, q3, q4⟩ := boxD5 R2.out
 have A2 := Lib.hid (blkD hg A1.out)
 have G2 := Lib.hid (G1.out.trans hg)
 obtain ⟨⟨c0, c1, c2, c3, c4⟩, f0, f1, f2, f3, f4⟩ := boxD5 A2.out
 clear hg
 go_upto_region 3 with fail
 obtain ⟨w3, hw3⟩ : ∃ w3, w3 = (w2.alloc (.cells #[.int .i64 0, .string ⟨#[]⟩, .int .i64 ps] 106)).alloc (.cells #[.string ⟨#[67, 79, 85, 78, 84]⟩, .string ⟨#[83, 85, 77]⟩, .string ⟨#[77, 73, 78]⟩, .string ⟨#[77, 65, 88]⟩] 146) := ⟨_, rfl⟩
 have gz : w2.grownBy w3 none := by rw [hw3]; exact gq_al (gq_al (grown_reflT w2 none) _) _
 have X3 : Hid (w3.heap[w2.heap.size]? = some (.cells #[.int .i64 0, .string ⟨#[]⟩, .int .i64 ps] 106 (0, 0))) := Lib.hid (by rw [hw3]; exact alc2a w2 _ _)
 have W3 : Hid (w3.heap[w2.heap.size + 1]? = some (.cells #[.string (aggW 0), .string (aggW 1), .string (aggW 2), .string (aggW 3)] 146 (0, 0))) := Lib.hid (by rw [hw3]; exact alc2b w2 _ _)
 rw [← hw3]
 have A3 := Lib.hid (blkD gz A2.out)
 have R3 := Lib.hid (blkD gz R2.out)
 have I3 := Lib.hid (blkD gz I2.out)
 have G3 := Lib.hid (G2.out.trans gz)
 have hblk : w.heap.size + 1 + 1 < w2.heap.size := (Array.getElem?_eq_some_iff.1 I2.out).1
 clear gz hw3 A1 A2 R1 R2 I1 I2 r0 r1 r2 r3 r4 q0 q1 q2 q3 q4 c0 c1 c2 c3 c4 f0 f1 f2 f3 f4 t1 HN
 go_wp2_with fail
 go_loopw [12] (fun s12 wr => ∃ j : Nat, s12 = .int .i64 j ∧ j ≤ 4 ∧ Hid (w3.grownBy wr (some w2.heap.size)) ∧ Hid (wr.heap[w2.heap.size]? = some (.cells #[.int .i64 (aggJ g j : Nat), .string ⟨#[]⟩, .int .i64 ps] 106 (0, 0)))) (fun s12 _ => 4 - (intOf s12).toNat)
 case atStart => exact ⟨0, rfl, by omega, Lib.hid (grown_reflX _ _), Lib.hid (by
  have : aggJ g 0 = 0 := by unfold aggJ; split <;> omega
  rw [this]; exact X3.out)⟩
 case round =>
  obtain ⟨j, rfl, hj, KG, XR⟩ := hrel
  have AR := Lib.hid (blkR A3.out KG.out (by omega))
  have WR := Lib.hid (blkR W3.out KG.out (by omega))
  have GR := Lib.hid (grown_thenX G3.out KG.out (fun j e => by cases e; omega))
  by_cases hlt : j < 4
  ·have j0 : (0 : Int) ≤ j := by omega
   have j4 : (j : Int) < 4 := by omega
   go_upto_region 6 with fail
   refine wp_region_held_drew (S := (fun W => Hid (wr.grownBy W none))) (by kernel_rfl) (Lib.hid (grown_drewT (grown_reflX _ _))) (fun hHeld => ?_)
   refine TKB (i := 0) (v := ?vaz) rfl ?yaz ?raz
   case yaz => (intro w hSw; obtain ⟨⟨c0, c1, c2, c3, c4⟩, f0, f1, f2, f3, f4⟩ := boxD5 (blkD hSw.out AR.out); clear hSw; go_simp; try with_reducible rfl)
   simp only [Act.put, List.getElem_toArray, List.getElem_cons_succ, List.getElem_cons_zero, List.size_toArray, List.length_cons, List.length_nil, Nat.reduceAdd, Array.replicate, List.replicate, List.setIfInBounds_toArray, List.set_cons_zero, List.set_cons_succ]
   refine TKB (i := 1) (v := ?vbz) rfl ?ybz ?rbz
   case ybz => (intro w hSw; (try dsimp only at hSw); go_simp; try with_reducible rfl)
   simp only [Act.put, List.getElem_toArray, List.getElem_cons_succ, List.getElem_cons_zero, List.size_toArray, List.length_cons, List.length_nil, Nat.reduceAdd, Array.replicate, List.replicate, List.setIfInBounds_toArray, List.set_cons_zero, List.set_cons_succ]
   refine TKB (i := 2) (v := ?vcz) rfl ?ycz ?rcz
   case ycz => (intro w hSw; skip; clear hSw; go_simp; try with_reducible rfl)
   simp only [Act.put, List.getElem_toArray, List.getElem_cons_succ, List.getElem_cons_zero, List.size_toArray, List.length_cons, List.length_nil, Nat.reduceAdd, Array.replicate, List.replicate, List.setIfInBounds_toArray, List.set_cons_zero, List.set_cons_succ]
   refine TKB (i := 3) (v := ?vdz) rfl ?ydz ?rdz
   case ydz => (intro w hSw; have kj := cellW (blkD hSw.out WR.out) hlt; clear hSw; go_simp; try with_reducible rfl)
   simp only [Act.put, List.getElem_toArray, List.getElem_cons_succ, List.getElem_cons_zero, List.size_toArray, List.length_cons, List.length_nil, Nat.reduceAdd, Array.replicate, List.replicate, List.setIfInBounds_toArray, List.set_cons_zero, List.set_cons_succ]
   refine RD1 (i := 4) rfl (fun K' hK => ?_)
   go_simp
   go_at_call 32
   refine (HI.out j hlt _ (gq_dr GR.out)).mono ?_
   rintro e x3 ⟨rfl, hg⟩
   have Z3 : Hid (wr.grownBy x3 none) := Lib.hid ((grown_drewT (grown_reflX _ _)).trans hg)
   clear hg
   refine hK.out _ _ Z3 (fun hHeld => ?_)
   clear hK K'
   simp only [Act.put, List.getElem_toArray, List.getElem_cons_succ, List.getElem_cons_zero, List.size_toArray, List.length_cons, List.length_nil, Nat.reduceAdd, Array.replicate, List.replicate, List.setIfInBounds_toArray, List.set_cons_zero, List.set_cons_succ]
   refine wpAnyH_done (by kernel_rfl) ?_ _
   have G5 := Lib.hid (KG.out.trans (grown_anyD Z3.out _))
   have X5 := Lib.hid (blkD Z3.out XR.out)
   rw [HB.out j hlt]
   by_cases hy : g = j + 2
   ·rw [decide_eq_true hy]
    obtain ⟨⟨v0, v1, v2⟩, e0, e1, e2⟩ := boxD3 X5.out
    go_wp2_with fail
    go_roundw
    case rel => exact ⟨j + 1, by go_num, by omega, Lib.hid (G5.out.trans (gq_cellR _ _ _ _)), Lib.hid (by
     have := heap_setCell_same _ _ 0 _ _ (.int .i64 ((j : Int) + 2)) X5.out
     rw [aggJ_hit hy]
     simpa using this)⟩
    case measure => simp [intOf]; omega
   ·rw [decide_eq_false hy]
    go_wp2_with fail
    go_roundw
    case rel => exact ⟨j + 1, by go_num, by omega, G5, Lib.hid (by rw [aggJ_miss hy]; exact X5.out)⟩
    case measure => simp [intOf]; omega
  ·obtain rfl : j = 4 := by omega
   have X4 : Hid (wr.heap[w2.heap.size]? = some (.cells #[.int .i64 (g : Nat), .string ⟨#[]⟩, .int .i64 ps] 106 (0, 0))) := Lib.hid (by
    have : aggJ g 4 = g := by unfold aggJ; rw [if_pos (by omega)]
    rw [← this]; exact XR.out)
   have R4 := Lib.hid (blkR R3.out KG.out (by omega))
   have I4 := Lib.hid (blkR I3.out KG.out (by omega))
   clear A3 R3 I3 X3 W3 WR XR hlt HB HI hj
   obtain ⟨⟨v0, v1, v2⟩, e0, e1, e2⟩ := boxD3 X4.out
   by_cases hg : g = 0
   ·have k0 : ((g : Int) == 0) = true := by rw [hg]; rfl
    have hre : res = (s.name.1, ⟨0, s.name.2, s.hd.pos⟩) := by rw [HRes.out]; unfold itemL columnL; rw [← HG.out, if_pos hg]
    subst hre
    clear HM HSt HRes
    obtain ⟨⟨c0, c1, c2, c3, c4⟩, f0, f1, f2, f3, f4⟩ := boxD5 AR.out
    go_wp2_with fail
    refine (HNm.out _ GR.out).mono ?_
    rintro e w5 ⟨⟨i1, d1, a1, rfl, hS⟩, hg5⟩
    have HS := Lib.hid hS
    have A5 := Lib.hid (blkD hg5 AR.out)
    have X5 := Lib.hid (blkD hg5 X4.out)
    have R5 := Lib.hid (blkD hg5 R4.out)
    have I5 := Lib.hid (blkD hg5 I4.out)
    have G5 := Lib.hid (GR.out.trans hg5)
    have h5 : w2.heap.size < w5.heap.size := (Array.getElem?_eq_some_iff.1 X5.out).1
    obtain ⟨⟨c0, c1, c2, c3, c4⟩, f0, f1, f2, f3, f4⟩ := boxD5 A5.out
    obtain ⟨⟨v0, v1, v2⟩, e0, e1, e2⟩ := boxD3 (blkR X5.out (grownD5 w5 w.heap.size (.slice (some ⟨b, o, none⟩) n k) (.int .i64 i1) (.int .i64 d) (.int .i64 d1) (.int .i64 a1)) (by omega))
    clear hS hg5
    go_upto_region 11 with fail
    have g6 := grownD5 w5 w.heap.size (.slice (some ⟨b, o, none⟩) n k) (.int .i64 i1) (.int .i64 d) (.int .i64 d1) (.int .i64 a1)
    obtain ⟨w7, hw7⟩ : ∃ w7, w7 = (((((w5.setCell ⟨w.heap.size, 0, none⟩ (.slice (some ⟨b, o, none⟩) n k)).setCell ⟨w.heap.size, 1, none⟩ (.int .i64 i1)).setCell ⟨w.heap.size, 2, none⟩ (.int .i64 d)).setCell ⟨w.heap.size, 3, none⟩ (.int .i64 d1)).setCell ⟨w.heap.size, 4, none⟩ (.int .i64 a1)).setCell ⟨w2.heap.size, 1, none⟩ (.string s.name.2) := ⟨_, rfl⟩
    have gx : (((((w5.setCell ⟨w.heap.size, 0, none⟩ (.slice (some ⟨b, o, none⟩) n k)).setCell ⟨w.heap.size, 1, none⟩ (.int .i64 i1)).setCell ⟨w.heap.size, 2, none⟩ (.int .i64 d)).setCell ⟨w.heap.size, 3, none⟩ (.int .i64 d1)).setCell ⟨w.heap.size, 4, none⟩ (.int .i64 a1)).grownBy w7 (some w2.heap.size) := by rw [hw7]; exact gq_cellR _ _ _ _
    have A7 := Lib.hid (blkR (setD5 A5.out) gx (by omega))
    have X7 : Hid (w7.heap[w2.heap.size]? = some (.cells #[.int .i64 (g : Nat), .string s.name.2, .int .i64 ps] 106 (0, 0))) := Lib.hid (by
     rw [hw7]
     have := heap_setCell_same _ _ 1 _ _ (.string s.name.2) (blkR X5.out g6 (by omega))
     simpa using this)
    have R7 := Lib.hid (blkR (blkR R5.out g6 (by omega)) gx (by omega))
    have I7 := Lib.hid (blkR (blkR I5.out g6 (by omega)) gx (by omega))
    have G7 := Lib.hid (grown_thenX (grown_thenX G5.out g6 (fun j e => by cases e; exact Nat.le_refl _)) gx (fun j e => by cases e; omega))
    rw [← hw7]
    clear hw7 gx g6 A5 X5 R5 I5 c0 c1 c2 c3 c4 f0 f1 f2 f3 f4 v0 v1 v2 e0 e1 e2
    subst hg
    refine wp_region_held_drew (S := (fun W => Hid (GY w7 W w.heap.size))) (by kernel_rfl) (Lib.hid (GY.of (grown_drewT (grown_reflX _ _)) _)) (fun hHeld => ?_)
    refine TKB (i := 0) (v := ?vez) rfl ?yez ?rez
    case yez => (intro w hSw; obtain ⟨⟨c0, c1, c2, c3, c4⟩, f0, f1, f2, f3, f4⟩ := boxD5 (blkY A7.out hSw.out (by omega) (by omega)); clear hSw; go_simp; try with_reducible rfl)
    simp only [Act.put, List.getElem_toArray, List.getElem_cons_succ, List.getElem_cons_zero, List.size_toArray, List.length_cons, List.length_nil, Nat.reduceAdd, Array.replicate, List.replicate, List.setIfInBounds_toArray, List.set_cons_zero, List.set_cons_succ]
    refine TKB (i := 1) (v := ?vfz) rfl ?yfz ?rfz
    case yfz => (intro w hSw; obtain ⟨⟨v0, v1, v2⟩, e0, e1, e2⟩ := boxD3 (blkY X7.out hSw.out (by omega) (by omega)); clear hSw; go_simp; try with_reducible rfl)
    simp only [Act.put, List.getElem_toArray, List.getElem_cons_succ, List.getElem_cons_zero, List.size_toArray, List.length_cons, List.length_nil, Nat.reduceAdd, Array.replicate, List.replicate, List.setIfInBounds_toArray, List.set_cons_zero, List.set_cons_succ]
    refine RD1 (i := 2) rfl (fun K' hK => ?_)
    obtain ⟨w8, hw8⟩ : ∃ w8, w8 = w7.drew := ⟨_, rfl⟩
    have gd : w7.grownBy w8 none := by rw [hw8]; exact grown_drewT (grown_reflX _ _)
    have Z8 : Hid (GY w7 w8 w.heap.size) := Lib.hid (GY.of gd _)
    have G8 := Lib.hid (G7.out.trans gd)
    have R8 := Lib.hid (blkD gd R7.out)
    have I8 := Lib.hid (blkD gd I7.out)
    rw [← hw8]
    clear hw8 gd
    obtain ⟨⟨r0, r1, r2, r3, r4⟩, q0, q1, q2, q3, q4⟩ := boxD5 (show w8.heap[w.heap.size + 1]? = _ from R8.out)
    go_simp
    have g8 := grownD5 w8 (w.heap.size + 1) (.slice (some ⟨b, o, none⟩) n k) (.int .i64 i1) (.int .i64 d) (.int .i64 d1) (.int .i64 a1)
    have ZR : Hid (GY w7 _ w.heap.size) := Lib.hid (Z8.out.one g8 (.inl rfl))
    have IR := Lib.hid (blkR (w := w8) I8.out g8 (by omega))
    obtain ⟨⟨r0, r1, r2⟩, q0, q1, q2⟩ := boxD3 IR.out
    refine hK.out _ _ ZR (fun hHeld => ?_)
    clear hK K'
    simp only [Act.put, List.getElem_toArray, List.getElem_cons_succ, List.getElem_cons_zero, List.size_toArray, List.length_cons, List.length_nil, Nat.reduceAdd, Array.replicate, List.replicate, List.setIfInBounds_toArray, List.set_cons_zero, List.set_cons_succ]
    refine RD1 (i := 3) rfl (fun K' hK => ?_)
    go_simp
    have ZI : Hid (GY w7 _ w.heap.size) := Lib.hid (ZR.out.one (grownD3 _ (w.heap.size + 1 + 1) (.int .i64 ((0 : Nat) : Int)) (.string s.name.2) (.int .i64 ps)) (.inr rfl))
    refine hK.out _ _ ZI (fun hHeld => ?_)
    clear hK K'
    simp only [Act.put, List.getElem_toArray, List.getElem_cons_succ, List.getElem_cons_zero, List.size_toArray, List.length_cons, List.length_nil, Nat.reduceAdd, Array.replicate, List.replicate, List.setIfInBounds_toArray, List.set_cons_zero, List.set_cons_succ]
    refine wpAnyH_done (by kernel_rfl) ?_ _
    go_wp2_with fail
    exact bodyPost_ret (res_ci rfl _ _ (w.heap.size + 1) (w.heap.size + 1 + 1) _ _ rfl rfl (blk_ne (blk_ne (blk_ne (setD5 R8.out) (by omega)) (by omega)) (by omega)) (setD3 IR.out) rfl rfl) rfl ⟨⟨i1, d1, a1, ⟨ps, rfl⟩, HS.out⟩, grown_thenX (grown_thenX G8.out g8 (fun j e => by cases e; exact Nat.le_succ _)) (grownD3 _ (w.heap.size + 1 + 1) _ _ _) (fun j e => by cases e; omega)⟩
   ·have k0 : ((g : Int) == 0) = false := by rw [beq_eq_false_iff_ne]; omega
    obtain ⟨h1, h3, h2, hm⟩ := HM.out hg
    have HP := Lib.hid (HSt.out h1 h3 h2)
    have hS2 := HSR.out
    obtain rfl := h1
    obtain rfl := h3
    have HS2 := Lib.hid (hS2.pass hm)
    obtain ⟨u, hu⟩ : ∃ u, u = s.pass.need bOpen := ⟨_, rfl⟩
    have HW := Lib.hid (fun W (hW : w.grownBy W none) => rwant_any b o n k T s.pass W (HH.out.keep hW) (i + 1) d 0 0 bOpen HS2.out (.inr (by decide +kernel)))
    rw [← hu] at HW
    obtain ⟨z, hz⟩ : ∃ z, z = (decide (g = 2) && u.comes bStar) := ⟨_, rfl⟩
    have hre : res = if z = true then (u.pass.need bShut, ⟨1, ⟨#[]⟩, s.hd.pos⟩) else (u.name.1.need bShut, ⟨g, u.name.2, s.hd.pos⟩) := by
     rw [HRes.out, hz]
     unfold itemL
     rw [← HG.out, if_neg hg, ← hu]
     simp only [Bool.and_eq_true, decide_eq_true_iff]
    have HRe := Lib.hid hre
    clear HM HSt HRes HNm hu hS2 hm h2 HG hre
    simp only [show ((0 : Nat) : Int) = 0 from rfl] at *
    obtain ⟨⟨c0, c1, c2, c3, c4⟩, f0, f1, f2, f3, f4⟩ := boxD5 AR.out
    go_wp2_with fail
    refine (HP.out _ GR.out).mono ?_
    rintro e w5 ⟨rfl, hg5⟩
    have A5 := Lib.hid (blkD hg5 AR.out)
    have X5 := Lib.hid (blkD hg5 X4.out)
    have R5 := Lib.hid (blkD hg5 R4.out)
    have I5 := Lib.hid (blkD hg5 I4.out)
    have G5 := Lib.hid (GR.out.trans hg5)
    clear hg5
    obtain ⟨⟨c0, c1, c2, c3, c4⟩, f0, f1, f2, f3, f4⟩ := boxD5 A5.out
    go_wp2_with fail
    refine (HW.out _ G5.out).mono ?_
    rintro e w6 ⟨⟨i1, d1, a1, rfl, hS⟩, hg6⟩
    have HS1 := Lib.hid hS
    have A6 := Lib.hid (blkD hg6 A5.out)
    have X6 := Lib.hid (blkD hg6 X5.out)
    have R6 := Lib.hid (blkD hg6 R5.out)
    have I6 := Lib.hid (blkD hg6 I5.out)
    have G6 := Lib.hid (G5.out.trans hg6)
    clear hS hg6 A5 X5 R5 I5 AR X4 R4 I4 HS2 HP HW
    obtain ⟨⟨c0, c1, c2, c3, c4⟩, f0, f1, f2, f3, f4⟩ := boxD5 A6.out
    go_upto_region 13 with fail
    obtain ⟨w8, hw8⟩ : ∃ w8, w8 = ((((w6.setCell ⟨w.heap.size, 0, none⟩ (.slice (some ⟨b, o, none⟩) n k)).setCell ⟨w.heap.size, 1, none⟩ (.int .i64 i1)).setCell ⟨w.heap.size, 2, none⟩ (.int .i64 d)).setCell ⟨w.heap.size, 3, none⟩ (.int .i64 d1)).setCell ⟨w.heap.size, 4, none⟩ (.int .i64 a1) := ⟨_, rfl⟩
    have g8 : w6.grownBy w8 (some w.heap.size) := by rw [hw8]; exact grownD5 _ _ _ _ _ _ _
    have A8 : Hid (w8.heap[w.heap.size]? = some (.cells #[.slice (some ⟨b, o, none⟩) n k, .int .i64 (i1 : Int), .int .i64 d, .int .i64 d1, .int .i64 a1] 81)) := Lib.hid (by rw [hw8]; exact setD5 A6.out)
    have X8 := Lib.hid (blkR X6.out g8 (by omega))
    have R8 := Lib.hid (blkR R6.out g8 (by omega))
    have I8 := Lib.hid (blkR I6.out g8 (by omega))
    have G8 := Lib.hid (grown_thenX G6.out g8 (fun j e => by cases e; exact Nat.le_refl _))
    rw [← hw8]
    clear hw8 g8 A6 X6 R6 I6 c0 c1 c2 c3 c4 f0 f1 f2 f3 f4 v0 v1 v2 e0 e1 e2
    have HIs := Lib.hid (fun W (hW : w.grownBy W none) => ris_any b o n k T u W (HH.out.keep hW) i1 d d1 a1 bStar HS1.out (.inr (by decide +kernel)))
    have HNu := Lib.hid (fun W (hW : w.grownBy W none) => rname_any b o n k T u W (HH.out.keep hW) i1 d d1 a1 HS1.out)
    go_cut [44] from 13 (fun s44 wx => s44 = .bool z ∧ Hid (w8.grownBy wx none))
    case first => as_aux_lemma =>
     obtain ⟨⟨c0, c1, c2, c3, c4⟩, f0, f1, f2, f3, f4⟩ := boxD5 A8.out
     obtain ⟨⟨v0, v1, v2⟩, e0, e1, e2⟩ := boxD3 X8.out
     clear HNu R8 I8 HS1
     by_cases g2 : g = 2
     ·have k2 : ((g : Int) == 2) = true := by rw [g2]; rfl
      go_wp2_with fail
      refine (HIs.out _ G8.out).mono ?_
      rintro e x1 ⟨rfl, hg⟩
      go_wp2_with fail
      go_meet
      exact ⟨by rw [hz, decide_eq_true g2, Bool.true_and], Lib.hid hg⟩
     ·have k2 : ((g : Int) == 2) = false := by rw [beq_eq_false_iff_ne]; omega
      go_wp2_with fail
      go_meet
      exact ⟨by rw [hz, decide_eq_false g2, Bool.false_and], Lib.hid (grown_reflT _ _)⟩
    case rest =>
    obtain ⟨rfl, K9⟩ := hcut
    obtain ⟨w9, hw9⟩ : ∃ w9, w9 = wc := ⟨_, rfl⟩
    rw [← hw9] at K9 ⊢
    have A9 := Lib.hid (blkD K9.out A8.out)
    have X9 := Lib.hid (blkD K9.out X8.out)
    have R9 := Lib.hid (blkD K9.out R8.out)
    have I9 := Lib.hid (blkD K9.out I8.out)
    have G9 := Lib.hid (G8.out.trans K9.out)
    have h9 : w2.heap.size < w9.heap.size := (Array.getElem?_eq_some_iff.1 X9.out).1
    clear hw9 A8 X8 R8 I8 K9 HIs
    cases z with
    | true =>
     obtain rfl := HRe.out.trans (if_pos rfl)
     have hst : u.comes bStar = true := by
      rw [Bool.true_eq, Bool.and_eq_true] at hz
      exact hz.2
     have hSp : SR n T u.pass (i1 + 1) 0 0 := by
      obtain ⟨q1, q2, _, qm⟩ := HS1.out.come HH.out (.inr (by decide +kernel)) hst
      have := HS1.out
      subst q1
      subst q2
      exact this.pass qm
     have HP2 := Lib.hid (fun W (hW : w.grownBy W none) => rpass_any b o n k T u W (HH.out.keep hW) i1 d d1 a1 bStar HS1.out (.inr (by decide +kernel)) hst)
     have HW2 := Lib.hid (fun W (hW : w.grownBy W none) => rwant_any b o n k T u.pass W (HH.out.keep hW) (i1 + 1) d 0 0 bShut hSp (.inr (by decide +kernel)))
     clear HNu hSp hst hz
     obtain ⟨⟨v0, v1, v2⟩, e0, e1, e2⟩ := boxD3 X9.out
     go_upto_region 15 with fail
     obtain ⟨w7, hw7⟩ : ∃ w7, w7 = w9.setCell ⟨w2.heap.size, 0, none⟩ (.int .i64 1) := ⟨_, rfl⟩
     have gx : w9.grownBy w7 (some w2.heap.size) := by rw [hw7]; exact gq_cellR _ _ _ _
     have A7 := Lib.hid (blkR A9.out gx (by omega))
     have X7 : Hid (w7.heap[w2.heap.size]? = some (.cells #[.int .i64 1, .string ⟨#[]⟩, .int .i64 ps] 106 (0, 0))) := Lib.hid (by
      rw [hw7]
      have := heap_setCell_same _ _ 0 _ _ (.int .i64 1) X9.out
      simpa using this)
     have R7 := Lib.hid (blkR R9.out gx (by omega))
     have I7 := Lib.hid (blkR I9.out gx (by omega))
     have G7 := Lib.hid (grown_thenX G9.out gx (fun j e => by cases e; omega))
     rw [← hw7]
     clear hw7 gx A9 X9 R9 I9 v0 v1 v2 e0 e1 e2
     refine wp_region_held_drew (S := (fun W => Hid (GY w7 W w.heap.size))) (by kernel_rfl) (Lib.hid (GY.of (grown_drewT (grown_reflX _ _)) _)) (fun hHeld => ?_)
     refine TKB (i := 0) (v := ?vgz) rfl ?ygz ?rgz
     case ygz => (intro w hSw; obtain ⟨⟨c0, c1, c2, c3, c4⟩, f0, f1, f2, f3, f4⟩ := boxD5 (blkY A7.out hSw.out (by omega) (by omega)); clear hSw; go_simp; try with_reducible rfl)
     simp only [Act.put, List.getElem_toArray, List.getElem_cons_succ, List.getElem_cons_zero, List.size_toArray, List.length_cons, List.length_nil, Nat.reduceAdd, Array.replicate, List.replicate, List.setIfInBounds_toArray, List.set_cons_zero, List.set_cons_succ]
     refine TKB (i := 3) (v := ?vhz) rfl ?yhz ?rhz
     case yhz => (intro w hSw; obtain ⟨⟨v0, v1, v2⟩, e0, e1, e2⟩ := boxD3 (blkY X7.out hSw.out (by omega) (by omega)); clear hSw; go_simp; try with_reducible rfl)
     simp only [Act.put, List.getElem_toArray, List.getElem_cons_succ, List.getElem_cons_zero, List.size_toArray, List.length_cons, List.length_nil, Nat.reduceAdd, Array.replicate, List.replicate, List.setIfInBounds_toArray, List.set_cons_zero, List.set_cons_succ]
     refine RD1 (i := 1) rfl (fun K' hK => ?_)
     go_simp
     go_at_call 33
     refine (HP2.out _ (gq_dr G7.out)).mono ?_
     rintro e w8 ⟨⟨rfl, hSa⟩, hg⟩
     have Z8 : Hid (GY w7 w8 w.heap.size) := Lib.hid (GY.of ((grown_drewT (grown_reflX _ _)).trans hg) _)
     have G8 := Lib.hid ((gq_dr G7.out).trans hg)
     have R8 := Lib.hid (blkD (w := w7.drew) hg R7.out)
     have I8 := Lib.hid (blkD (w := w7.drew) hg I7.out)
     clear hg
     refine hK.out _ _ Z8 (fun hHeld => ?_)
     clear hK K'
     simp only [Act.put, List.getElem_toArray, List.getElem_cons_succ, List.getElem_cons_zero, List.size_toArray, List.length_cons, List.length_nil, Nat.reduceAdd, Array.replicate, List.replicate, List.setIfInBounds_toArray, List.set_cons_zero, List.set_cons_succ]
     refine RD1 (i := 2) rfl (fun K' hK => ?_)
     go_simp
     go_at_call 31
     refine (HW2.out _ G8.out).mono ?_
     rintro e w9 ⟨⟨i2, d2, a2, rfl, hSb⟩, hg⟩
     have Z9 : Hid (GY w7 w9 w.heap.size) := Lib.hid (Z8.out.grown hg)
     have G9 := Lib.hid (G8.out.trans hg)
     have R9 := Lib.hid (blkD hg R8.out)
     have I9 := Lib.hid (blkD hg I8.out)
     clear hg
     refine hK.out _ _ Z9 (fun hHeld => ?_)
     clear hK K'
     simp only [Act.put, List.getElem_toArray, List.getElem_cons_succ, List.getElem_cons_zero, List.size_toArray, List.length_cons, List.length_nil, Nat.reduceAdd, Array.replicate, List.replicate, List.setIfInBounds_toArray, List.set_cons_zero, List.set_cons_succ]
     refine RD1 (i := 4) rfl (fun K' hK => ?_)
     obtain ⟨⟨r0, r1, r2, r3, r4⟩, q0, q1, q2, q3, q4⟩ := boxD5 (show w9.heap[w.heap.size + 1]? = _ from R9.out)
     go_simp
     have g8 := grownD5 w9 (w.heap.size + 1) (.slice (some ⟨b, o, none⟩) n k) (.int .i64 i2) (.int .i64 d) (.int .i64 d2) (.int .i64 a2)
     have ZR : Hid (GY w7 _ w.heap.size) := Lib.hid (Z9.out.one g8 (.inl rfl))
     have IR := Lib.hid (blkR (w := w9) I9.out g8 (by omega))
     obtain ⟨⟨r0, r1, r2⟩, q0, q1, q2⟩ := boxD3 IR.out
     refine hK.out _ _ ZR (fun hHeld => ?_)
     clear hK K'
     simp only [Act.put, List.getElem_toArray, List.getElem_cons_succ, List.getElem_cons_zero, List.size_toArray, List.length_cons, List.length_nil, Nat.reduceAdd, Array.replicate, List.replicate, List.setIfInBounds_toArray, List.set_cons_zero, List.set_cons_succ]
     refine RD1 (i := 5) rfl (fun K' hK => ?_)
     go_simp
     have ZI : Hid (GY w7 _ w.heap.size) := Lib.hid (ZR.out.one (grownD3 _ (w.heap.size + 1 + 1) (.int .i64 1) (.string ⟨#[]⟩) (.int .i64 ps)) (.inr rfl))
     refine hK.out _ _ ZI (fun hHeld => ?_)
     clear hK K'
     simp only [Act.put, List.getElem_toArray, List.getElem_cons_succ, List.getElem_cons_zero, List.size_toArray, List.length_cons, List.length_nil, Nat.reduceAdd, Array.replicate, List.replicate, List.setIfInBounds_toArray, List.set_cons_zero, List.set_cons_succ]
     refine wpAnyH_done (by kernel_rfl) ?_ _
     go_wp2_with fail
     exact bodyPost_ret (res_ci rfl _ _ (w.heap.size + 1) (w.heap.size + 1 + 1) _ _ rfl rfl (blk_ne (blk_ne (blk_ne (setD5 R9.out) (by omega)) (by omega)) (by omega)) (setD3 IR.out) rfl rfl) rfl ⟨⟨i2, d2, a2, ⟨ps, rfl⟩, hSb⟩, grown_thenX (grown_thenX G9.out g8 (fun j e => by cases e; exact Nat.le_succ _)) (grownD3 _ (w.heap.size + 1 + 1) _ _ _) (fun j e => by cases e; omega)⟩
    | false =>
     obtain rfl := HRe.out.trans (if_neg (fun e => by cases e))
     obtain ⟨⟨c0, c1, c2, c3, c4⟩, f0, f1, f2, f3, f4⟩ := boxD5 A9.out
     clear hz
     go_wp2_with fail
     refine (HNu.out _ G9.out).mono ?_
     rintro e w10 ⟨⟨i2, d2, a2, rfl, hS⟩, hg10⟩
     have HSn := Lib.hid hS
     have HW3 := Lib.hid (fun W (hW : w.grownBy W none) => rwant_any b o n k T u.name.1 W (HH.out.keep hW) i2 d d2 a2 bShut HSn.out (.inr (by decide +kernel)))
     have A10 := Lib.hid (blkD hg10 A9.out)
     have X10 := Lib.hid (blkD hg10 X9.out)
     have R10 := Lib.hid (blkD hg10 R9.out)
     have I10 := Lib.hid (blkD hg10 I9.out)
     have G10 := Lib.hid (G9.out.trans hg10)
     have h10 : w2.heap.size < w10.heap.size := (Array.getElem?_eq_some_iff.1 X10.out).1
     obtain ⟨⟨c0, c1, c2, c3, c4⟩, f0, f1, f2, f3, f4⟩ := boxD5 A10.out
     obtain ⟨⟨v0, v1, v2⟩, e0, e1, e2⟩ := boxD3 (blkR X10.out (grownD5 w10 w.heap.size (.slice (some ⟨b, o, none⟩) n k) (.int .i64 i2) (.int .i64 d) (.int .i64 d2) (.int .i64 a2)) (by omega))
     clear hS hg10 A9 X9 R9 I9 HNu HS1
     go_upto_region 17 with fail
     have g6 := grownD5 w10 w.heap.size (.slice (some ⟨b, o, none⟩) n k) (.int .i64 i2) (.int .i64 d) (.int .i64 d2) (.int .i64 a2)
     obtain ⟨w7, hw7⟩ : ∃ w7, w7 = (((((w10.setCell ⟨w.heap.size, 0, none⟩ (.slice (some ⟨b, o, none⟩) n k)).setCell ⟨w.heap.size, 1, none⟩ (.int .i64 i2)).setCell ⟨w.heap.size, 2, none⟩ (.int .i64 d)).setCell ⟨w.heap.size, 3, none⟩ (.int .i64 d2)).setCell ⟨w.heap.size, 4, none⟩ (.int .i64 a2)).setCell ⟨w2.heap.size, 1, none⟩ (.string u.name.2) := ⟨_, rfl⟩
     have gx : (((((w10.setCell ⟨w.heap.size, 0, none⟩ (.slice (some ⟨b, o, none⟩) n k)).setCell ⟨w.heap.size, 1, none⟩ (.int .i64 i2)).setCell ⟨w.heap.size, 2, none⟩ (.int .i64 d)).setCell ⟨w.heap.size, 3, none⟩ (.int .i64 d2)).setCell ⟨w.heap.size, 4, none⟩ (.int .i64 a2)).grownBy w7 (some w2.heap.size) := by rw [hw7]; exact gq_cellR _ _ _ _
     have A7 := Lib.hid (blkR (setD5 A10.out) gx (by omega))
     have X7 : Hid (w7.heap[w2.heap.size]? = some (.cells #[.int .i64 (g : Nat), .string u.name.2, .int .i64 ps] 106 (0, 0))) := Lib.hid (by
      rw [hw7]
      have := heap_setCell_same _ _ 1 _ _ (.string u.name.2) (blkR X10.out g6 (by omega))
      simpa using this)
     have R7 := Lib.hid (blkR (blkR R10.out g6 (by omega)) gx (by omega))
     have I7 := Lib.hid (blkR (blkR I10.out g6 (by omega)) gx (by omega))
     have G7 := Lib.hid (grown_thenX (grown_thenX G10.out g6 (fun j e => by cases e; exact Nat.le_refl _)) gx (fun j e => by cases e; omega))
     rw [← hw7]
     clear hw7 gx g6 A10 X10 R10 I10 c0 c1 c2 c3 c4 f0 f1 f2 f3 f4 v0 v1 v2 e0 e1 e2
     refine wp_region_held_drew (S := (fun W => Hid (GY w7 W w.heap.size))) (by kernel_rfl) (Lib.hid (GY.of (grown_drewT (grown_reflX _ _)) _)) (fun hHeld => ?_)
     refine TKB (i := 0) (v := ?viz) rfl ?yiz ?riz
     case yiz => (intro w hSw; obtain ⟨⟨c0, c1, c2, c3, c4⟩, f0, f1, f2, f3, f4⟩ := boxD5 (blkY A7.out hSw.out (by omega) (by omega)); clear hSw; go_simp; try with_reducible rfl)
     simp only [Act.put, List.getElem_toArray, List.getElem_cons_succ, List.getElem_cons_zero, List.size_toArray, List.length_cons, List.length_nil, Nat.reduceAdd, Array.replicate, List.replicate, List.setIfInBounds_toArray, List.set_cons_zero, List.set_cons_succ]
     refine TKB (i := 2) (v := ?vjz) rfl ?yjz ?rjz
     case yjz => (intro w hSw; obtain ⟨⟨v0, v1, v2⟩, e0, e1, e2⟩ := boxD3 (blkY X7.out hSw.out (by omega) (by omega)); clear hSw; go_simp; try with_reducible rfl)
     simp only [Act.put, List.getElem_toArray, List.getElem_cons_succ, List.getElem_cons_zero, List.size_toArray, List.length_cons, List.length_nil, Nat.reduceAdd, Array.replicate, List.replicate, List.setIfInBounds_toArray, List.set_cons_zero, List.set_cons_succ]
     refine RD1 (i := 1) rfl (fun K' hK => ?_)
     go_simp
     go_at_call 31
     refine (HW3.out _ (gq_dr G7.out)).mono ?_
     rintro e w8 ⟨⟨i3, d3, a3, rfl, hSb⟩, hg⟩
     have Z8 : Hid (GY w7 w8 w.heap.size) := Lib.hid (GY.of ((grown_drewT (grown_reflX _ _)).trans hg) _)
     have G8 := Lib.hid ((gq_dr G7.out).trans hg)
     have R8 := Lib.hid (blkD (w := w7.drew) hg R7.out)
     have I8 := Lib.hid (blkD (w := w7.drew) hg I7.out)
     clear hg
     refine hK.out _ _ Z8 (fun hHeld => ?_)
     clear hK K'
     simp only [Act.put, List.getElem_toArray, List.getElem_cons_succ, List.getElem_cons_zero, List.size_toArray, List.length_cons, List.length_nil, Nat.reduceAdd, Array.replicate, List.replicate, List.setIfInBounds_toArray, List.set_cons_zero, List.set_cons_succ]
     refine RD1 (i := 3) rfl (fun K' hK => ?_)
     obtain ⟨⟨r0, r1, r2, r3, r4⟩, q0, q1, q2, q3, q4⟩ := boxD5 (show w8.heap[w.heap.size + 1]? = _ from R8.out)
     go_simp
     have g8 := grownD5 w8 (w.heap.size + 1) (.slice (some ⟨b, o, none⟩) n k) (.int .i64 i3) (.int .i64 d) (.int .i64 d3) (.int .i64 a3)
     have ZR : Hid (GY w7 _ w.heap.size) := Lib.hid (Z8.out.one g8 (.inl rfl))
     have IR := Lib.hid (blkR (w := w8) I8.out g8 (by omega))
     obtain ⟨⟨r0, r1, r2⟩, q0, q1, q2⟩ := boxD3 IR.out
     refine hK.out _ _ ZR (fun hHeld => ?_)
     clear hK K'
     simp only [Act.put, List.getElem_toArray, List.getElem_cons_succ, List.getElem_cons_zero, List.size_toArray, List.length_cons, List.length_nil, Nat.reduceAdd, Array.replicate, List.replicate, List.setIfInBounds_toArray, List.set_cons_zero, List.set_cons_succ]
     refine RD1 (i := 4) rfl (fun K' hK => ?_)
     go_simp
     have ZI : Hid (GY w7 _ w.heap.size) := Lib.hid (ZR.out.one (grownD3 _ (w.heap.size + 1 + 1) (.int .i64 (g : Nat)) (.string u.name.2) (.int .i64 ps)) (.inr rfl))
     refine hK.out _ _ ZI (fun hHeld => ?_)
     clear hK K'
     simp only [Act.put, List.getElem_toArray, List.getElem_cons_succ, List.getElem_cons_zero, List.size_toArray, List.length_cons, List.length_nil, Nat.reduceAdd, Array.replicate, List.replicate, List.setIfInBounds_toArray, List.set_cons_zero, List.set_cons_succ]
     refine wpAnyH_done (by kernel_rfl) ?_ _
     go_wp2_with fail
     exact bodyPost_ret (res_ci rfl _ _ (w.heap.size + 1) (w.heap.size + 1 + 1) _ _ rfl rfl (blk_ne (blk_ne (blk_ne (setD5 R8.out) (by omega)) (by omega)) (by omega)) (setD3 IR.out) rfl rfl) rfl ⟨⟨i3, d3, a3, ⟨ps, rfl⟩, hSb⟩, grown_thenX (grown_thenX G8.out g8 (fun j e => by cases e; exact Nat.le_succ _)) (grownD3 _ (w.heap.size + 1 + 1) _ _ _) (fun j e => by cases e; omega)⟩
end Go.Proofs.Ytfambadamebjjaa
namespace Go.Proofs.Ytfambadamebjjaa
open Go.RowKit

theorem pred_size : (Try.prog.info? 34).map (·.size) = some 10 := by kernel_rfl
theorem Pm.c_size (x : Pm) : x.c.toArray.size = 10 := by simp [Pm.c_len]
theorem Pm.c_all (x : Pm) : x.c.toArray.all (·.oneCell') = true := all_oneCell_toArray x.c_one
theorem PmS.row {B g : Nat} {w w' : World} {x : Pm} (h : PmS (fun j => B ≤ j) w x) (hg : w.grownBy w' (some g)) (hlt : g < B) : PmS (fun j => B ≤ j) w' x :=
 h.keep ⟨hg.size, fun b hb hlt' => hg.block b hlt' (by simp; omega)⟩
theorem PmS.low {B B' : Nat} {w : World} {x : Pm} (h : PmS (fun j => B ≤ j) w x) (hb : B' ≤ B) : PmS (fun j => B' ≤ j) w x := h.mono (fun _ _ h => Nat.le_trans hb h)
theorem ten {cs : Array Value} (h : cs.size = 10) : #[cs[0], cs[1], cs[2], cs[3], cs[4], cs[5], cs[6], cs[7], cs[8], cs[9]] = cs := by
 apply Array.ext
 ·simp [h]
 ·intro i h1 h2
  have : i = 0 ∨ i = 1 ∨ i = 2 ∨ i = 3 ∨ i = 4 ∨ i = 5 ∨ i = 6 ∨ i = 7 ∨ i = 8 ∨ i = 9 := by omega
  rcases this with rfl | rfl | rfl | rfl | rfl | rfl | rfl | rfl | rfl | rfl <;> rfl
theorem flat_one (x : Pm) : [x].flatMap Pm.c = x.c := by simp
theorem one_cells {S : Nat → Prop} {w : World} {g : Nat} {x : Pm} {T : TypeId} (h : w.heap[g]? = some (.cells x.c.toArray T (0, 0))) (hS : S g) : CellsS S w (some ⟨g, 0, Option.none⟩) ([x].flatMap Pm.c) := by
 refine .inr ⟨g, 0, rfl, hS, (Array.getElem?_eq_some_iff.1 h).1, fun j u hj => ?_⟩
 rw [flat_one] at hj
 rw [Nat.zero_add, cell_of_row _ _ j _ _ _ h]
 simpa using hj
theorem results_pm {fn : Func} {p : Tmp} (h : fn.results = #[.cell p 34]) (tmps : Array Value) (w : World) (g : Nat) (y : Pm) (hp : tmps.getD p undef = .pointer (some ⟨g, 0, Option.none⟩)) (hg : w.heap[g]? = some (.cells y.c.toArray 34 (0, 0))) :
  (results fn tmps).run Try.prog w = .ok y.v w := results_cell_row h tmps w g _ _ _ _ hp hg Try.underlying34 rfl (by rw [Pm.c_size]; exact pred_size)
theorem grown_setRow (w : World) (g : Nat) (cs : Array Value) : w.grownBy (w.setRow g cs) (some g) := ⟨rfl, rfl, rfl, by simp, fun k _ hk => setRow_other w g k cs (fun e => hk (by rw [e]))⟩
def z10 : Array Value := #[.int .i64 0, .string ⟨#[]⟩, .int .i64 0, .int .i64 0, .int .i64 0, .string ⟨#[]⟩, .string ⟨#[]⟩, .slice Option.none 0 0, .slice Option.none 0 0, .int .i64 0]
end Go.Proofs.Ytfambadamebjjaa
namespace Go.Proofs.Ytfambadamebjjaa
open Go.RowKit
def nextL (aggs : Bool) : RS → RS × Itm := if aggs then itemL else columnL
theorem listF_moreD {β : Type} {most f : Nat} {nx : RS → RS × β} {s : RS} {acc : List β} (h : acc.length ≠ most) (hc : (nx s).1.comes bComma = true) :
  listF most nx (f + 1) s acc = listF most nx f (nx s).1.pass (acc ++ [(nx s).2]) := by
 rw [listF, if_neg h, if_pos hc]
theorem listF_endD {β : Type} {most f : Nat} {nx : RS → RS × β} {s : RS} {acc : List β} (h : acc.length ≠ most) (hc : (nx s).1.comes bComma = false) :
  listF most nx (f + 1) s acc = ((nx s).1, acc ++ [(nx s).2]) := by
 rw [listF, if_neg h, if_neg (by rw [hc]; decide)]
theorem listF_fullD {β : Type} {most f : Nat} {nx : RS → RS × β} {s : RS} {acc : List β} (h : acc.length = most) :
  listF most nx (f + 1) s acc = (s.wrong 3, acc) := by
 rw [listF, if_pos h]
theorem SR.swap {n i c a : Nat} {T : List Tk} {s t : RS} (h : SR n T s i c a) (hc : c ≠ 0) (ho : t.ok) (he : t.err ≠ none) (hl : t.rest.length = 1) : SR n T t i c a :=
 ⟨ho, h.lt, h.len, .inr ⟨he, hc, hl⟩⟩
theorem SR.failed {n i c a : Nat} {T : List Tk} {s : RS} (h : SR n T s i c a) (hc : c ≠ 0) : s.rest.length = 1 :=
 h.or.elim (fun ⟨_, e, _⟩ => absurd e hc) (fun ⟨_, _, e⟩ => e)
theorem SR.item_bad {n i c a : Nat} {T : List Tk} {s : RS} (h : SR n T s i c a) (hc : c ≠ 0) : itemL s = (s.wrong 11, ⟨0, ⟨#[]⟩, s.hd.pos⟩) := by
 obtain ⟨_, hk, ht⟩ := h.bad hc
 unfold itemL
 rw [ht, if_pos (by decide +kernel)]
 unfold columnL RS.name RS.named
 rw [hk]
 rfl
theorem SR.column_bad {n i c a : Nat} {T : List Tk} {s : RS} (h : SR n T s i c a) (hc : c ≠ 0) : columnL s = (s.wrong 11, ⟨0, ⟨#[]⟩, s.hd.pos⟩) := by
 obtain ⟨_, hk, _⟩ := h.bad hc
 unfold columnL RS.name RS.named
 rw [hk]
 rfl
theorem SR.next_bad {n i c a : Nat} {T : List Tk} {s : RS} (aggs : Bool) (h : SR n T s i c a) (hc : c ≠ 0) : nextL aggs s = (s.wrong 11, ⟨0, ⟨#[]⟩, s.hd.pos⟩) := by
 cases aggs
 ·exact h.column_bad hc
 ·exact h.item_bad hc
theorem SR.ninth {n i c a i' c' a' : Nat} {T : List Tk} {s : RS} (aggs : Bool) (h : SR n T (s.wrong 3) i c a) (hc : c ≠ 0) (h' : SR n T (nextL aggs (s.wrong 3)).1 i' c' a') : c' ≠ 0 ∧ SR n T (s.wrong 3) i' c' a' := by
 have hc' : c' ≠ 0 := fun e => by
  have := h'.err0.2 e
  rw [h.next_bad aggs hc] at this
  cases this
 exact ⟨hc', h'.swap hc' h.ok (fun e => hc (h.err0.1 e)) (h.failed hc)⟩
theorem SR.bad_comes {n i c a : Nat} {T : List Tk} {s : RS} {t : ByteArray} (h : SR n T s i c a) (hc : c ≠ 0) (ht : keyT t) : s.comes t = false := by
 unfold RS.comes
 rw [(h.bad hc).2.2]
 exact decide_eq_false (fun e => keyT_ne ht e.symm)
end Go.Proofs.Ytfambadamebjjaa
namespace Go.Proofs.Ytfambadamebjjaa
open Go.RowKit

end Go.Proofs.Ytfambadamebjjaa
