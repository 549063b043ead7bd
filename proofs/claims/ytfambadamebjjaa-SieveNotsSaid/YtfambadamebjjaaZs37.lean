import Derived.Test.YtfambadamebjjaaZs19
import Derived.Test.YtfambadamebjjaaZs36
import Derived.Test.YtfambadamebjjaaZs31
import Derived.Test.YtfambadamebjjaaZs33
import Derived.Test.YtfambadamebjjaaZs26
set_option linter.unusedSimpArgs false
set_option linter.unusedVariables false
namespace Go.Proofs.Ytfambadamebjjaa
open Go.RowKit
structure OnJ (b o n k : Nat) (dd : Int) (w : World) (i c a : Nat) (W : World) : Prop where
 st : W.heap[w.heap.size]? = some (.cells #[.slice (some ⟨b, o, none⟩) n k, .int .i64 i, .int .i64 dd, .int .i64 c, .int .i64 a] 81 (0, 0))
 rs : W.heap[w.heap.size + 1]? = some (.cells #[.slice none 0 0, .int .i64 0, .int .i64 0, .int .i64 0, .int .i64 0] 81)
 rp : W.heap[w.heap.size + 1 + 1]? = some (.cells z10 34 (0, 0))
 g : w.grownBy W none
theorem OnJ.then {b o n k i c a : Nat} {dd : Int} {w W W' : World} (h : OnJ b o n k dd w i c a W) (hg : W.grownBy W' none) : OnJ b o n k dd w i c a W' :=
 ⟨blkD hg h.st, blkD hg h.rs, blkD hg h.rp, h.g.trans hg⟩
theorem OnJ.row {b o n k i c a : Nat} {dd : Int} {w W : World} (h : OnJ b o n k dd w i c a W) (i' c' a' : Nat) (dd' : Int) : OnJ b o n k dd' w i' c' a' (W.setRow w.heap.size #[.slice (some ⟨b, o, none⟩) n k, .int .i64 i', .int .i64 dd', .int .i64 c', .int .i64 a']) :=
 have hg := grown_setRow W w.heap.size #[.slice (some ⟨b, o, none⟩) n k, .int .i64 i', .int .i64 dd', .int .i64 c', .int .i64 a']
 ⟨setRow_heap _ _ _ _ _ _ h.st, blkR h.rs hg (by omega), blkR h.rp hg (by omega), grown_thenX h.g hg (fun j e => by cases e; exact Nat.le_refl _)⟩
theorem OnJ.set5 {b o n k i c a : Nat} {d : Nat} {w W : World} (h : OnJ b o n k (d : Int) w i c a W) (i' c' a' : Nat) : OnJ b o n k (d : Int) w i' c' a' (((((W.setCell ⟨w.heap.size, 0, none⟩ (.slice (some ⟨b, o, none⟩) n k)).setCell ⟨w.heap.size, 1, none⟩ (.int .i64 i')).setCell ⟨w.heap.size, 2, none⟩ (.int .i64 d)).setCell ⟨w.heap.size, 3, none⟩ (.int .i64 c')).setCell ⟨w.heap.size, 4, none⟩ (.int .i64 a')) :=
 have hg := grownD5 W w.heap.size (.slice (some ⟨b, o, none⟩) n k) (.int .i64 i') (.int .i64 d) (.int .i64 c') (.int .i64 a')
 ⟨setD5 h.st, blkR h.rs hg (by omega), blkR h.rp hg (by omega), grown_thenX h.g hg (fun j e => by cases e; exact Nat.le_refl _)⟩
theorem OnJ.deep {b o n k i c a : Nat} {dd : Int} {w W : World} (h : OnJ b o n k dd w i c a W) (dd' : Int) : OnJ b o n k dd' w i c a (W.setCell ⟨w.heap.size, 2, none⟩ (.int .i64 dd')) :=
 have hg := gq_cellR W w.heap.size 2 (.int .i64 dd')
 ⟨by simpa using heap_setCell_same _ _ 2 _ _ (.int .i64 dd') h.st, blkR h.rs hg (by omega), blkR h.rp hg (by omega), grown_thenX h.g hg (fun j e => by cases e; exact Nat.le_refl _)⟩
theorem OnJ.fin {b o n k i0 c0 a0 : Nat} {dd dr : Int} {w W : World} (h : OnJ b o n k dd w i0 c0 a0 W) (i c a : Nat) (y : Pm) :
  ((W.setRow (w.heap.size + 1) #[.slice (some ⟨b, o, none⟩) n k, .int .i64 i, .int .i64 dr, .int .i64 c, .int .i64 a]).setRow (w.heap.size + 1 + 1) y.c.toArray).heap[w.heap.size + 1]? = some (.cells #[.slice (some ⟨b, o, none⟩) n k, .int .i64 i, .int .i64 dr, .int .i64 c, .int .i64 a] 81 (0, 0)) ∧ ((W.setRow (w.heap.size + 1) #[.slice (some ⟨b, o, none⟩) n k, .int .i64 i, .int .i64 dr, .int .i64 c, .int .i64 a]).setRow (w.heap.size + 1 + 1) y.c.toArray).heap[w.heap.size + 1 + 1]? = some (.cells y.c.toArray 34 (0, 0)) ∧ w.grownBy ((W.setRow (w.heap.size + 1) #[.slice (some ⟨b, o, none⟩) n k, .int .i64 i, .int .i64 dr, .int .i64 c, .int .i64 a]).setRow (w.heap.size + 1 + 1) y.c.toArray) none := by
 refine ⟨(setRow_other _ _ _ _ (by omega)).trans (setRow_heap _ _ _ _ _ _ h.rs), setRow_heap _ _ _ _ _ _ ((setRow_other _ _ _ _ (by omega)).trans h.rp), ?_⟩
 exact grown_thenX (grown_thenX h.g (grown_setRow _ _ _) (fun j e => by cases e; exact Nat.le_succ _)) (grown_setRow _ _ _) (fun j e => by cases e; omega)
theorem OnJ.only {b o n k i c a : Nat} {dd : Int} {w W W' : World} {arr : Option Addr} (h : OnJ b o n k dd w i c a W) (ho : Only (bk arr) W W') (hb : ∀ q, bk arr q → w.heap.size + 1 + 1 < q) : OnJ b o n k dd w i c a W' := by
 have kp : ∀ {g : Nat} {y : Obj}, g ≤ w.heap.size + 1 + 1 → W.heap[g]? = some y → W'.heap[g]? = some y := fun {g y} hg hy => (ho.block g (Array.getElem?_eq_some_iff.1 hy).1 (fun e => by have := hb g e; omega)).trans hy
 exact ⟨kp (by omega) h.st, kp (by omega) h.rs, kp (Nat.le_refl _) h.rp, grown_onlyN h.g ho (fun q hq => by have := hb q hq; omega)⟩
theorem OnJ.far {b o n k i c a g : Nat} {dd : Int} {w W : World} (h : OnJ b o n k dd w i c a W) (hg1 : w.heap.size + 1 + 1 < g) (y : Array Value) : OnJ b o n k dd w i c a (W.setRow g y) :=
 have hg := grown_setRow W g y
 ⟨blkR h.st hg (by omega), blkR h.rs hg (by omega), blkR h.rp hg (by omega), grown_thenX h.g hg (fun j e => by cases e; omega)⟩
theorem OnJ.pr {b o n k d i c a p : Nat} {w W : World} {x : Array Value} (h : OnJ b o n k (d : Int) w i c a W) (hp : w.heap.size + 1 + 1 < p) (hx : W.heap[p]? = some (.cells x 34 (0, 0))) : PrJ b o n k d w p i c a x W :=
 ⟨h.st, h.rs, h.rp, hx, hp, h.g⟩
set_option linter.unusedSimpArgs false in
set_option linter.unusedVariables false in
set_option maxRecDepth 100000 in
set_option maxHeartbeats 6400000 in
theorem rone_zero (b o n k : Nat) (T : List Tk) (d : Nat) (hd : d = 20) : OneH b o n k T d 0 := by
 intro s w h i c a hs
 have g20 : (20 : Int) ≤ d := by omega
 have HF := Lib.hid (fun W (hW : w.grownBy W none) => rfail_any b o n k T s W (h.keep hW) i d c a 12 hs (by decide))
 clear h hs hd
 have A1 := alc3a w (.cells #[.slice (some ⟨b, o, none⟩) n k, .int .i64 i, .int .i64 d, .int .i64 c, .int .i64 a] 81) (.cells #[.slice none 0 0, .int .i64 0, .int .i64 0, .int .i64 0, .int .i64 0] 81) (.cells z10 34)
 have R1 := alc3b w (.cells #[.slice (some ⟨b, o, none⟩) n k, .int .i64 i, .int .i64 d, .int .i64 c, .int .i64 a] 81) (.cells #[.slice none 0 0, .int .i64 0, .int .i64 0, .int .i64 0, .int .i64 0] 81) (.cells z10 34)
 have Q1 := alc3c w (.cells #[.slice (some ⟨b, o, none⟩) n k, .int .i64 i, .int .i64 d, .int .i64 c, .int .i64 a] 81) (.cells #[.slice none 0 0, .int .i64 0, .int .i64 0, .int .i64 0, .int .i64 0] 81) (.cells z10 34)
 have G1 := gq_al (gq_al (gq_al (grown_reflT w none) (.cells #[.slice (some ⟨b, o, none⟩) n k, .int .i64 i, .int .i64 d, .int .i64 c, .int .i64 a] 81)) (.cells #[.slice none 0 0, .int .i64 0, .int .i64 0, .int .i64 0, .int .i64 0] 81)) (.cells z10 34)
 have J1 : Hid (OnJ b o n k (d : Int) w i c a (((w.alloc (.cells #[.slice (some ⟨b, o, none⟩) n k, .int .i64 i, .int .i64 d, .int .i64 c, .int .i64 a] 81)).alloc (.cells #[.slice none 0 0, .int .i64 0, .int .i64 0, .int .i64 0, .int .i64 0] 81)).alloc (.cells z10 34))) := Lib.hid ⟨A1, R1, Q1, G1⟩
 clear A1 R1 Q1 G1
 go_enter Try.func53, Try.ntmps53
 go_upto_region 1 with fail
 change Code.wp _ _ _ _ (((w.alloc (.cells #[.slice (some ⟨b, o, none⟩) n k, .int .i64 i, .int .i64 d, .int .i64 c, .int .i64 a] 81)).alloc (.cells #[.slice none 0 0, .int .i64 0, .int .i64 0, .int .i64 0, .int .i64 0] 81)).alloc (.cells z10 34))
 generalize ((w.alloc (.cells #[.slice (some ⟨b, o, none⟩) n k, .int .i64 i, .int .i64 d, .int .i64 c, .int .i64 a] 81)).alloc (.cells #[.slice none 0 0, .int .i64 0, .int .i64 0, .int .i64 0, .int .i64 0] 81)).alloc (.cells z10 34) = w1 at *
 obtain ⟨⟨c0, c1, c2, c3, c4⟩, f0, f1, f2, f3, f4⟩ := boxD5 J1.out.st
 go_wp2_with fail
 refine (HF.out _ J1.out.g).mono ?_
 rintro e w2 ⟨⟨x1, a1, rfl, hS⟩, hg⟩
 have J2 := Lib.hid (J1.out.then hg)
 have S1 := Lib.hid hS
 have hx : x1 ≠ 0 := fun e => by have := hS.err0.2 e; cases this
 clear hg hS HF c0 c1 c2 c3 c4 f0 f1 f2 f3 f4
 obtain ⟨⟨c0, c1, c2, c3, c4⟩, f0, f1, f2, f3, f4⟩ := boxD5 J2.out.st
 have K2 := J2.out.set5 i x1 a1
 go_upto_region 3 with fail
 have J3 := Lib.hid K2
 generalize (((((w2.setCell ⟨w.heap.size, 0, none⟩ (.slice (some ⟨b, o, none⟩) n k)).setCell ⟨w.heap.size, 1, none⟩ (.int .i64 i)).setCell ⟨w.heap.size, 2, none⟩ (.int .i64 d)).setCell ⟨w.heap.size, 3, none⟩ (.int .i64 x1)).setCell ⟨w.heap.size, 4, none⟩ (.int .i64 a1)) = w3 at *
 clear K2 J2 c0 c1 c2 c3 c4 f0 f1 f2 f3 f4 g20
 have k0 : ((x1 : Int) != 0) = true := ne_nat hx
 obtain ⟨⟨c0, c1, c2, c3, c4⟩, f0, f1, f2, f3, f4⟩ := boxD5 J3.out.st
 have hF := Lib.hid (J3.out.fin (dr := (d : Int)) i x1 a1 (.mk 0 ⟨#[]⟩ 0 ⟨0, 0, ⟨#[]⟩⟩ ⟨#[]⟩ none 0 [] none 0 [] 0 : Pm))
 go_wp2_with first
  | (refine wpList_store_row rfl 81 (.tmp 2) (.tmp 13) rfl (w.heap.size + 1) #[.slice (some ⟨b, o, none⟩) n k, .int .i64 i, .int .i64 d, .int .i64 x1, .int .i64 a1] rfl rfl 81 #[.slice none 0 0, .int .i64 0, .int .i64 0, .int .i64 0, .int .i64 0] J3.out.rs st_size rfl (by simp [Value.oneCell']) ?_)
  | (refine wpList_store_row rfl 34 (.tmp 3) (.tmp 14) rfl (w.heap.size + 1 + 1) (.mk 0 ⟨#[]⟩ 0 ⟨0, 0, ⟨#[]⟩⟩ ⟨#[]⟩ none 0 [] none 0 [] 0 : Pm).c.toArray rfl rfl 34 z10 ((setRow_other _ _ _ _ (by omega)).trans J3.out.rp) pred_size rfl (Pm.c_all _) ?_)
 exact bodyPost_ret (res_cp rfl _ _ (w.heap.size + 1) (w.heap.size + 1 + 1) _ _ rfl rfl hF.out.1 hF.out.2.1 rfl rfl) rfl ⟨i, x1, a1, (.mk 0 ⟨#[]⟩ 0 ⟨0, 0, ⟨#[]⟩⟩ ⟨#[]⟩ none 0 [] none 0 [] 0 : Pm), rfl, S1.out, fun h0 => absurd h0 hx, PmS.leaf .., hF.out.2.2⟩
set_option linter.unusedSimpArgs false in
set_option linter.unusedVariables false in
set_option maxRecDepth 100000 in
set_option maxHeartbeats 6400000 in
theorem rone_bad (b o n k : Nat) (T : List Tk) (d dm : Nat) (hd : d ≤ 19) (s : RS) (w : World) (h : TkE b o n k T w) (i c a : Nat) (hs : SR n T s i c a) (hc : c ≠ 0) :
  Calls Try.prog 53 #[.agg #[.slice (some ⟨b, o, none⟩) n k, .int .i64 i, .int .i64 d, .int .i64 c, .int .i64 a]] w (PGo b o n k d T (oneF dm s) w) := by
 have g20 : ¬ (20 : Int) ≤ d := by omega
 have S1 := Lib.hid (hs.sone hc dm)
 have hx := Lib.hid hc
 have k0 : ((c : Int) != 0) = true := ne_nat hc
 clear h hs hc
 have A1 := alc3a w (.cells #[.slice (some ⟨b, o, none⟩) n k, .int .i64 i, .int .i64 d, .int .i64 c, .int .i64 a] 81) (.cells #[.slice none 0 0, .int .i64 0, .int .i64 0, .int .i64 0, .int .i64 0] 81) (.cells z10 34)
 have R1 := alc3b w (.cells #[.slice (some ⟨b, o, none⟩) n k, .int .i64 i, .int .i64 d, .int .i64 c, .int .i64 a] 81) (.cells #[.slice none 0 0, .int .i64 0, .int .i64 0, .int .i64 0, .int .i64 0] 81) (.cells z10 34)
 have Q1 := alc3c w (.cells #[.slice (some ⟨b, o, none⟩) n k, .int .i64 i, .int .i64 d, .int .i64 c, .int .i64 a] 81) (.cells #[.slice none 0 0, .int .i64 0, .int .i64 0, .int .i64 0, .int .i64 0] 81) (.cells z10 34)
 have G1 := gq_al (gq_al (gq_al (grown_reflT w none) (.cells #[.slice (some ⟨b, o, none⟩) n k, .int .i64 i, .int .i64 d, .int .i64 c, .int .i64 a] 81)) (.cells #[.slice none 0 0, .int .i64 0, .int .i64 0, .int .i64 0, .int .i64 0] 81)) (.cells z10 34)
 have J1 : Hid (OnJ b o n k (d : Int) w i c a (((w.alloc (.cells #[.slice (some ⟨b, o, none⟩) n k, .int .i64 i, .int .i64 d, .int .i64 c, .int .i64 a] 81)).alloc (.cells #[.slice none 0 0, .int .i64 0, .int .i64 0, .int .i64 0, .int .i64 0] 81)).alloc (.cells z10 34))) := Lib.hid ⟨A1, R1, Q1, G1⟩
 clear A1 R1 Q1 G1
 go_enter Try.func53, Try.ntmps53
 go_upto_region 1 with fail
 change Code.wp _ _ _ _ (((w.alloc (.cells #[.slice (some ⟨b, o, none⟩) n k, .int .i64 i, .int .i64 d, .int .i64 c, .int .i64 a] 81)).alloc (.cells #[.slice none 0 0, .int .i64 0, .int .i64 0, .int .i64 0, .int .i64 0] 81)).alloc (.cells z10 34))
 generalize ((w.alloc (.cells #[.slice (some ⟨b, o, none⟩) n k, .int .i64 i, .int .i64 d, .int .i64 c, .int .i64 a] 81)).alloc (.cells #[.slice none 0 0, .int .i64 0, .int .i64 0, .int .i64 0, .int .i64 0] 81)).alloc (.cells z10 34) = w1 at *
 obtain ⟨⟨c0, c1, c2, c3, c4⟩, f0, f1, f2, f3, f4⟩ := boxD5 J1.out.st
 have hF := Lib.hid (J1.out.fin (dr := (d : Int)) i c a (.mk 0 ⟨#[]⟩ 0 ⟨0, 0, ⟨#[]⟩⟩ ⟨#[]⟩ none 0 [] none 0 [] 0 : Pm))
 go_wp2_with first
  | (refine wpList_store_row rfl 81 (.tmp 2) (.tmp 13) rfl (w.heap.size + 1) #[.slice (some ⟨b, o, none⟩) n k, .int .i64 i, .int .i64 d, .int .i64 c, .int .i64 a] rfl rfl 81 #[.slice none 0 0, .int .i64 0, .int .i64 0, .int .i64 0, .int .i64 0] J1.out.rs st_size rfl (by simp [Value.oneCell']) ?_)
  | (refine wpList_store_row rfl 34 (.tmp 3) (.tmp 14) rfl (w.heap.size + 1 + 1) (.mk 0 ⟨#[]⟩ 0 ⟨0, 0, ⟨#[]⟩⟩ ⟨#[]⟩ none 0 [] none 0 [] 0 : Pm).c.toArray rfl rfl 34 z10 ((setRow_other _ _ _ _ (by omega)).trans J1.out.rp) pred_size rfl (Pm.c_all _) ?_)
 exact bodyPost_ret (res_cp rfl _ _ (w.heap.size + 1) (w.heap.size + 1 + 1) _ _ rfl rfl hF.out.1 hF.out.2.1 rfl rfl) rfl ⟨i, c, a, (.mk 0 ⟨#[]⟩ 0 ⟨0, 0, ⟨#[]⟩⟩ ⟨#[]⟩ none 0 [] none 0 [] 0 : Pm), rfl, S1.out, fun h0 => absurd h0 hx.out, PmS.leaf .., hF.out.2.2⟩
set_option linter.unusedSimpArgs false in
set_option linter.unusedVariables false in
set_option maxRecDepth 100000 in
set_option maxHeartbeats 6400000 in
theorem rone_good (b o n k : Nat) (T : List Tk) (d dm : Nat) (hd : d ≤ 19) (s : RS) (w : World) (h : TkE b o n k T w) (i c a : Nat) (hs : SR n T s i c a) (hc : c = 0)
  (HI : ∀ (W : World) (_ : TkE b o n k T W), Calls Try.prog 75 #[.agg #[.slice (some ⟨b, o, none⟩) n k, .int .i64 i, .int .i64 (d + 1 : Nat), .int .i64 c, .int .i64 a]] W (PGo b o n k (d + 1) T (oneF dm s) W)) :
  Calls Try.prog 53 #[.agg #[.slice (some ⟨b, o, none⟩) n k, .int .i64 i, .int .i64 d, .int .i64 c, .int .i64 a]] w (PGo b o n k d T (oneF dm s) w) := by
 have g20 : ¬ (20 : Int) ≤ d := by omega
 have HIn := Lib.hid (fun W (hW : w.grownBy W none) => HI W (h.keep hW))
 unfold PGo at HIn
 simp only [show ((d + 1 : Nat) : Int) = (d : Int) + 1 from rfl] at HIn
 have k0 : ((c : Int) != 0) = false := by rw [hc]; rfl
 generalize oneF dm s = r at *
 clear h hs hc HI
 have A1 := alc3a w (.cells #[.slice (some ⟨b, o, none⟩) n k, .int .i64 i, .int .i64 d, .int .i64 c, .int .i64 a] 81) (.cells #[.slice none 0 0, .int .i64 0, .int .i64 0, .int .i64 0, .int .i64 0] 81) (.cells z10 34)
 have R1 := alc3b w (.cells #[.slice (some ⟨b, o, none⟩) n k, .int .i64 i, .int .i64 d, .int .i64 c, .int .i64 a] 81) (.cells #[.slice none 0 0, .int .i64 0, .int .i64 0, .int .i64 0, .int .i64 0] 81) (.cells z10 34)
 have Q1 := alc3c w (.cells #[.slice (some ⟨b, o, none⟩) n k, .int .i64 i, .int .i64 d, .int .i64 c, .int .i64 a] 81) (.cells #[.slice none 0 0, .int .i64 0, .int .i64 0, .int .i64 0, .int .i64 0] 81) (.cells z10 34)
 have G1 := gq_al (gq_al (gq_al (grown_reflT w none) (.cells #[.slice (some ⟨b, o, none⟩) n k, .int .i64 i, .int .i64 d, .int .i64 c, .int .i64 a] 81)) (.cells #[.slice none 0 0, .int .i64 0, .int .i64 0, .int .i64 0, .int .i64 0] 81)) (.cells z10 34)
 have J1 : Hid (OnJ b o n k (d : Int) w i c a (((w.alloc (.cells #[.slice (some ⟨b, o, none⟩) n k, .int .i64 i, .int .i64 d, .int .i64 c, .int .i64 a] 81)).alloc (.cells #[.slice none 0 0, .int .i64 0, .int .i64 0, .int .i64 0, .int .i64 0] 81)).alloc (.cells z10 34))) := Lib.hid ⟨A1, R1, Q1, G1⟩
 clear A1 R1 Q1 G1
 go_enter Try.func53, Try.ntmps53
 go_upto_region 1 with fail
 change Code.wp _ _ _ _ (((w.alloc (.cells #[.slice (some ⟨b, o, none⟩) n k, .int .i64 i, .int .i64 d, .int .i64 c, .int .i64 a] 81)).alloc (.cells #[.slice none 0 0, .int .i64 0, .int .i64 0, .int .i64 0, .int .i64 0] 81)).alloc (.cells z10 34))
 generalize ((w.alloc (.cells #[.slice (some ⟨b, o, none⟩) n k, .int .i64 i, .int .i64 d, .int .i64 c, .int .i64 a] 81)).alloc (.cells #[.slice none 0 0, .int .i64 0, .int .i64 0, .int .i64 0, .int .i64 0] 81)).alloc (.cells z10 34) = w1 at *
 obtain ⟨⟨c0, c1, c2, c3, c4⟩, f0, f1, f2, f3, f4⟩ := boxD5 J1.out.st
 have K1 := J1.out.deep ((d : Int) + 1)
 go_upto_region 6 with fail
 have J2 := Lib.hid K1
 generalize w1.setCell ⟨w.heap.size, 2, none⟩ (.int .i64 ((d : Int) + 1)) = w2 at *
 clear K1 J1 c0 c1 c2 c3 c4 f0 f1 f2 f3 f4 g20 k0
 obtain ⟨⟨c0, c1, c2, c3, c4⟩, f0, f1, f2, f3, f4⟩ := boxD5 J2.out.st
 go_wp2_with fail
 refine (HIn.out _ J2.out.g).mono ?_
 rintro e w3 ⟨i3, x3, a3, y, rfl, hS, hE, hM, hg⟩
 have J3 := Lib.hid (J2.out.then hg)
 have S3 := Lib.hid hS
 have E3 := Lib.hid hE
 have M3 := Lib.hid hM
 have hw2 : w.heap.size + 1 + 1 < w2.heap.size := (Array.getElem?_eq_some_iff.1 J2.out.rp).1
 have hsz := hg.size
 have y1 := y.c_size
 have y2 := y.c_all
 simp only [Pm.v]
 obtain ⟨cs, HCS⟩ : ∃ cs, cs = y.c.toArray := ⟨_, rfl⟩
 rw [← HCS] at y1 y2
 simp only [← HCS]
 have HCS2 := Lib.hid HCS
 clear HCS hS hE hM hg HIn c0 c1 c2 c3 c4 f0 f1 f2 f3 f4
 go_upto_region 7 with first
  | (refine wpList_store_row rfl 81 (.tmp 1) (.tmp 22) rfl w.heap.size #[.slice (some ⟨b, o, none⟩) n k, .int .i64 i3, .int .i64 ((d : Int) + 1), .int .i64 x3, .int .i64 a3] rfl rfl 81 #[.slice (some ⟨b, o, none⟩) n k, .int .i64 i, .int .i64 ((d : Int) + 1), .int .i64 c, .int .i64 a] (blkD (World.grownBy_alloc _ _ none) J3.out.st) st_size rfl (by simp [Value.oneCell']) ?_)
  | (refine wpList_store_row rfl 34 (.tmp 4) (.tmp 23) rfl w3.heap.size cs rfl rfl 34 z10 ((setRow_other _ _ _ _ (by omega)).trans (alc1 w3 _)) (by rw [y1]; exact pred_size) (by rw [y1]; rfl) y2 ?_)
 obtain ⟨w4, hw4⟩ : ∃ w4, w4 = ((w3.alloc (.cells #[.int .i64 0, .string ⟨#[]⟩, .int .i64 0, .int .i64 0, .int .i64 0, .string ⟨#[]⟩, .string ⟨#[]⟩, .slice none 0 0, .slice none 0 0, .int .i64 0] 34)).setRow w.heap.size #[.slice (some ⟨b, o, none⟩) n k, .int .i64 i3, .int .i64 ((d : Int) + 1), .int .i64 x3, .int .i64 a3]).setRow w3.heap.size cs := ⟨_, rfl⟩
 have hkb : w.heap.size + 1 + 1 < w3.heap.size := by omega
 have J4 : Hid (OnJ b o n k ((d : Int) + 1) w i3 x3 a3 w4) := Lib.hid (by rw [hw4]; exact (((J3.out.then (World.grownBy_alloc w3 _ none)).row i3 x3 a3 ((d : Int) + 1)).far hkb cs))
 have X4 : Hid (w4.heap[w3.heap.size]? = some (.cells cs 34 (0, 0))) := Lib.hid (by rw [hw4]; exact setRow_heap _ _ _ _ _ _ ((setRow_other _ _ _ _ (by omega)).trans (alc1 w3 _)))
 have M4 : Hid (PmS (fun q => w.heap.size + 1 + 1 < q ∧ q < w3.heap.size) w4 y) := Lib.hid (by rw [hw4]; exact (((M3.out.mono (S' := fun q => w.heap.size + 1 + 1 < q ∧ q < w3.heap.size) (fun q hq hh => ⟨Nat.lt_of_lt_of_le hw2 hh, hq⟩)).keep (.of (World.grownBy_alloc w3 _ none))).keep (.of_grown2 (grown_setRow _ _ _) (fun j hj => by omega))).keep (.of_grown2 (grown_setRow _ _ _) (fun j hj => by omega)))
 rw [← hw4]
 clear hw4 J3 M3 J2 hw2 hsz
 generalize w3.heap.size = p at *
 obtain ⟨⟨c0, c1, c2, c3, c4⟩, f0, f1, f2, f3, f4⟩ := boxD5 J4.out.st
 go_upto_region 8 with fail
 obtain ⟨w5, hw5⟩ : ∃ w5, w5 = w4.setCell ⟨w.heap.size, 2, none⟩ (.int .i64 (d : Int)) := ⟨_, rfl⟩
 have J5 : Hid (PrJ b o n k d w p i3 x3 a3 y.c.toArray w5) := Lib.hid (by rw [hw5, ← HCS2.out]; exact (J4.out.deep (d : Int)).pr hkb (blkR X4.out (gq_cellR _ _ _ _) (by omega)))
 have HPm : Hid (PmS (fun q => w.heap.size + 1 + 1 < q ∧ q < p) w5 y) := Lib.hid (by rw [hw5]; exact M4.out.keep (.of_grown2 (gq_cellR _ _ _ _) (fun j hj => by omega)))
 rw [← hw5]
 rw [HCS2.out] at y1 y2
 simp only [HCS2.out]
 obtain ⟨y0, hy0⟩ : ∃ y0, y0 = y := ⟨_, rfl⟩
 rw [← hy0] at HPm E3 J5
 simp only [← hy0]
 clear hw5 J4 X4 M4 HCS2 hy0 y1 y2 c0 c1 c2 c3 c4 f0 f1 f2 f3 f4
 have hp1 := J5.out.p1
 obtain ⟨y, hy⟩ : ∃ y : Pm, y = y0 := ⟨_, rfl⟩
 have HY := Lib.hid hy
 have Jy : Hid (PrJ b o n k d w p i3 x3 a3 y.c.toArray w5) := Lib.hid (by rw [hy]; exact J5.out)
 clear J5 hy
 refine wp_region_held_drew (S := (fun W => Hid (GY w5 W w.heap.size))) (by kernel_rfl) (Lib.hid (GY.of (grown_drewT (grown_reflX _ _)) _)) (fun hHeld => ?_)
 refine TKA (i := 0) (v := .agg #[.slice (some ⟨b, o, none⟩) n k, .int .i64 i3, .int .i64 d, .int .i64 x3, .int .i64 a3]) rfl (yieldsIf_load_mid (by rfl) _ _ rfl w.heap.size 0 rfl _ _ (fun W hS => range_rowD (blkY Jy.out.st hS.out (by omega) (by omega))) Try.underlying81 rfl st_size) ?_
 simp only [Act.put, List.getElem_toArray, List.getElem_cons_succ, List.getElem_cons_zero, List.size_toArray, List.length_cons, List.length_nil, Nat.reduceAdd, Array.replicate, List.replicate, List.setIfInBounds_toArray, List.set_cons_zero, List.set_cons_succ]
 refine TKA (i := 1) (v := .agg y.c.toArray) rfl (yieldsIf_load_mid (by rfl) _ _ rfl p 0 rfl y.c _ (fun W hS => range_rowD (blkY Jy.out.pp hS.out (by omega) (by omega))) Try.underlying34 rfl (show (Try.prog.info? 34).map (·.size) = some y.c.length by rw [Pm.c_len]; exact pred_size)) ?_
 simp only [Act.put, List.getElem_toArray, List.getElem_cons_succ, List.getElem_cons_zero, List.size_toArray, List.length_cons, List.length_nil, Nat.reduceAdd, Array.replicate, List.replicate, List.setIfInBounds_toArray, List.set_cons_zero, List.set_cons_succ]
 refine RD1 (i := 2) rfl (fun K' hK => ?_)
 obtain ⟨w6, hw6⟩ : ∃ w6, w6 = w5.drew := ⟨_, rfl⟩
 have gd : w5.grownBy w6 none := by rw [hw6]; exact grown_drewT (grown_reflX _ _)
 have Z6 : Hid (GY w5 w6 w.heap.size) := Lib.hid (GY.of gd _)
 have J6 := Lib.hid (Jy.out.then gd)
 have D6 := Lib.hid gd
 rw [← hw6]
 clear hw6 gd
 refine wp_store_row 81 (.tmp 2) (.tmp 28) rfl (w.heap.size + 1) #[.slice (some ⟨b, o, none⟩) n k, .int .i64 i3, .int .i64 d, .int .i64 x3, .int .i64 a3] (by rfl) (by rfl) 81 #[.slice none 0 0, .int .i64 0, .int .i64 0, .int .i64 0, .int .i64 0] J6.out.rs st_size rfl (by simp [Value.oneCell']) ?_
 have ZR : Hid (GY w5 _ w.heap.size) := Lib.hid (Z6.out.one (grown_setRow w6 (w.heap.size + 1) #[.slice (some ⟨b, o, none⟩) n k, .int .i64 i3, .int .i64 d, .int .i64 x3, .int .i64 a3]) (.inl rfl))
 refine hK.out _ _ ZR (fun hHeld => ?_)
 clear hK K'
 simp only [Act.put, List.getElem_toArray, List.getElem_cons_succ, List.getElem_cons_zero, List.size_toArray, List.length_cons, List.length_nil, Nat.reduceAdd, Array.replicate, List.replicate, List.setIfInBounds_toArray, List.set_cons_zero, List.set_cons_succ]
 refine RD1 (i := 3) rfl (fun K' hK => ?_)
 refine wp_store_row 34 (.tmp 3) (.tmp 29) rfl (w.heap.size + 1 + 1) y.c.toArray (by rfl) (by rfl) 34 z10 ((setRow_other _ _ _ _ (by omega)).trans J6.out.rp) (by rw [Pm.c_size]; exact pred_size) (by rw [Pm.c_size]; rfl) (Pm.c_all _) ?_
 have ZI : Hid (GY w5 _ w.heap.size) := Lib.hid (ZR.out.one (grown_setRow _ (w.heap.size + 1 + 1) y.c.toArray) (.inr rfl))
 have hF := J6.out.fin i3 x3 a3 y
 refine hK.out _ _ ZI (fun hHeld => ?_)
 clear hK K'
 simp only [Act.put, List.getElem_toArray, List.getElem_cons_succ, List.getElem_cons_zero, List.size_toArray, List.length_cons, List.length_nil, Nat.reduceAdd, Array.replicate, List.replicate, List.setIfInBounds_toArray, List.set_cons_zero, List.set_cons_succ]
 refine wpAnyH_done (by kernel_rfl) ?_ _
 go_wp2_with fail
 refine bodyPost_ret (res_cp rfl _ _ (w.heap.size + 1) (w.heap.size + 1 + 1) _ _ rfl rfl hF.1 hF.2.1 rfl (Pm.c_size _)) rfl ⟨i3, x3, a3, y, rfl, ?_, ?_, ?_, hF.2.2⟩
 ·exact S3.out
 ·intro h0; rw [HY.out]; exact E3.out h0
 ·rw [HY.out]; exact ((HPm.out.keep (.of D6.out)).keep (.fin (g := w.heap.size + 1) (fun j hj => by omega))).mono (fun j _ hj => by omega)
end Go.Proofs.Ytfambadamebjjaa
namespace Go.Proofs.Ytfambadamebjjaa
open Go.RowKit
def PtIn (b o n k d : Nat) (T : List Tk) (word : ByteArray) (pf : RS → RS × Prd) (r0 : RS × List Prd) (w : World) (v : Value) (wr : World) : Prop :=
 ∃ (j i c a : Nat) (t : RS) (arr : Option Addr) (cap : Nat) (l : List Pm) (acc : List Prd), v = .slice arr j cap ∧ l.length = j ∧ acc.length = j ∧ (l.map fun y => y.e.e) = acc.map Prd.e ∧ partsF word pf (pf t).1.rest.length (pf t).1 (acc ++ [(pf t).2]) = r0 ∧ SR n T t i c a ∧ j + t.rest.length ≤ 252 ∧ Win 10 wr arr cap j (l.flatMap Pm.c) ∧ (∀ q, bk arr q → w.heap.size + 1 + 1 < q) ∧ PmSs (fun q => w.heap.size + 1 + 1 < q ∧ ¬ bk arr q) wr l ∧ OnJ b o n k (d : Int) w i c a wr
theorem SR.few {n i c a : Nat} {T : List Tk} {s : RS} (h : SR n T s i c a) (hn : n ≤ 251) : s.rest.length ≤ 252 := by
 rcases h.or with ⟨_, _, _, e⟩ | ⟨_, _, e⟩
 ·rw [e, List.length_drop, h.len]; omega
 ·omega
theorem GY.cell {w w' : World} {g0 g j : Nat} {v : Value} (h : GY w w' g0) (hc : w.cell? ⟨g, j, none⟩ = some v) (h1 : g ≠ g0 + 1) (h2 : g ≠ g0 + 1 + 1) : w'.cell? ⟨g, j, none⟩ = some v :=
 (World.cell?_of_block (a := ⟨g, j, Option.none⟩) (h.2 g (World.block_lt_of_cell? w _ hc) h1 h2)).trans hc
theorem join_out (kd pos arr' : Nat) (arr : Ptr) (cap : Nat) (L : List Pm) (acc : List Prd) (h : (L.map fun y => y.e.e) = acc.map Prd.e) (hl : acc.length ≠ 1) : (Pm.mk kd ⟨#[]⟩ 0 ⟨0, 0, ⟨#[]⟩⟩ ⟨#[]⟩ none 0 [] arr cap L arr').e.e = (joinP kd pos acc).e := by
 rw [← joinP_e kd pos acc, join_more kd 0 _ (by rw [List.length_map]; exact hl), ← h]
 simp [Pm.e, Prd.e, Pm.es_map, Prd.es_map, Function.comp_def]
theorem Stays.only2 {S : Nat → Prop} {w w' : World} {arr : Option Addr} (h : Only (bk arr) w w') (hS : ∀ j, S j → ¬ bk arr j) : Stays S w w' :=
 ⟨h.size, fun j hj hlt => h.block j hlt (hS j hj)⟩
theorem PmSs.app {S : Nat → Prop} {w : World} {l : List Pm} {y : Pm} (h : PmSs S w l) (hy : PmS S w y) : PmSs S w (l ++ [y]) :=
 (PmSs_iff _).2 (fun x hx => (List.mem_append.1 hx).elim (fun e => (PmSs_iff _).1 h x e) (fun e => by obtain rfl := List.mem_singleton.1 e; exact hy))
set_option linter.unusedSimpArgs false in
set_option linter.unusedVariables false in
set_option maxRecDepth 100000 in
set_option maxHeartbeats 6400000 in
theorem rparts_8 (b o n k : Nat) (T : List Tk) (d dm : Nat) (H1 : OneH b o n k T d dm) (s : RS) (w : World) (h : TkE b o n k T w) (i c a : Nat) (hs : SR n T s i c a) :
  Calls Try.prog 36 #[.agg #[.slice (some ⟨b, o, none⟩) n k, .int .i64 i, .int .i64 d, .int .i64 c, .int .i64 a], .int .i64 8] w (PGo b o n k d T (allF dm s) w) := by
 have HH := Lib.hid h
 have HO := Lib.hid (show ∀ (s : RS) (w : World) (_ : TkE b o n k T w) (i c a : Nat) (_ : SR n T s i c a), Calls Try.prog 53 #[.agg #[.slice (some ⟨b, o, none⟩) n k, .int .i64 i, .int .i64 d, .int .i64 c, .int .i64 a]] w (PGo b o n k d T (oneF dm s) w) from H1)
 have hn := oneF_next dm
 obtain ⟨word, hword⟩ : ∃ word : ByteArray, word = bAnd := ⟨_, rfl⟩
 have hkey : keyT word := by rw [hword]; exact key_and
 obtain ⟨pf, hpf⟩ : ∃ pf, pf = (oneF dm) := ⟨_, rfl⟩
 obtain ⟨r, hr⟩ : ∃ r, r = allF dm s := ⟨_, rfl⟩
 obtain ⟨r0, hr0⟩ : ∃ r0, r0 = partsF word pf (pf s).1.rest.length (pf s).1 ([] ++ [(pf s).2]) := ⟨_, rfl⟩
 have hrr : r = (r0.1, joinP 8 s.hd.pos r0.2) := by rw [hr, hr0, hpf, hword]; rfl
 rw [← hr]
 rw [← hpf] at hn HO
 have HN := Lib.hid hn
 have HK := Lib.hid hkey
 have HRR := Lib.hid hrr
 have HR0 := Lib.hid hr0.symm
 have S0 := Lib.hid hs
 have hfew := Lib.hid (hs.few h.few)
 have hw0 : word = ⟨#[65, 78, 68]⟩ := hword
 generalize hpos : s.hd.pos = pos at *
 clear h hs hr hrr hr0 H1 hn hkey hpf hword hpos
 have A1 := alc3a w (.cells #[.slice (some ⟨b, o, none⟩) n k, .int .i64 i, .int .i64 d, .int .i64 c, .int .i64 a] 81) (.cells #[.slice none 0 0, .int .i64 0, .int .i64 0, .int .i64 0, .int .i64 0] 81) (.cells z10 34)
 have R1 := alc3b w (.cells #[.slice (some ⟨b, o, none⟩) n k, .int .i64 i, .int .i64 d, .int .i64 c, .int .i64 a] 81) (.cells #[.slice none 0 0, .int .i64 0, .int .i64 0, .int .i64 0, .int .i64 0] 81) (.cells z10 34)
 have Q1 := alc3c w (.cells #[.slice (some ⟨b, o, none⟩) n k, .int .i64 i, .int .i64 d, .int .i64 c, .int .i64 a] 81) (.cells #[.slice none 0 0, .int .i64 0, .int .i64 0, .int .i64 0, .int .i64 0] 81) (.cells z10 34)
 have G1 := gq_al (gq_al (gq_al (grown_reflT w none) (.cells #[.slice (some ⟨b, o, none⟩) n k, .int .i64 i, .int .i64 d, .int .i64 c, .int .i64 a] 81)) (.cells #[.slice none 0 0, .int .i64 0, .int .i64 0, .int .i64 0, .int .i64 0] 81)) (.cells z10 34)
 have J1 : Hid (OnJ b o n k (d : Int) w i c a (((w.alloc (.cells #[.slice (some ⟨b, o, none⟩) n k, .int .i64 i, .int .i64 d, .int .i64 c, .int .i64 a] 81)).alloc (.cells #[.slice none 0 0, .int .i64 0, .int .i64 0, .int .i64 0, .int .i64 0] 81)).alloc (.cells z10 34))) := Lib.hid ⟨A1, R1, Q1, G1⟩
 clear A1 R1 Q1 G1
 go_enter Try.func36, Try.ntmps36
 go_upto_region 4 with fail
 change Code.wp _ _ _ _ (((w.alloc (.cells #[.slice (some ⟨b, o, none⟩) n k, .int .i64 i, .int .i64 d, .int .i64 c, .int .i64 a] 81)).alloc (.cells #[.slice none 0 0, .int .i64 0, .int .i64 0, .int .i64 0, .int .i64 0] 81)).alloc (.cells z10 34))
 generalize ((w.alloc (.cells #[.slice (some ⟨b, o, none⟩) n k, .int .i64 i, .int .i64 d, .int .i64 c, .int .i64 a] 81)).alloc (.cells #[.slice none 0 0, .int .i64 0, .int .i64 0, .int .i64 0, .int .i64 0] 81)).alloc (.cells z10 34) = w1 at *
 rw [← hw0]
 clear hw0
 go_wp2_with fail
 go_loopw [7] (fun s7 wr => PtIn b o n k d T word pf r0 w s7 wr) (fun s7 _ => 300 - lenV s7)
 case atStart => exact ⟨0, i, c, a, s, none, 0, [], [], rfl, rfl, rfl, rfl, HR0.out, S0.out, by have := hfew.out; omega, Win.nil 10 _, fun q hq => by simp [bk] at hq, trivial, J1.out⟩
 case round =>
  obtain ⟨j, i1, x1, a1, t, arr, cap, l, acc, rfl, hl, hac, hm, hp0, hS, hcn, hW, hb, hPm, hJ⟩ := hrel
  have HL := Lib.hid hl
  have HA := Lib.hid hac
  have HM := Lib.hid hm
  have HP0 := Lib.hid hp0
  have S1 := Lib.hid hS
  have HCN := Lib.hid hcn
  have W1 := Lib.hid hW
  have FA := Lib.hid hb
  have P1 := Lib.hid hPm
  have J2 := Lib.hid hJ
  have hj : j ≤ 252 := by omega
  have HT := Lib.hid (HN.out t hS.ok)
  have HPt := Lib.hid (fun W (hW : w.grownBy W none) => HO.out t W (HH.out.keep hW) i1 x1 a1 S1.out)
  have HST := Lib.hid (fun hc => partsF_step word (keyT_ne HK.out) pf HN.out (pf t).1 (acc ++ [(pf t).2]) (HN.out t hS.ok).1 hc)
  have HEN := Lib.hid (fun hc => partsF_end word pf (pf t).1 (acc ++ [(pf t).2]) hc)
  clear hl hac hm hp0 hS hcn hW hb hPm hJ J1
  generalize hu : (pf t).1 = u at *
  generalize hv : (pf t).2 = v at *
  rw [show pf t = (u, v) from Prod.ext hu hv] at HPt
  clear hu hv
  obtain ⟨⟨c0, c1, c2, c3, c4⟩, f0, f1, f2, f3, f4⟩ := boxD5 J2.out.st
  go_upto_region 6 with fail
  have gz := World.grownBy_alloc wr (.cells #[.int .i64 0, .string ⟨#[]⟩, .int .i64 0, .int .i64 0, .int .i64 0, .string ⟨#[]⟩, .string ⟨#[]⟩, .slice none 0 0, .slice none 0 0, .int .i64 0] 34) none
  have X3 : Hid ((wr.alloc (.cells #[.int .i64 0, .string ⟨#[]⟩, .int .i64 0, .int .i64 0, .int .i64 0, .string ⟨#[]⟩, .string ⟨#[]⟩, .slice none 0 0, .slice none 0 0, .int .i64 0] 34)).heap[wr.heap.size]? = some (.cells #[.int .i64 0, .string ⟨#[]⟩, .int .i64 0, .int .i64 0, .int .i64 0, .string ⟨#[]⟩, .string ⟨#[]⟩, .slice none 0 0, .slice none 0 0, .int .i64 0] 34 (0, 0))) := Lib.hid (alc1 wr _)
  have hkb : w.heap.size + 1 + 1 < wr.heap.size := (Array.getElem?_eq_some_iff.1 J2.out.rp).1
  have J3 := Lib.hid (J2.out.then gz)
  have W3 := Lib.hid (W1.out.keepG gz)
  have FK : Hid (∀ q, bk arr q → q < wr.heap.size) := Lib.hid (fun q hq => W1.out.lt q hq)
  have P3 : Hid (PmSs (fun q => (w.heap.size + 1 + 1 < q ∧ q < wr.heap.size) ∧ ¬ bk arr q) _ l) := Lib.hid ((P1.out.mono' (fun q hq hh => ⟨⟨hh.1, hq⟩, hh.2⟩)).keep (.of gz))
  clear J2 W1 P1 c0 c1 c2 c3 c4 f0 f1 f2 f3 f4
  generalize wr.alloc (.cells #[.int .i64 0, .string ⟨#[]⟩, .int .i64 0, .int .i64 0, .int .i64 0, .string ⟨#[]⟩, .string ⟨#[]⟩, .slice none 0 0, .slice none 0 0, .int .i64 0] 34) = w3 at *
  generalize wr.heap.size = kb at *
  clear gz
  obtain ⟨⟨c0, c1, c2, c3, c4⟩, f0, f1, f2, f3, f4⟩ := boxD5 J3.out.st
  have hbig : kb < w3.heap.size := (Array.getElem?_eq_some_iff.1 X3.out).1
  go_wp2_with fail
  refine (HPt.out _ J3.out.g).mono ?_
  rintro e w4 ⟨i2, x2, a2, y, rfl, hS, hE, hM, hg⟩
  have S2 := Lib.hid hS
  have E2 := Lib.hid hE
  have M4 := Lib.hid hM
  have J4 := Lib.hid (J3.out.then hg)
  have W4 := Lib.hid (W3.out.keepG hg)
  have P4 := Lib.hid (P3.out.keep (.of hg))
  have X4 := Lib.hid (blkD hg X3.out)
  have y1 := y.c_size
  have y2 := y.c_all
  simp only [Pm.v]
  obtain ⟨cs, HCS⟩ : ∃ cs, cs = y.c.toArray := ⟨_, rfl⟩
  rw [← HCS] at y1 y2
  simp only [← HCS]
  have HCS2 := Lib.hid HCS
  clear HCS hS hE hM hg HPt J3 W3 P3 X3 c0 c1 c2 c3 c4 f0 f1 f2 f3 f4
  go_upto_region 9 with first
   | (refine wpList_store_row rfl 81 (.tmp 2) (.tmp 22) rfl w.heap.size #[.slice (some ⟨b, o, none⟩) n k, .int .i64 i2, .int .i64 d, .int .i64 x2, .int .i64 a2] rfl rfl 81 #[.slice (some ⟨b, o, none⟩) n k, .int .i64 i1, .int .i64 d, .int .i64 x1, .int .i64 a1] J4.out.st st_size rfl (by simp [Value.oneCell']) ?_)
   | (refine wpList_store_row rfl 34 (.tmp 8) (.tmp 23) rfl kb cs rfl rfl 34 #[.int .i64 0, .string ⟨#[]⟩, .int .i64 0, .int .i64 0, .int .i64 0, .string ⟨#[]⟩, .string ⟨#[]⟩, .slice none 0 0, .slice none 0 0, .int .i64 0] ((setRow_other _ _ _ _ (by omega)).trans X4.out) (by rw [y1]; exact pred_size) (by rw [y1]; rfl) y2 ?_)
  obtain ⟨w5, hw5⟩ : ∃ w5, w5 = (w4.setRow w.heap.size #[.slice (some ⟨b, o, none⟩) n k, .int .i64 i2, .int .i64 d, .int .i64 x2, .int .i64 a2]).setRow kb cs := ⟨_, rfl⟩
  have J5 : Hid (OnJ b o n k (d : Int) w i2 x2 a2 w5) := Lib.hid (by rw [hw5]; exact (J4.out.row i2 x2 a2 _).far hkb cs)
  have X5 : Hid (w5.heap[kb]? = some (.cells cs 34 (0, 0))) := Lib.hid (by rw [hw5]; exact setRow_heap _ _ _ _ _ _ ((setRow_other _ _ _ _ (by omega)).trans X4.out))
  have M5 : Hid (PmS (fun q => kb < q) w5 y) := Lib.hid (by rw [hw5]; exact ((M4.out.mono (fun j _ hj => Nat.lt_of_lt_of_le hbig hj)).keep (.of_grown2 (grown_setRow _ _ _) (fun j hj => by omega))).keep (.of_grown2 (grown_setRow _ _ _) (fun j hj => by omega)))
  have W5 : Hid (Win 10 w5 arr cap j (l.flatMap Pm.c)) := Lib.hid (by rw [hw5]; exact (W4.out.keep (Only.of_grown (grown_setRow _ _ _)) (fun q hq e => by cases e; have := FA.out _ hq; omega)).keep (Only.of_grown (grown_setRow _ _ _)) (fun q hq e => by cases e; have := FK.out _ hq; omega))
  have P5 : Hid (PmSs (fun q => (w.heap.size + 1 + 1 < q ∧ q < kb) ∧ ¬ bk arr q) w5 l) := Lib.hid (by rw [hw5]; exact (P4.out.keep (.of_grown2 (grown_setRow _ _ _) (fun j hj => by omega))).keep (.of_grown2 (grown_setRow _ _ _) (fun j hj => by omega)))
  rw [← hw5]
  clear hw5 J4 X4 M4 W4 P4
  obtain ⟨⟨c0, c1, c2, c3, c4⟩, f0, f1, f2, f3, f4⟩ := boxD5 J5.out.st
  have ga := World.grownBy_alloc w5 (.cells cs 34) none
  go_wp2_with first
   | (refine wpList_load_row rfl 34 (.tmp 8) rfl kb rfl 34 cs (0, 0) _ X5.out Try.underlying34 rfl (by rw [y1]; exact pred_size) ?_)
   | (at_builtin; rw [fold_tenD y1]; refine wpList_append_winA (by rfl) (.tmp 24) (.tmp 26) pred_el (by rfl) (W5.out.keepG ga) (by rfl) (some ⟨w5.heap.size, 0, none⟩) 1 1 (by rfl) y.c (fun e => by cases e) (by rw [Pm.c_len]) (by omega) (fun ad e => by cases e; rw [HCS2.out]; exact World.news_of_block (alc1 w5 _)) y.c_one ?_)
  intro arr2 cap2 w6 z2 o2 b2 _
  have hsa := ga.size
  have hk5 : kb < w5.heap.size := (Array.getElem?_eq_some_iff.1 X5.out).1
  obtain ⟨L, hL⟩ : ∃ L, L = l ++ [y] := ⟨_, rfl⟩
  have hm : j + 1 = L.length := by rw [hL, List.length_append, HL.out]; rfl
  have hma : (acc ++ [v]).length = L.length := by rw [← hm, List.length_append, HA.out]; rfl
  have J6 := Lib.hid ((J5.out.then ga).only o2 FA.out)
  have W6 : Hid (Win 10 w6 arr2 cap2 (j + 1) (L.flatMap Pm.c)) := Lib.hid (by rw [hL, List.flatMap_append]; simpa using z2)
  have FB : Hid (∀ q, bk arr2 q → w.heap.size + 1 + 1 < q) := Lib.hid (fun q hq => (b2 q hq).elim (FA.out q) (fun e => by omega))
  have M6 : Hid (PmS (fun q => kb < q ∧ q < w5.heap.size) w6 y) := Lib.hid (((M5.out.mono (S' := fun q => kb < q ∧ q < w5.heap.size) (fun q hq hh => ⟨hh, hq⟩)).keep (.of ga)).keep (.only2 o2 (fun q hq e => by have := FK.out q e; omega)))
  have P6 : Hid (PmSs (fun q => w.heap.size + 1 + 1 < q ∧ ¬ bk arr2 q) w6 L) := Lib.hid (by
   rw [hL]
   refine PmSs.app ((((P5.out.keep (.of ga)).keep (.only2 o2 (fun q hq => hq.2))).mono' (fun q _ hh => ⟨hh.1.1, fun e => ?_⟩))) (M6.out.mono (fun q _ hh => ⟨by omega, fun e => ?_⟩))
   ·exact (b2 q e).elim hh.2 (fun e => by omega)
   ·exact (b2 q e).elim (fun e => by have := FK.out q e; omega) (fun e => by omega))
  have X6 : Hid (w6.heap[kb]? = some (.cells y.c.toArray 34 (0, 0))) := Lib.hid (by
   rw [← HCS2.out]
   exact (o2.block kb (by omega) (fun e => by have := FK.out kb e; omega)).trans (blkD ga X5.out))
  have EM : Hid (x2 = 0 → (L.map fun y => y.e.e) = (acc ++ [v]).map Prd.e) := Lib.hid (fun h0 => by rw [hL, List.map_append, List.map_append, HM.out]; simp [E2.out h0])
  have HL2 := Lib.hid (And.intro hm hma)
  have HACC : Hid (L.length = 1 → acc = []) := Lib.hid (fun h1 => List.eq_nil_of_length_eq_zero (by rw [HA.out]; omega))
  rw [hm] at W6 ⊢
  clear hm hma hL ga z2 o2 b2 J5 W5 P5 M5 X5 HCS2 y1 y2 hsa FA FK HL HM c0 c1 c2 c3 c4 f0 f1 f2 f3 f4
  obtain ⟨⟨c0, c1, c2, c3, c4⟩, f0, f1, f2, f3, f4⟩ := boxD5 J6.out.st
  have HI := Lib.hid (fun W (hW : w.grownBy W none) => ris_any b o n k T u W (HH.out.keep hW) i2 d x2 a2 word S2.out HK.out)
  obtain ⟨yc, hyc⟩ : ∃ yc, yc = u.comes word := ⟨_, rfl⟩
  rw [← hyc] at HI
  have HYC := Lib.hid hyc
  clear hyc
  go_wp2_with fail
  refine (HI.out _ J6.out.g).mono ?_
  rintro e w7 ⟨rfl, hg⟩
  have J7 := Lib.hid (J6.out.then hg)
  have W7 := Lib.hid (W6.out.keepG hg)
  have P7 := Lib.hid (P6.out.keep (.of hg))
  have X7 := Lib.hid (blkD hg X6.out)
  have M7 := Lib.hid (M6.out.keep (.of hg))
  clear hg HI J6 W6 P6 X6 M6 c0 c1 c2 c3 c4 f0 f1 f2 f3 f4
  cases yc with
  | false =>
   have HR1 : Hid (r0 = (u, acc ++ [v])) := Lib.hid (HP0.out.symm.trans (HEN.out HYC.out.symm))
   clear HP0 HEN HST HYC
   by_cases h1 : L.length = 1
   ·have HA0 := Lib.hid (HACC.out h1)
    have k1 : ((L.length : Int) == 1) = true := by rw [h1]; rfl
    clear h1
    go_upto_region 12 with fail
    clear k1
    have J8 := Lib.hid (J7.out.pr hkb X7.out)
    obtain ⟨y0, hy0⟩ : ∃ y0, y0 = y := ⟨_, rfl⟩
    rw [← hy0] at J8 M7 E2
    clear hy0 J7 X7
    obtain ⟨w8, hw8⟩ : ∃ w8, w8 = w7 := ⟨_, rfl⟩
    rw [← hw8] at J8 M7 ⊢
    clear hw8
    have hp1 := J8.out.p1
    obtain ⟨y, hy⟩ : ∃ y : Pm, y = y0 := ⟨_, rfl⟩
    have HY := Lib.hid hy
    have Jy : Hid (PrJ b o n k d w kb i2 x2 a2 y.c.toArray w8) := Lib.hid (by rw [hy]; exact J8.out)
    clear J8 hy
    refine wp_region_held_drew (S := (fun W => Hid (GY w8 W w.heap.size))) (by kernel_rfl) (Lib.hid (GY.of (grown_drewT (grown_reflX _ _)) _)) (fun hHeld => ?_)
    refine TKA (i := 0) (v := .agg #[.slice (some ⟨b, o, none⟩) n k, .int .i64 i2, .int .i64 d, .int .i64 x2, .int .i64 a2]) rfl (yieldsIf_load_mid (by rfl) _ _ rfl w.heap.size 0 rfl _ _ (fun W hS => range_rowD (blkY Jy.out.st hS.out (by omega) (by omega))) Try.underlying81 rfl st_size) ?_
    simp only [Act.put, List.getElem_toArray, List.getElem_cons_zero, List.size_toArray, List.length_cons, List.length_nil, Nat.reduceAdd, Array.replicate, List.replicate, List.setIfInBounds_toArray, List.set_cons_zero, List.set_cons_succ]
    refine TKA (i := 1) (v := .agg y.c.toArray) rfl (yieldsIf_load_mid (by rfl) _ _ rfl kb 0 rfl y.c _ (fun W hS => range_rowD (blkY Jy.out.pp hS.out (by omega) (by omega))) Try.underlying34 rfl (show (Try.prog.info? 34).map (·.size) = some y.c.length by rw [Pm.c_len]; exact pred_size)) ?_
    simp only [Act.put, List.getElem_toArray, List.getElem_cons_succ, List.getElem_cons_zero, List.setIfInBounds_toArray, List.set_cons_zero, List.set_cons_succ]
    refine RD1 (i := 2) rfl (fun K' hK => ?_)
    obtain ⟨w9, hw9⟩ : ∃ w9, w9 = w8.drew := ⟨_, rfl⟩
    have gd : w8.grownBy w9 none := by rw [hw9]; exact grown_drewT (grown_reflX _ _)
    have Z9 : Hid (GY w8 w9 w.heap.size) := Lib.hid (GY.of gd _)
    have J9 := Lib.hid (Jy.out.then gd)
    have D9 := Lib.hid gd
    rw [← hw9]
    clear hw9 gd
    refine wp_store_row 81 (.tmp 4) (.tmp 35) rfl (w.heap.size + 1) #[.slice (some ⟨b, o, none⟩) n k, .int .i64 i2, .int .i64 d, .int .i64 x2, .int .i64 a2] (by rfl) (by rfl) 81 #[.slice none 0 0, .int .i64 0, .int .i64 0, .int .i64 0, .int .i64 0] J9.out.rs st_size rfl (by simp [Value.oneCell']) ?_
    have ZR : Hid (GY w8 _ w.heap.size) := Lib.hid (Z9.out.one (grown_setRow w9 (w.heap.size + 1) #[.slice (some ⟨b, o, none⟩) n k, .int .i64 i2, .int .i64 d, .int .i64 x2, .int .i64 a2]) (.inl rfl))
    refine hK.out _ _ ZR (fun hHeld => ?_)
    clear hK K'
    simp only [Act.put, List.getElem_toArray, List.getElem_cons_succ, List.getElem_cons_zero, List.setIfInBounds_toArray, List.set_cons_zero, List.set_cons_succ]
    refine RD1 (i := 3) rfl (fun K' hK => ?_)
    refine wp_store_row 34 (.tmp 5) (.tmp 36) rfl (w.heap.size + 1 + 1) y.c.toArray (by rfl) (by rfl) 34 z10 ((setRow_other _ _ _ _ (by omega)).trans J9.out.rp) (by rw [Pm.c_size]; exact pred_size) (by rw [Pm.c_size]; rfl) (Pm.c_all _) ?_
    have ZI : Hid (GY w8 _ w.heap.size) := Lib.hid (ZR.out.one (grown_setRow _ (w.heap.size + 1 + 1) y.c.toArray) (.inr rfl))
    have hF := J9.out.fin i2 x2 a2 y
    refine hK.out _ _ ZI (fun hHeld => ?_)
    clear hK K'
    simp only [Act.put, List.getElem_toArray, List.getElem_cons_succ, List.getElem_cons_zero, List.setIfInBounds_toArray, List.set_cons_zero, List.set_cons_succ]
    refine wpAnyH_done (by kernel_rfl) ?_ _
    go_wp2_with fail
    refine bodyPost_ret (res_cp rfl _ _ (w.heap.size + 1) (w.heap.size + 1 + 1) _ _ rfl rfl hF.1 hF.2.1 rfl (Pm.c_size _)) rfl ⟨i2, x2, a2, y, rfl, ?_, ?_, ?_, hF.2.2⟩
    ·rw [HRR.out, HR1.out]; exact S2.out
    ·intro h0; rw [HRR.out, HR1.out, HA0.out, HY.out]; exact E2.out h0
    ·rw [HY.out]; exact ((M7.out.keep (.of D9.out)).keep (.fin (g := w.heap.size + 1) (fun j hj => by omega))).mono (fun j _ hj => by omega)
   ·have HN1 := Lib.hid h1
    have k1 : ((L.length : Int) == 1) = false := by rw [beq_eq_false_iff_ne]; omega
    have hlp : 0 < L.length := by have := HL2.out.1; omega
    clear h1
    go_upto_region 13 with fail
    clear k1
    obtain ⟨g, off, rfl, hc, _, _⟩ := W7.out.mem.resolve_left (by have := W7.out.le; have := HL2.out.1; omega)
    have hgg := FB.out g rfl
    obtain ⟨ps0, hps0⟩ : ∃ ps0 : Nat, w7.cell? ⟨g, off + 9, none⟩ = some (.int .i64 ps0) := by
     obtain ⟨p0, hp⟩ : ∃ p0 : Nat, (L.getD 0 default).c[9]? = some (.int .i64 p0) := by cases L.getD 0 default; exact ⟨_, rfl⟩
     exact ⟨p0, hc 9 _ (by have := pm_at L 0 hlp 9 _ hp; simpa using this)⟩
    have HPS := Lib.hid hps0
    have J8 := Lib.hid (J7.out.pr hkb X7.out)
    clear hc hps0 J7 X7
    obtain ⟨w8, hw8⟩ : ∃ w8, w8 = w7 := ⟨_, rfl⟩
    rw [← hw8] at J8 M7 P7 W7 HPS ⊢
    clear hw8
    have hp1 := J8.out.p1
    obtain ⟨y, hy⟩ : ∃ y : Pm, y = (.mk 8 ⟨#[]⟩ 0 ⟨0, 0, ⟨#[]⟩⟩ ⟨#[]⟩ none 0 [] (some ⟨g, off, none⟩) cap2 L ps0 : Pm) := ⟨_, rfl⟩
    have HY := Lib.hid hy
    have Jy := J8
    clear J8 hy
    refine wp_region_held_drew (S := (fun W => Hid (GY w8 W w.heap.size))) (by kernel_rfl) (Lib.hid (GY.of (grown_drewT (grown_reflX _ _)) _)) (fun hHeld => ?_)
    refine TKA (i := 0) (v := .agg #[.slice (some ⟨b, o, none⟩) n k, .int .i64 i2, .int .i64 d, .int .i64 x2, .int .i64 a2]) rfl (yieldsIf_load_mid (by rfl) _ _ rfl w.heap.size 0 rfl _ _ (fun W hS => range_rowD (blkY Jy.out.st hS.out (by omega) (by omega))) Try.underlying81 rfl st_size) ?_
    simp only [Act.put, List.getElem_toArray, List.getElem_cons_zero, List.size_toArray, List.length_cons, List.length_nil, Nat.reduceAdd, Array.replicate, List.replicate, List.setIfInBounds_toArray, List.set_cons_zero, List.set_cons_succ]
    refine TKB (i := 1) (v := ?vaz) rfl ?yaz ?raz
    case yaz => (intro w hSw; (try dsimp only at hSw); go_simp; try with_reducible rfl)
    simp only [Act.put, List.getElem_toArray, List.getElem_cons_succ, List.getElem_cons_zero, List.setIfInBounds_toArray, List.set_cons_zero, List.set_cons_succ]
    refine TKB (i := 2) (v := ?vbz) rfl ?ybz ?rbz
    case ybz => (intro w hSw; (try dsimp only at hSw); go_simp; try with_reducible rfl)
    simp only [Act.put, List.getElem_toArray, List.getElem_cons_succ, List.getElem_cons_zero, List.setIfInBounds_toArray, List.set_cons_zero, List.set_cons_succ]
    refine TKB (i := 3) (v := ?vcz) rfl ?ycz ?rcz
    case ycz => (intro w hSw; (try dsimp only at hSw); go_simp; try with_reducible rfl)
    simp only [Act.put, List.getElem_toArray, List.getElem_cons_succ, List.getElem_cons_zero, List.setIfInBounds_toArray, List.set_cons_zero, List.set_cons_succ]
    refine TKB (i := 4) (v := ?vdz) rfl ?ydz ?rdz
    case ydz => (intro w hSw; (try dsimp only at hSw); go_simp; (try rw [if_pos hlp]); try with_reducible rfl)
    simp only [Act.put, List.getElem_toArray, List.getElem_cons_succ, List.getElem_cons_zero, List.setIfInBounds_toArray, List.set_cons_zero, List.set_cons_succ]
    refine TKB (i := 5) (v := ?vez) rfl ?yez ?rez
    case yez => (intro w hSw; (try dsimp only at hSw); go_simp; try with_reducible rfl)
    simp only [Act.put, List.getElem_toArray, List.getElem_cons_succ, List.getElem_cons_zero, List.setIfInBounds_toArray, List.set_cons_zero, List.set_cons_succ]
    refine TKB (i := 6) (v := ?vfz) rfl ?yfz ?rfz
    case yfz => (intro w hSw; have q9 := hSw.out.cell HPS.out (by omega) (by omega); clear hSw; go_simp; try with_reducible rfl)
    simp only [Act.put, List.getElem_toArray, List.getElem_cons_succ, List.getElem_cons_zero, List.setIfInBounds_toArray, List.set_cons_zero, List.set_cons_succ]
    refine TKB (i := 7) (v := ?vgz) rfl ?ygz ?rgz
    case ygz => (intro w hSw; (try dsimp only at hSw); go_simp; try with_reducible rfl)
    simp only [Act.put, List.getElem_toArray, List.getElem_cons_succ, List.getElem_cons_zero, List.setIfInBounds_toArray, List.set_cons_zero, List.set_cons_succ]
    refine RD1 (i := 8) rfl (fun K' hK => ?_)
    obtain ⟨w9, hw9⟩ : ∃ w9, w9 = w8.drew := ⟨_, rfl⟩
    have gd : w8.grownBy w9 none := by rw [hw9]; exact grown_drewT (grown_reflX _ _)
    have Z9 : Hid (GY w8 w9 w.heap.size) := Lib.hid (GY.of gd _)
    have J9 := Lib.hid (Jy.out.then gd)
    have D9 := Lib.hid gd
    rw [← hw9]
    clear hw9 gd
    refine wp_store_row 81 (.tmp 4) (.tmp 37) rfl (w.heap.size + 1) #[.slice (some ⟨b, o, none⟩) n k, .int .i64 i2, .int .i64 d, .int .i64 x2, .int .i64 a2] (by rfl) (by rfl) 81 #[.slice none 0 0, .int .i64 0, .int .i64 0, .int .i64 0, .int .i64 0] J9.out.rs st_size rfl (by simp [Value.oneCell']) ?_
    have ZR : Hid (GY w8 _ w.heap.size) := Lib.hid (Z9.out.one (grown_setRow w9 (w.heap.size + 1) #[.slice (some ⟨b, o, none⟩) n k, .int .i64 i2, .int .i64 d, .int .i64 x2, .int .i64 a2]) (.inl rfl))
    refine hK.out _ _ ZR (fun hHeld => ?_)
    clear hK K'
    simp only [Act.put, List.getElem_toArray, List.getElem_cons_succ, List.getElem_cons_zero, List.setIfInBounds_toArray, List.set_cons_zero, List.set_cons_succ]
    refine RD1 (i := 9) rfl (fun K' hK => ?_)
    refine wp_store_row 34 (.tmp 5) (.tmp 44) rfl (w.heap.size + 1 + 1) (.mk 8 ⟨#[]⟩ 0 ⟨0, 0, ⟨#[]⟩⟩ ⟨#[]⟩ none 0 [] (some ⟨g, off, none⟩) cap2 L ps0 : Pm).c.toArray (by rfl) (by rfl) 34 z10 ((setRow_other _ _ _ _ (by omega)).trans J9.out.rp) (by rw [Pm.c_size]; exact pred_size) (by rw [Pm.c_size]; rfl) (Pm.c_all _) ?_
    have ZI : Hid (GY w8 _ w.heap.size) := Lib.hid (ZR.out.one (grown_setRow _ (w.heap.size + 1 + 1) (.mk 8 ⟨#[]⟩ 0 ⟨0, 0, ⟨#[]⟩⟩ ⟨#[]⟩ none 0 [] (some ⟨g, off, none⟩) cap2 L ps0 : Pm).c.toArray) (.inr rfl))
    have hF := J9.out.fin i2 x2 a2 (.mk 8 ⟨#[]⟩ 0 ⟨0, 0, ⟨#[]⟩⟩ ⟨#[]⟩ none 0 [] (some ⟨g, off, none⟩) cap2 L ps0 : Pm)
    refine hK.out _ _ ZI (fun hHeld => ?_)
    clear hK K'
    simp only [Act.put, List.getElem_toArray, List.getElem_cons_succ, List.getElem_cons_zero, List.setIfInBounds_toArray, List.set_cons_zero, List.set_cons_succ]
    refine wpAnyH_done (by kernel_rfl) ?_ _
    go_wp2_with fail
    refine bodyPost_ret (res_cp rfl _ _ (w.heap.size + 1) (w.heap.size + 1 + 1) _ _ rfl rfl hF.1 hF.2.1 rfl (Pm.c_size _)) rfl ⟨i2, x2, a2, (.mk 8 ⟨#[]⟩ 0 ⟨0, 0, ⟨#[]⟩⟩ ⟨#[]⟩ none 0 [] (some ⟨g, off, none⟩) cap2 L ps0 : Pm), rfl, ?_, ?_, ?_, hF.2.2⟩
    ·rw [HRR.out, HR1.out]; exact S2.out
    ·intro h0; rw [HRR.out, HR1.out]; exact join_out _ _ _ _ _ _ _ (EM.out h0) (by rw [HL2.out.2]; exact HN1.out)
    ·refine ⟨RwS.nil _ _ _, Nat.le_refl _, ?_, W7.out.le, ?_⟩
     ·exact (((win_cells W7.out FB.out).keep (.of D9.out)).keep (.fin (g := w.heap.size + 1) (fun j hj => by omega))).mono (fun j _ hj => by omega)
     ·exact ((((P7.out.mono' (fun j _ hj => hj.1)).keep (.of D9.out)).keep (.fin (g := w.heap.size + 1) (fun j hj => by omega))).mono' (fun j _ hj => by omega))
  | true =>
   have HP2 := Lib.hid (fun W (hW : w.grownBy W none) => rpassX b o n k T u W (HH.out.keep hW) i2 d x2 a2 word S2.out HK.out HYC.out.symm)
   have HX := S2.out.come HH.out HK.out HYC.out.symm
   have HR2 := Lib.hid ((HST.out HYC.out.symm).symm.trans HP0.out)
   have HB := Lib.hid (And.intro HT.out.2 (S2.out.ok.pass HX.2.2.2).2)
   have HE2 := Lib.hid (EM.out HX.1)
   clear HX EM HST HEN HP0 HYC
   obtain ⟨⟨c0, c1, c2, c3, c4⟩, f0, f1, f2, f3, f4⟩ := boxD5 J7.out.st
   go_wp2_with fail
   refine (HP2.out _ J7.out.g).mono ?_
   rintro e w8 ⟨⟨i3, x3, a3, rfl, hS⟩, hg⟩
   have S3 := Lib.hid hS
   have J8 := Lib.hid (J7.out.then hg)
   have W8 := Lib.hid (W7.out.keepG hg)
   have P8 := Lib.hid (P7.out.keep (.of hg))
   clear hg hS HP2 J7 W7 P7 c0 c1 c2 c3 c4 f0 f1 f2 f3 f4
   obtain ⟨⟨c0, c1, c2, c3, c4⟩, f0, f1, f2, f3, f4⟩ := boxD5 J8.out.st
   go_wp2_with fail
   have g9 := grownD5 w8 w.heap.size (.slice (some ⟨b, o, none⟩) n k) (.int .i64 i3) (.int .i64 d) (.int .i64 x3) (.int .i64 a3)
   go_roundw
   case rel => exact ⟨L.length, i3, x3, a3, u.pass, arr2, cap2, L, acc ++ [v], rfl, rfl, HL2.out.2, HE2.out, HR2.out, S3.out, by have := HB.out; have := HCN.out; have := HL2.out.1; omega, W8.out.keep (Only.of_grown g9) (fun q hq e => by cases e; have := FB.out _ hq; omega), FB.out, P8.out.keep (.of_grown2 g9 (fun q hq => by omega)), J8.out.set5 i3 x3 a3⟩
   case measure => have := HL2.out.1; simp [lenV]; omega
set_option linter.unusedSimpArgs false in
set_option linter.unusedVariables false in
set_option maxRecDepth 100000 in
set_option maxHeartbeats 6400000 in
theorem rparts_9 (b o n k : Nat) (T : List Tk) (d dm : Nat) (H1 : ∀ (s : RS) (w : World) (_ : TkE b o n k T w) (i c a : Nat) (_ : SR n T s i c a), Calls Try.prog 36 #[.agg #[.slice (some ⟨b, o, none⟩) n k, .int .i64 i, .int .i64 d, .int .i64 c, .int .i64 a], .int .i64 8] w (PGo b o n k d T (allF dm s) w)) (s : RS) (w : World) (h : TkE b o n k T w) (i c a : Nat) (hs : SR n T s i c a) :
  Calls Try.prog 36 #[.agg #[.slice (some ⟨b, o, none⟩) n k, .int .i64 i, .int .i64 d, .int .i64 c, .int .i64 a], .int .i64 9] w (PGo b o n k d T (anyF dm s) w) := by
 have HH := Lib.hid h
 have HO := Lib.hid H1
 have hn := allF_next dm
 obtain ⟨word, hword⟩ : ∃ word : ByteArray, word = bOr := ⟨_, rfl⟩
 have hkey : keyT word := by rw [hword]; exact key_or
 obtain ⟨pf, hpf⟩ : ∃ pf, pf = (allF dm) := ⟨_, rfl⟩
 obtain ⟨r, hr⟩ : ∃ r, r = anyF dm s := ⟨_, rfl⟩
 obtain ⟨r0, hr0⟩ : ∃ r0, r0 = partsF word pf (pf s).1.rest.length (pf s).1 ([] ++ [(pf s).2]) := ⟨_, rfl⟩
 have hrr : r = (r0.1, joinP 9 s.hd.pos r0.2) := by rw [hr, hr0, hpf, hword]; rfl
 rw [← hr]
 rw [← hpf] at hn HO
 have HN := Lib.hid hn
 have HK := Lib.hid hkey
 have HRR := Lib.hid hrr
 have HR0 := Lib.hid hr0.symm
 have S0 := Lib.hid hs
 have hfew := Lib.hid (hs.few h.few)
 have hw0 : word = ⟨#[79, 82]⟩ := hword
 generalize hpos : s.hd.pos = pos at *
 clear h hs hr hrr hr0 H1 hn hkey hpf hword hpos
 have A1 := alc3a w (.cells #[.slice (some ⟨b, o, none⟩) n k, .int .i64 i, .int .i64 d, .int .i64 c, .int .i64 a] 81) (.cells #[.slice none 0 0, .int .i64 0, .int .i64 0, .int .i64 0, .int .i64 0] 81) (.cells z10 34)
 have R1 := alc3b w (.cells #[.slice (some ⟨b, o, none⟩) n k, .int .i64 i, .int .i64 d, .int .i64 c, .int .i64 a] 81) (.cells #[.slice none 0 0, .int .i64 0, .int .i64 0, .int .i64 0, .int .i64 0] 81) (.cells z10 34)
 have Q1 := alc3c w (.cells #[.slice (some ⟨b, o, none⟩) n k, .int .i64 i, .int .i64 d, .int .i64 c, .int .i64 a] 81) (.cells #[.slice none 0 0, .int .i64 0, .int .i64 0, .int .i64 0, .int .i64 0] 81) (.cells z10 34)
 have G1 := gq_al (gq_al (gq_al (grown_reflT w none) (.cells #[.slice (some ⟨b, o, none⟩) n k, .int .i64 i, .int .i64 d, .int .i64 c, .int .i64 a] 81)) (.cells #[.slice none 0 0, .int .i64 0, .int .i64 0, .int .i64 0, .int .i64 0] 81)) (.cells z10 34)
 have J1 : Hid (OnJ b o n k (d : Int) w i c a (((w.alloc (.cells #[.slice (some ⟨b, o, none⟩) n k, .int .i64 i, .int .i64 d, .int .i64 c, .int .i64 a] 81)).alloc (.cells #[.slice none 0 0, .int .i64 0, .int .i64 0, .int .i64 0, .int .i64 0] 81)).alloc (.cells z10 34))) := Lib.hid ⟨A1, R1, Q1, G1⟩
 clear A1 R1 Q1 G1
 go_enter Try.func36, Try.ntmps36
 go_upto_region 4 with fail
 change Code.wp _ _ _ _ (((w.alloc (.cells #[.slice (some ⟨b, o, none⟩) n k, .int .i64 i, .int .i64 d, .int .i64 c, .int .i64 a] 81)).alloc (.cells #[.slice none 0 0, .int .i64 0, .int .i64 0, .int .i64 0, .int .i64 0] 81)).alloc (.cells z10 34))
 generalize ((w.alloc (.cells #[.slice (some ⟨b, o, none⟩) n k, .int .i64 i, .int .i64 d, .int .i64 c, .int .i64 a] 81)).alloc (.cells #[.slice none 0 0, .int .i64 0, .int .i64 0, .int .i64 0, .int .i64 0] 81)).alloc (.cells z10 34) = w1 at *
 rw [← hw0]
 clear hw0
 go_wp2_with fail
 go_loopw [7] (fun s7 wr => PtIn b o n k d T word pf r0 w s7 wr) (fun s7 _ => 300 - lenV s7)
 case atStart => exact ⟨0, i, c, a, s, none, 0, [], [], rfl, rfl, rfl, rfl, HR0.out, S0.out, by have := hfew.out; omega, Win.nil 10 _, fun q hq => by simp [bk] at hq, trivial, J1.out⟩
 case round =>
  obtain ⟨j, i1, x1, a1, t, arr, cap, l, acc, rfl, hl, hac, hm, hp0, hS, hcn, hW, hb, hPm, hJ⟩ := hrel
  have HL := Lib.hid hl
  have HA := Lib.hid hac
  have HM := Lib.hid hm
  have HP0 := Lib.hid hp0
  have S1 := Lib.hid hS
  have HCN := Lib.hid hcn
  have W1 := Lib.hid hW
  have FA := Lib.hid hb
  have P1 := Lib.hid hPm
  have J2 := Lib.hid hJ
  have hj : j ≤ 252 := by omega
  have HT := Lib.hid (HN.out t hS.ok)
  have HPt := Lib.hid (fun W (hW : w.grownBy W none) => HO.out t W (HH.out.keep hW) i1 x1 a1 S1.out)
  have HST := Lib.hid (fun hc => partsF_step word (keyT_ne HK.out) pf HN.out (pf t).1 (acc ++ [(pf t).2]) (HN.out t hS.ok).1 hc)
  have HEN := Lib.hid (fun hc => partsF_end word pf (pf t).1 (acc ++ [(pf t).2]) hc)
  clear hl hac hm hp0 hS hcn hW hb hPm hJ J1
  generalize hu : (pf t).1 = u at *
  generalize hv : (pf t).2 = v at *
  rw [show pf t = (u, v) from Prod.ext hu hv] at HPt
  clear hu hv
  obtain ⟨⟨c0, c1, c2, c3, c4⟩, f0, f1, f2, f3, f4⟩ := boxD5 J2.out.st
  go_upto_region 6 with fail
  have gz := World.grownBy_alloc wr (.cells #[.int .i64 0, .string ⟨#[]⟩, .int .i64 0, .int .i64 0, .int .i64 0, .string ⟨#[]⟩, .string ⟨#[]⟩, .slice none 0 0, .slice none 0 0, .int .i64 0] 34) none
  have X3 : Hid ((wr.alloc (.cells #[.int .i64 0, .string ⟨#[]⟩, .int .i64 0, .int .i64 0, .int .i64 0, .string ⟨#[]⟩, .string ⟨#[]⟩, .slice none 0 0, .slice none 0 0, .int .i64 0] 34)).heap[wr.heap.size]? = some (.cells #[.int .i64 0, .string ⟨#[]⟩, .int .i64 0, .int .i64 0, .int .i64 0, .string ⟨#[]⟩, .string ⟨#[]⟩, .slice none 0 0, .slice none 0 0, .int .i64 0] 34 (0, 0))) := Lib.hid (alc1 wr _)
  have hkb : w.heap.size + 1 + 1 < wr.heap.size := (Array.getElem?_eq_some_iff.1 J2.out.rp).1
  have J3 := Lib.hid (J2.out.then gz)
  have W3 := Lib.hid (W1.out.keepG gz)
  have FK : Hid (∀ q, bk arr q → q < wr.heap.size) := Lib.hid (fun q hq => W1.out.lt q hq)
  have P3 : Hid (PmSs (fun q => (w.heap.size + 1 + 1 < q ∧ q < wr.heap.size) ∧ ¬ bk arr q) _ l) := Lib.hid ((P1.out.mono' (fun q hq hh => ⟨⟨hh.1, hq⟩, hh.2⟩)).keep (.of gz))
  clear J2 W1 P1 c0 c1 c2 c3 c4 f0 f1 f2 f3 f4
  generalize wr.alloc (.cells #[.int .i64 0, .string ⟨#[]⟩, .int .i64 0, .int .i64 0, .int .i64 0, .string ⟨#[]⟩, .string ⟨#[]⟩, .slice none 0 0, .slice none 0 0, .int .i64 0] 34) = w3 at *
  generalize wr.heap.size = kb at *
  clear gz
  obtain ⟨⟨c0, c1, c2, c3, c4⟩, f0, f1, f2, f3, f4⟩ := boxD5 J3.out.st
  have hbig : kb < w3.heap.size := (Array.getElem?_eq_some_iff.1 X3.out).1
  go_wp2_with fail
  refine (HPt.out _ J3.out.g).mono ?_
  rintro e w4 ⟨i2, x2, a2, y, rfl, hS, hE, hM, hg⟩
  have S2 := Lib.hid hS
  have E2 := Lib.hid hE
  have M4 := Lib.hid hM
  have J4 := Lib.hid (J3.out.then hg)
  have W4 := Lib.hid (W3.out.keepG hg)
  have P4 := Lib.hid (P3.out.keep (.of hg))
  have X4 := Lib.hid (blkD hg X3.out)
  have y1 := y.c_size
  have y2 := y.c_all
  simp only [Pm.v]
  obtain ⟨cs, HCS⟩ : ∃ cs, cs = y.c.toArray := ⟨_, rfl⟩
  rw [← HCS] at y1 y2
  simp only [← HCS]
  have HCS2 := Lib.hid HCS
  clear HCS hS hE hM hg HPt J3 W3 P3 X3 c0 c1 c2 c3 c4 f0 f1 f2 f3 f4
  go_upto_region 9 with first
   | (refine wpList_store_row rfl 81 (.tmp 2) (.tmp 17) rfl w.heap.size #[.slice (some ⟨b, o, none⟩) n k, .int .i64 i2, .int .i64 d, .int .i64 x2, .int .i64 a2] rfl rfl 81 #[.slice (some ⟨b, o, none⟩) n k, .int .i64 i1, .int .i64 d, .int .i64 x1, .int .i64 a1] J4.out.st st_size rfl (by simp [Value.oneCell']) ?_)
   | (refine wpList_store_row rfl 34 (.tmp 8) (.tmp 18) rfl kb cs rfl rfl 34 #[.int .i64 0, .string ⟨#[]⟩, .int .i64 0, .int .i64 0, .int .i64 0, .string ⟨#[]⟩, .string ⟨#[]⟩, .slice none 0 0, .slice none 0 0, .int .i64 0] ((setRow_other _ _ _ _ (by omega)).trans X4.out) (by rw [y1]; exact pred_size) (by rw [y1]; rfl) y2 ?_)
  obtain ⟨w5, hw5⟩ : ∃ w5, w5 = (w4.setRow w.heap.size #[.slice (some ⟨b, o, none⟩) n k, .int .i64 i2, .int .i64 d, .int .i64 x2, .int .i64 a2]).setRow kb cs := ⟨_, rfl⟩
  have J5 : Hid (OnJ b o n k (d : Int) w i2 x2 a2 w5) := Lib.hid (by rw [hw5]; exact (J4.out.row i2 x2 a2 _).far hkb cs)
  have X5 : Hid (w5.heap[kb]? = some (.cells cs 34 (0, 0))) := Lib.hid (by rw [hw5]; exact setRow_heap _ _ _ _ _ _ ((setRow_other _ _ _ _ (by omega)).trans X4.out))
  have M5 : Hid (PmS (fun q => kb < q) w5 y) := Lib.hid (by rw [hw5]; exact ((M4.out.mono (fun j _ hj => Nat.lt_of_lt_of_le hbig hj)).keep (.of_grown2 (grown_setRow _ _ _) (fun j hj => by omega))).keep (.of_grown2 (grown_setRow _ _ _) (fun j hj => by omega)))
  have W5 : Hid (Win 10 w5 arr cap j (l.flatMap Pm.c)) := Lib.hid (by rw [hw5]; exact (W4.out.keep (Only.of_grown (grown_setRow _ _ _)) (fun q hq e => by cases e; have := FA.out _ hq; omega)).keep (Only.of_grown (grown_setRow _ _ _)) (fun q hq e => by cases e; have := FK.out _ hq; omega))
  have P5 : Hid (PmSs (fun q => (w.heap.size + 1 + 1 < q ∧ q < kb) ∧ ¬ bk arr q) w5 l) := Lib.hid (by rw [hw5]; exact (P4.out.keep (.of_grown2 (grown_setRow _ _ _) (fun j hj => by omega))).keep (.of_grown2 (grown_setRow _ _ _) (fun j hj => by omega)))
  rw [← hw5]
  clear hw5 J4 X4 M4 W4 P4
  obtain ⟨⟨c0, c1, c2, c3, c4⟩, f0, f1, f2, f3, f4⟩ := boxD5 J5.out.st
  have ga := World.grownBy_alloc w5 (.cells cs 34) none
  go_wp2_with first
   | (refine wpList_load_row rfl 34 (.tmp 8) rfl kb rfl 34 cs (0, 0) _ X5.out Try.underlying34 rfl (by rw [y1]; exact pred_size) ?_)
   | (at_builtin; rw [fold_tenD y1]; refine wpList_append_winA (by rfl) (.tmp 24) (.tmp 26) pred_el (by rfl) (W5.out.keepG ga) (by rfl) (some ⟨w5.heap.size, 0, none⟩) 1 1 (by rfl) y.c (fun e => by cases e) (by rw [Pm.c_len]) (by omega) (fun ad e => by cases e; rw [HCS2.out]; exact World.news_of_block (alc1 w5 _)) y.c_one ?_)
  intro arr2 cap2 w6 z2 o2 b2 _
  have hsa := ga.size
  have hk5 : kb < w5.heap.size := (Array.getElem?_eq_some_iff.1 X5.out).1
  obtain ⟨L, hL⟩ : ∃ L, L = l ++ [y] := ⟨_, rfl⟩
  have hm : j + 1 = L.length := by rw [hL, List.length_append, HL.out]; rfl
  have hma : (acc ++ [v]).length = L.length := by rw [← hm, List.length_append, HA.out]; rfl
  have J6 := Lib.hid ((J5.out.then ga).only o2 FA.out)
  have W6 : Hid (Win 10 w6 arr2 cap2 (j + 1) (L.flatMap Pm.c)) := Lib.hid (by rw [hL, List.flatMap_append]; simpa using z2)
  have FB : Hid (∀ q, bk arr2 q → w.heap.size + 1 + 1 < q) := Lib.hid (fun q hq => (b2 q hq).elim (FA.out q) (fun e => by omega))
  have M6 : Hid (PmS (fun q => kb < q ∧ q < w5.heap.size) w6 y) := Lib.hid (((M5.out.mono (S' := fun q => kb < q ∧ q < w5.heap.size) (fun q hq hh => ⟨hh, hq⟩)).keep (.of ga)).keep (.only2 o2 (fun q hq e => by have := FK.out q e; omega)))
  have P6 : Hid (PmSs (fun q => w.heap.size + 1 + 1 < q ∧ ¬ bk arr2 q) w6 L) := Lib.hid (by
   rw [hL]
   refine PmSs.app ((((P5.out.keep (.of ga)).keep (.only2 o2 (fun q hq => hq.2))).mono' (fun q _ hh => ⟨hh.1.1, fun e => ?_⟩))) (M6.out.mono (fun q _ hh => ⟨by omega, fun e => ?_⟩))
   ·exact (b2 q e).elim hh.2 (fun e => by omega)
   ·exact (b2 q e).elim (fun e => by have := FK.out q e; omega) (fun e => by omega))
  have X6 : Hid (w6.heap[kb]? = some (.cells y.c.toArray 34 (0, 0))) := Lib.hid (by
   rw [← HCS2.out]
   exact (o2.block kb (by omega) (fun e => by have := FK.out kb e; omega)).trans (blkD ga X5.out))
  have EM : Hid (x2 = 0 → (L.map fun y => y.e.e) = (acc ++ [v]).map Prd.e) := Lib.hid (fun h0 => by rw [hL, List.map_append, List.map_append, HM.out]; simp [E2.out h0])
  have HL2 := Lib.hid (And.intro hm hma)
  have HACC : Hid (L.length = 1 → acc = []) := Lib.hid (fun h1 => List.eq_nil_of_length_eq_zero (by rw [HA.out]; omega))
  rw [hm] at W6 ⊢
  clear hm hma hL ga z2 o2 b2 J5 W5 P5 M5 X5 HCS2 y1 y2 hsa FA FK HL HM c0 c1 c2 c3 c4 f0 f1 f2 f3 f4
  obtain ⟨⟨c0, c1, c2, c3, c4⟩, f0, f1, f2, f3, f4⟩ := boxD5 J6.out.st
  have HI := Lib.hid (fun W (hW : w.grownBy W none) => ris_any b o n k T u W (HH.out.keep hW) i2 d x2 a2 word S2.out HK.out)
  obtain ⟨yc, hyc⟩ : ∃ yc, yc = u.comes word := ⟨_, rfl⟩
  rw [← hyc] at HI
  have HYC := Lib.hid hyc
  clear hyc
  go_wp2_with fail
  refine (HI.out _ J6.out.g).mono ?_
  rintro e w7 ⟨rfl, hg⟩
  have J7 := Lib.hid (J6.out.then hg)
  have W7 := Lib.hid (W6.out.keepG hg)
  have P7 := Lib.hid (P6.out.keep (.of hg))
  have X7 := Lib.hid (blkD hg X6.out)
  have M7 := Lib.hid (M6.out.keep (.of hg))
  clear hg HI J6 W6 P6 X6 M6 c0 c1 c2 c3 c4 f0 f1 f2 f3 f4
  cases yc with
  | false =>
   have HR1 : Hid (r0 = (u, acc ++ [v])) := Lib.hid (HP0.out.symm.trans (HEN.out HYC.out.symm))
   clear HP0 HEN HST HYC
   by_cases h1 : L.length = 1
   ·have HA0 := Lib.hid (HACC.out h1)
    have k1 : ((L.length : Int) == 1) = true := by rw [h1]; rfl
    clear h1
    go_upto_region 12 with fail
    clear k1
    have J8 := Lib.hid (J7.out.pr hkb X7.out)
    obtain ⟨y0, hy0⟩ : ∃ y0, y0 = y := ⟨_, rfl⟩
    rw [← hy0] at J8 M7 E2
    clear hy0 J7 X7
    obtain ⟨w8, hw8⟩ : ∃ w8, w8 = w7 := ⟨_, rfl⟩
    rw [← hw8] at J8 M7 ⊢
    clear hw8
    have hp1 := J8.out.p1
    obtain ⟨y, hy⟩ : ∃ y : Pm, y = y0 := ⟨_, rfl⟩
    have HY := Lib.hid hy
    have Jy : Hid (PrJ b o n k d w kb i2 x2 a2 y.c.toArray w8) := Lib.hid (by rw [hy]; exact J8.out)
    clear J8 hy
    refine wp_region_held_drew (S := (fun W => Hid (GY w8 W w.heap.size))) (by kernel_rfl) (Lib.hid (GY.of (grown_drewT (grown_reflX _ _)) _)) (fun hHeld => ?_)
    refine TKA (i := 0) (v := .agg #[.slice (some ⟨b, o, none⟩) n k, .int .i64 i2, .int .i64 d, .int .i64 x2, .int .i64 a2]) rfl (yieldsIf_load_mid (by rfl) _ _ rfl w.heap.size 0 rfl _ _ (fun W hS => range_rowD (blkY Jy.out.st hS.out (by omega) (by omega))) Try.underlying81 rfl st_size) ?_
    simp only [Act.put, List.getElem_toArray, List.getElem_cons_zero, List.size_toArray, List.length_cons, List.length_nil, Nat.reduceAdd, Array.replicate, List.replicate, List.setIfInBounds_toArray, List.set_cons_zero, List.set_cons_succ]
    refine TKA (i := 1) (v := .agg y.c.toArray) rfl (yieldsIf_load_mid (by rfl) _ _ rfl kb 0 rfl y.c _ (fun W hS => range_rowD (blkY Jy.out.pp hS.out (by omega) (by omega))) Try.underlying34 rfl (show (Try.prog.info? 34).map (·.size) = some y.c.length by rw [Pm.c_len]; exact pred_size)) ?_
    simp only [Act.put, List.getElem_toArray, List.getElem_cons_succ, List.getElem_cons_zero, List.setIfInBounds_toArray, List.set_cons_zero, List.set_cons_succ]
    refine RD1 (i := 2) rfl (fun K' hK => ?_)
    obtain ⟨w9, hw9⟩ : ∃ w9, w9 = w8.drew := ⟨_, rfl⟩
    have gd : w8.grownBy w9 none := by rw [hw9]; exact grown_drewT (grown_reflX _ _)
    have Z9 : Hid (GY w8 w9 w.heap.size) := Lib.hid (GY.of gd _)
    have J9 := Lib.hid (Jy.out.then gd)
    have D9 := Lib.hid gd
    rw [← hw9]
    clear hw9 gd
    refine wp_store_row 81 (.tmp 4) (.tmp 35) rfl (w.heap.size + 1) #[.slice (some ⟨b, o, none⟩) n k, .int .i64 i2, .int .i64 d, .int .i64 x2, .int .i64 a2] (by rfl) (by rfl) 81 #[.slice none 0 0, .int .i64 0, .int .i64 0, .int .i64 0, .int .i64 0] J9.out.rs st_size rfl (by simp [Value.oneCell']) ?_
    have ZR : Hid (GY w8 _ w.heap.size) := Lib.hid (Z9.out.one (grown_setRow w9 (w.heap.size + 1) #[.slice (some ⟨b, o, none⟩) n k, .int .i64 i2, .int .i64 d, .int .i64 x2, .int .i64 a2]) (.inl rfl))
    refine hK.out _ _ ZR (fun hHeld => ?_)
    clear hK K'
    simp only [Act.put, List.getElem_toArray, List.getElem_cons_succ, List.getElem_cons_zero, List.setIfInBounds_toArray, List.set_cons_zero, List.set_cons_succ]
    refine RD1 (i := 3) rfl (fun K' hK => ?_)
    refine wp_store_row 34 (.tmp 5) (.tmp 36) rfl (w.heap.size + 1 + 1) y.c.toArray (by rfl) (by rfl) 34 z10 ((setRow_other _ _ _ _ (by omega)).trans J9.out.rp) (by rw [Pm.c_size]; exact pred_size) (by rw [Pm.c_size]; rfl) (Pm.c_all _) ?_
    have ZI : Hid (GY w8 _ w.heap.size) := Lib.hid (ZR.out.one (grown_setRow _ (w.heap.size + 1 + 1) y.c.toArray) (.inr rfl))
    have hF := J9.out.fin i2 x2 a2 y
    refine hK.out _ _ ZI (fun hHeld => ?_)
    clear hK K'
    simp only [Act.put, List.getElem_toArray, List.getElem_cons_succ, List.getElem_cons_zero, List.setIfInBounds_toArray, List.set_cons_zero, List.set_cons_succ]
    refine wpAnyH_done (by kernel_rfl) ?_ _
    go_wp2_with fail
    refine bodyPost_ret (res_cp rfl _ _ (w.heap.size + 1) (w.heap.size + 1 + 1) _ _ rfl rfl hF.1 hF.2.1 rfl (Pm.c_size _)) rfl ⟨i2, x2, a2, y, rfl, ?_, ?_, ?_, hF.2.2⟩
    ·rw [HRR.out, HR1.out]; exact S2.out
    ·intro h0; rw [HRR.out, HR1.out, HA0.out, HY.out]; exact E2.out h0
    ·rw [HY.out]; exact ((M7.out.keep (.of D9.out)).keep (.fin (g := w.heap.size + 1) (fun j hj => by omega))).mono (fun j _ hj => by omega)
   ·have HN1 := Lib.hid h1
    have k1 : ((L.length : Int) == 1) = false := by rw [beq_eq_false_iff_ne]; omega
    have hlp : 0 < L.length := by have := HL2.out.1; omega
    clear h1
    go_upto_region 13 with fail
    clear k1
    obtain ⟨g, off, rfl, hc, _, _⟩ := W7.out.mem.resolve_left (by have := W7.out.le; have := HL2.out.1; omega)
    have hgg := FB.out g rfl
    obtain ⟨ps0, hps0⟩ : ∃ ps0 : Nat, w7.cell? ⟨g, off + 9, none⟩ = some (.int .i64 ps0) := by
     obtain ⟨p0, hp⟩ : ∃ p0 : Nat, (L.getD 0 default).c[9]? = some (.int .i64 p0) := by cases L.getD 0 default; exact ⟨_, rfl⟩
     exact ⟨p0, hc 9 _ (by have := pm_at L 0 hlp 9 _ hp; simpa using this)⟩
    have HPS := Lib.hid hps0
    have J8 := Lib.hid (J7.out.pr hkb X7.out)
    clear hc hps0 J7 X7
    obtain ⟨w8, hw8⟩ : ∃ w8, w8 = w7 := ⟨_, rfl⟩
    rw [← hw8] at J8 M7 P7 W7 HPS ⊢
    clear hw8
    have hp1 := J8.out.p1
    obtain ⟨y, hy⟩ : ∃ y : Pm, y = (.mk 9 ⟨#[]⟩ 0 ⟨0, 0, ⟨#[]⟩⟩ ⟨#[]⟩ none 0 [] (some ⟨g, off, none⟩) cap2 L ps0 : Pm) := ⟨_, rfl⟩
    have HY := Lib.hid hy
    have Jy := J8
    clear J8 hy
    refine wp_region_held_drew (S := (fun W => Hid (GY w8 W w.heap.size))) (by kernel_rfl) (Lib.hid (GY.of (grown_drewT (grown_reflX _ _)) _)) (fun hHeld => ?_)
    refine TKA (i := 0) (v := .agg #[.slice (some ⟨b, o, none⟩) n k, .int .i64 i2, .int .i64 d, .int .i64 x2, .int .i64 a2]) rfl (yieldsIf_load_mid (by rfl) _ _ rfl w.heap.size 0 rfl _ _ (fun W hS => range_rowD (blkY Jy.out.st hS.out (by omega) (by omega))) Try.underlying81 rfl st_size) ?_
    simp only [Act.put, List.getElem_toArray, List.getElem_cons_zero, List.size_toArray, List.length_cons, List.length_nil, Nat.reduceAdd, Array.replicate, List.replicate, List.setIfInBounds_toArray, List.set_cons_zero, List.set_cons_succ]
    refine TKB (i := 1) (v := ?vhz) rfl ?yhz ?rhz
    case yhz => (intro w hSw; (try dsimp only at hSw); go_simp; try with_reducible rfl)
    simp only [Act.put, List.getElem_toArray, List.getElem_cons_succ, List.getElem_cons_zero, List.setIfInBounds_toArray, List.set_cons_zero, List.set_cons_succ]
    refine TKB (i := 2) (v := ?viz) rfl ?yiz ?riz
    case yiz => (intro w hSw; (try dsimp only at hSw); go_simp; try with_reducible rfl)
    simp only [Act.put, List.getElem_toArray, List.getElem_cons_succ, List.getElem_cons_zero, List.setIfInBounds_toArray, List.set_cons_zero, List.set_cons_succ]
    refine TKB (i := 3) (v := ?vjz) rfl ?yjz ?rjz
    case yjz => (intro w hSw; (try dsimp only at hSw); go_simp; try with_reducible rfl)
    simp only [Act.put, List.getElem_toArray, List.getElem_cons_succ, List.getElem_cons_zero, List.setIfInBounds_toArray, List.set_cons_zero, List.set_cons_succ]
    refine TKB (i := 4) (v := ?vkz) rfl ?ykz ?rkz
    case ykz => (intro w hSw; (try dsimp only at hSw); go_simp; (try rw [if_pos hlp]); try with_reducible rfl)
    simp only [Act.put, List.getElem_toArray, List.getElem_cons_succ, List.getElem_cons_zero, List.setIfInBounds_toArray, List.set_cons_zero, List.set_cons_succ]
    refine TKB (i := 5) (v := ?vlz) rfl ?ylz ?rlz
    case ylz => (intro w hSw; (try dsimp only at hSw); go_simp; try with_reducible rfl)
    simp only [Act.put, List.getElem_toArray, List.getElem_cons_succ, List.getElem_cons_zero, List.setIfInBounds_toArray, List.set_cons_zero, List.set_cons_succ]
    refine TKB (i := 6) (v := ?vmz) rfl ?ymz ?rmz
    case ymz => (intro w hSw; have q9 := hSw.out.cell HPS.out (by omega) (by omega); clear hSw; go_simp; try with_reducible rfl)
    simp only [Act.put, List.getElem_toArray, List.getElem_cons_succ, List.getElem_cons_zero, List.setIfInBounds_toArray, List.set_cons_zero, List.set_cons_succ]
    refine TKB (i := 7) (v := ?vnz) rfl ?ynz ?rnz
    case ynz => (intro w hSw; (try dsimp only at hSw); go_simp; try with_reducible rfl)
    simp only [Act.put, List.getElem_toArray, List.getElem_cons_succ, List.getElem_cons_zero, List.setIfInBounds_toArray, List.set_cons_zero, List.set_cons_succ]
    refine RD1 (i := 8) rfl (fun K' hK => ?_)
    obtain ⟨w9, hw9⟩ : ∃ w9, w9 = w8.drew := ⟨_, rfl⟩
    have gd : w8.grownBy w9 none := by rw [hw9]; exact grown_drewT (grown_reflX _ _)
    have Z9 : Hid (GY w8 w9 w.heap.size) := Lib.hid (GY.of gd _)
    have J9 := Lib.hid (Jy.out.then gd)
    have D9 := Lib.hid gd
    rw [← hw9]
    clear hw9 gd
    refine wp_store_row 81 (.tmp 4) (.tmp 37) rfl (w.heap.size + 1) #[.slice (some ⟨b, o, none⟩) n k, .int .i64 i2, .int .i64 d, .int .i64 x2, .int .i64 a2] (by rfl) (by rfl) 81 #[.slice none 0 0, .int .i64 0, .int .i64 0, .int .i64 0, .int .i64 0] J9.out.rs st_size rfl (by simp [Value.oneCell']) ?_
    have ZR : Hid (GY w8 _ w.heap.size) := Lib.hid (Z9.out.one (grown_setRow w9 (w.heap.size + 1) #[.slice (some ⟨b, o, none⟩) n k, .int .i64 i2, .int .i64 d, .int .i64 x2, .int .i64 a2]) (.inl rfl))
    refine hK.out _ _ ZR (fun hHeld => ?_)
    clear hK K'
    simp only [Act.put, List.getElem_toArray, List.getElem_cons_succ, List.getElem_cons_zero, List.setIfInBounds_toArray, List.set_cons_zero, List.set_cons_succ]
    refine RD1 (i := 9) rfl (fun K' hK => ?_)
    refine wp_store_row 34 (.tmp 5) (.tmp 44) rfl (w.heap.size + 1 + 1) (.mk 9 ⟨#[]⟩ 0 ⟨0, 0, ⟨#[]⟩⟩ ⟨#[]⟩ none 0 [] (some ⟨g, off, none⟩) cap2 L ps0 : Pm).c.toArray (by rfl) (by rfl) 34 z10 ((setRow_other _ _ _ _ (by omega)).trans J9.out.rp) (by rw [Pm.c_size]; exact pred_size) (by rw [Pm.c_size]; rfl) (Pm.c_all _) ?_
    have ZI : Hid (GY w8 _ w.heap.size) := Lib.hid (ZR.out.one (grown_setRow _ (w.heap.size + 1 + 1) (.mk 9 ⟨#[]⟩ 0 ⟨0, 0, ⟨#[]⟩⟩ ⟨#[]⟩ none 0 [] (some ⟨g, off, none⟩) cap2 L ps0 : Pm).c.toArray) (.inr rfl))
    have hF := J9.out.fin i2 x2 a2 (.mk 9 ⟨#[]⟩ 0 ⟨0, 0, ⟨#[]⟩⟩ ⟨#[]⟩ none 0 [] (some ⟨g, off, none⟩) cap2 L ps0 : Pm)
    refine hK.out _ _ ZI (fun hHeld => ?_)
    clear hK K'
    simp only [Act.put, List.getElem_toArray, List.getElem_cons_succ, List.getElem_cons_zero, List.setIfInBounds_toArray, List.set_cons_zero, List.set_cons_succ]
    refine wpAnyH_done (by kernel_rfl) ?_ _
    go_wp2_with fail
    refine bodyPost_ret (res_cp rfl _ _ (w.heap.size + 1) (w.heap.size + 1 + 1) _ _ rfl rfl hF.1 hF.2.1 rfl (Pm.c_size _)) rfl ⟨i2, x2, a2, (.mk 9 ⟨#[]⟩ 0 ⟨0, 0, ⟨#[]⟩⟩ ⟨#[]⟩ none 0 [] (some ⟨g, off, none⟩) cap2 L ps0 : Pm), rfl, ?_, ?_, ?_, hF.2.2⟩
    ·rw [HRR.out, HR1.out]; exact S2.out
    ·intro h0; rw [HRR.out, HR1.out]; exact join_out _ _ _ _ _ _ _ (EM.out h0) (by rw [HL2.out.2]; exact HN1.out)
    ·refine ⟨RwS.nil _ _ _, Nat.le_refl _, ?_, W7.out.le, ?_⟩
     ·exact (((win_cells W7.out FB.out).keep (.of D9.out)).keep (.fin (g := w.heap.size + 1) (fun j hj => by omega))).mono (fun j _ hj => by omega)
     ·exact ((((P7.out.mono' (fun j _ hj => hj.1)).keep (.of D9.out)).keep (.fin (g := w.heap.size + 1) (fun j hj => by omega))).mono' (fun j _ hj => by omega))
  | true =>
   have HP2 := Lib.hid (fun W (hW : w.grownBy W none) => rpassX b o n k T u W (HH.out.keep hW) i2 d x2 a2 word S2.out HK.out HYC.out.symm)
   have HX := S2.out.come HH.out HK.out HYC.out.symm
   have HR2 := Lib.hid ((HST.out HYC.out.symm).symm.trans HP0.out)
   have HB := Lib.hid (And.intro HT.out.2 (S2.out.ok.pass HX.2.2.2).2)
   have HE2 := Lib.hid (EM.out HX.1)
   clear HX EM HST HEN HP0 HYC
   obtain ⟨⟨c0, c1, c2, c3, c4⟩, f0, f1, f2, f3, f4⟩ := boxD5 J7.out.st
   go_wp2_with fail
   refine (HP2.out _ J7.out.g).mono ?_
   rintro e w8 ⟨⟨i3, x3, a3, rfl, hS⟩, hg⟩
   have S3 := Lib.hid hS
   have J8 := Lib.hid (J7.out.then hg)
   have W8 := Lib.hid (W7.out.keepG hg)
   have P8 := Lib.hid (P7.out.keep (.of hg))
   clear hg hS HP2 J7 W7 P7 c0 c1 c2 c3 c4 f0 f1 f2 f3 f4
   obtain ⟨⟨c0, c1, c2, c3, c4⟩, f0, f1, f2, f3, f4⟩ := boxD5 J8.out.st
   go_wp2_with fail
   have g9 := grownD5 w8 w.heap.size (.slice (some ⟨b, o, none⟩) n k) (.int .i64 i3) (.int .i64 d) (.int .i64 x3) (.int .i64 a3)
   go_roundw
   case rel => exact ⟨L.length, i3, x3, a3, u.pass, arr2, cap2, L, acc ++ [v], rfl, rfl, HL2.out.2, HE2.out, HR2.out, S3.out, by have := HB.out; have := HCN.out; have := HL2.out.1; omega, W8.out.keep (Only.of_grown g9) (fun q hq e => by cases e; have := FB.out _ hq; omega), FB.out, P8.out.keep (.of_grown2 g9 (fun q hq => by omega)), J8.out.set5 i3 x3 a3⟩
   case measure => have := HL2.out.1; simp [lenV]; omega
theorem rany_any (b o n k : Nat) (T : List Tk) (d dm : Nat) (H1 : OneH b o n k T d dm) : AnyH b o n k T d dm :=
 fun s w h i c a hs => rparts_9 b o n k T d dm (fun s w h i c a hs => rparts_8 b o n k T d dm H1 s w h i c a hs) s w h i c a hs
theorem rone_any (b o n k : Nat) (T : List Tk) : ∀ (dm d : Nat), d + dm = 20 → OneH b o n k T d dm
 | 0, d, e => rone_zero b o n k T d (by omega)
 | dm + 1, d, e => fun s w h i c a hs => by
  have ih := rone_any b o n k T dm (d + 1) (by omega)
  by_cases hc : c = 0
  ·exact rone_good b o n k T d (dm + 1) (by omega) s w h i c a hs hc (fun W hW => rinner_any b o n k T (d + 1) dm ih (rany_any b o n k T (d + 1) dm ih) s W hW i c a hs hc)
  ·exact rone_bad b o n k T d (dm + 1) (by omega) s w h i c a hs hc
theorem rwhere_any (b o n k : Nat) (T : List Tk) (s : RS) (w : World) (h : TkE b o n k T w) (i c a : Nat) (hs : SR n T s i c a) :
  Calls Try.prog 36 #[.agg #[.slice (some ⟨b, o, none⟩) n k, .int .i64 i, .int .i64 (0 : Nat), .int .i64 c, .int .i64 a], .int .i64 9] w (PGo b o n k 0 T (anyF 20 s) w) :=
 rany_any b o n k T 0 20 (rone_any b o n k T 20 0 (by omega)) s w h i c a hs
end Go.Proofs.Ytfambadamebjjaa
namespace Go.Proofs.Ytfambadamebjjaa
open Go.RowKit
theorem SR.sname {n i c a : Nat} {T : List Tk} {s : RS} (h : SR n T s i c a) (hc : c ≠ 0) : SR n T s.name.1 i c a := by
 unfold RS.name
 rw [h.named_bad hc, if_neg (by decide)]
 exact h.swrong hc
theorem SR.back {n i c a i' c' a' : Nat} {T : List Tk} {t' : RS} (h' : SR n T t' i' c' a') (hk : c ≠ 0 → SR n T t' i c a) (h0 : c' = 0) : c = 0 := by
 by_cases e : c = 0
 ·exact e
 ·exact ((hk e).err0.1 (h'.err0.2 h0))
theorem key_star : keyT bStar := .inr (by decide +kernel)
theorem key_sel : keyT bSel := .inl (by decide +kernel)
theorem key_from : keyT bFrom := .inl (by decide +kernel)
theorem key_where : keyT bWhere := .inl (by decide +kernel)
theorem key_group : keyT bGroup := .inl (by decide +kernel)
theorem key_by : keyT bBy := .inl (by decide +kernel)
theorem key_order : keyT bOrder := .inl (by decide +kernel)
theorem key_limit : keyT bLimit := .inl (by decide +kernel)
structure QsM (b o n k : Nat) (w u : World) (sb qb i c a : Nat) (y : Qm) (W : World) : Prop where
 st : W.heap[sb]? = some (.cells #[.slice (some ⟨b, o, none⟩) n k, .int .i64 i, .int .i64 0, .int .i64 c, .int .i64 a] 81 (0, 0))
 q : W.heap[qb]? = some (.cells y.c 37 (0, 0))
 res : W.heap[w.heap.size]? = some (.cells (Qm.z 0).c 37 (0, 0))
 mem : QmS (fun j => qb < j) W y
 l1 : w.heap.size < sb
 l2 : sb < qb
 l0 : u.heap.size ≤ sb
 g : w.grownBy W none
 gu : u.grownBy W none
theorem QsM.then {b o n k sb qb i c a : Nat} {w u W W' : World} {y : Qm} (h : QsM b o n k w u sb qb i c a y W) (hg : W.grownBy W' none) : QsM b o n k w u sb qb i c a y W' :=
 ⟨blkD hg h.st, blkD hg h.q, blkD hg h.res, h.mem.keep (.of hg), h.l1, h.l2, h.l0, h.g.trans hg, h.gu.trans hg⟩
theorem QsM.set5 {b o n k sb qb i c a : Nat} {w u W : World} {y : Qm} (h : QsM b o n k w u sb qb i c a y W) (i' c' a' : Nat) : QsM b o n k w u sb qb i' c' a' y (((((W.setCell ⟨sb, 0, none⟩ (.slice (some ⟨b, o, none⟩) n k)).setCell ⟨sb, 1, none⟩ (.int .i64 i')).setCell ⟨sb, 2, none⟩ (.int .i64 0)).setCell ⟨sb, 3, none⟩ (.int .i64 c')).setCell ⟨sb, 4, none⟩ (.int .i64 a')) :=
 have hg : W.grownBy (((((W.setCell ⟨sb, 0, none⟩ (.slice (some ⟨b, o, none⟩) n k)).setCell ⟨sb, 1, none⟩ (.int .i64 i')).setCell ⟨sb, 2, none⟩ (.int .i64 0)).setCell ⟨sb, 3, none⟩ (.int .i64 c')).setCell ⟨sb, 4, none⟩ (.int .i64 a')) (some sb) := grownD5 W sb (.slice (some ⟨b, o, none⟩) n k) (.int .i64 i') (.int .i64 (0 : Int)) (.int .i64 c') (.int .i64 a')
 have h1 := h.l1
 have h2 := h.l2
 have h0 := h.l0
 ⟨setD5 h.st, blkR h.q hg (by omega), blkR h.res hg (by omega), h.mem.keep (.of_grown2 hg (fun j hj => by omega)), h1, h2, h0, grown_thenX h.g hg (fun j e => by cases e; omega), grown_thenX h.gu hg (fun j e => by cases e; omega)⟩
theorem QsM.row {b o n k sb qb i c a : Nat} {w u W : World} {y : Qm} (h : QsM b o n k w u sb qb i c a y W) (i' c' a' : Nat) : QsM b o n k w u sb qb i' c' a' y (W.setRow sb #[.slice (some ⟨b, o, none⟩) n k, .int .i64 i', .int .i64 0, .int .i64 c', .int .i64 a']) :=
 have hg := grown_setRow W sb #[.slice (some ⟨b, o, none⟩) n k, .int .i64 i', .int .i64 0, .int .i64 c', .int .i64 a']
 have h1 := h.l1
 have h2 := h.l2
 have h0 := h.l0
 ⟨setRow_heap _ _ _ _ _ _ h.st, blkR h.q hg (by omega), blkR h.res hg (by omega), h.mem.keep (.of_grown2 hg (fun j hj => by omega)), h1, h2, h0, grown_thenX h.g hg (fun j e => by cases e; omega), grown_thenX h.gu hg (fun j e => by cases e; omega)⟩
theorem QsM.put {b o n k sb qb i c a : Nat} {w u W W' : World} {y y' : Qm} (h : QsM b o n k w u sb qb i c a y W) (hg : W.grownBy W' (some qb)) (hq : W'.heap[qb]? = some (.cells y'.c 37 (0, 0))) (hm : QmS (fun j => qb < j) W' y → QmS (fun j => qb < j) W' y') : QsM b o n k w u sb qb i c a y' W' :=
 have h1 := h.l1
 have h2 := h.l2
 have h0 := h.l0
 ⟨blkR h.st hg (by omega), hq, blkR h.res hg (by omega), hm (h.mem.keep (.of_grown2 hg (fun j hj => by omega))), h1, h2, h0, grown_thenX h.g hg (fun j e => by cases e; omega), grown_thenX h.gu hg (fun j e => by cases e; omega)⟩
theorem QsM.cq {b o n k sb qb i c a : Nat} {w u W : World} {y : Qm} (h : QsM b o n k w u sb qb i c a y W) (j : Nat) (v : Value) (hv : y.c[j]? = some v) : W.cell? ⟨qb, j, none⟩ = some v ∧ W.frozen? ⟨qb, j, none⟩ = false :=
 ⟨by rw [cell_of_row _ _ j _ _ _ h.q]; exact hv, frozen_of_row _ _ j _ _ h.q⟩
theorem Qm.c0' (y : Qm) : y.c[0]? = some (.slice y.ia y.items.length y.ic) := rfl
theorem Qm.c13' (y : Qm) : y.c[13]? = some (.slice y.ga y.group.length y.gc) := by
 obtain ⟨_, _, _, _, _, ⟨_, _, _, _, _, _, _, _, _, _, _, _⟩, _, _, _, _, _, _, _⟩ := y; rfl
theorem Qm.c14' (y : Qm) : y.c[14]? = some (.slice y.oa y.order.length y.oc) := by
 obtain ⟨_, _, _, _, _, ⟨_, _, _, _, _, _, _, _, _, _, _, _⟩, _, _, _, _, _, _, _⟩ := y; rfl
theorem QsM.setI {b o n k sb qb i c a : Nat} {w u W : World} {y : Qm} (h : QsM b o n k w u sb qb i c a y W) {ar : Ptr} {cp : Nat} {l : List Itm} (hw : Win 3 W ar cp l.length (l.flatMap Itm.c)) (hb : ∀ j, bk ar j → qb < j) : QsM b o n k w u sb qb i c a { y with ia := ar, ic := cp, items := l } (W.setCell ⟨qb, 0, none⟩ (.slice ar l.length cp)) :=
 h.put (gq_cellR _ _ _ _) (by rw [heap_setCell_same _ _ _ _ _ _ h.q, qm_items]) (fun hm => ⟨⟨(win_cells hw hb).keep (.of_grown2 (gq_cellR _ _ _ _) (fun j hj => by omega)), hw.le⟩, hm.2⟩)
theorem QsM.setG {b o n k sb qb i c a : Nat} {w u W : World} {y : Qm} (h : QsM b o n k w u sb qb i c a y W) {ar : Ptr} {cp : Nat} {l : List Itm} (hw : Win 3 W ar cp l.length (l.flatMap Itm.c)) (hb : ∀ j, bk ar j → qb < j) : QsM b o n k w u sb qb i c a { y with ga := ar, gc := cp, group := l } (W.setCell ⟨qb, 13, none⟩ (.slice ar l.length cp)) :=
 h.put (gq_cellR _ _ _ _) (by rw [heap_setCell_same _ _ _ _ _ _ h.q, qm_group]) (fun hm => ⟨hm.1, hm.2.1, ⟨(win_cells hw hb).keep (.of_grown2 (gq_cellR _ _ _ _) (fun j hj => by omega)), hw.le⟩, hm.2.2.2⟩)
theorem QsM.setO {b o n k sb qb i c a : Nat} {w u W : World} {y : Qm} (h : QsM b o n k w u sb qb i c a y W) {ar : Ptr} {cp : Nat} {l : List Kyo} (hw : Win 4 W ar cp l.length (l.flatMap Kyo.c)) (hb : ∀ j, bk ar j → qb < j) : QsM b o n k w u sb qb i c a { y with oa := ar, oc := cp, order := l } (W.setCell ⟨qb, 14, none⟩ (.slice ar l.length cp)) :=
 h.put (gq_cellR _ _ _ _) (by rw [heap_setCell_same _ _ _ _ _ _ h.q, qm_order]) (fun hm => ⟨hm.1, hm.2.1, hm.2.2.1, (win_cells hw hb).keep (.of_grown2 (gq_cellR _ _ _ _) (fun j hj => by omega)), hw.le⟩)
theorem QsM.setA {b o n k sb qb i c a : Nat} {w u W : World} {y : Qm} (h : QsM b o n k w u sb qb i c a y W) (v : Bool) : QsM b o n k w u sb qb i c a { y with all := v } (W.setCell ⟨qb, 1, none⟩ (.bool v)) :=
 h.put (gq_cellR _ _ _ _) (by rw [heap_setCell_same _ _ _ _ _ _ h.q, qm_all]) (fun hm => hm)
theorem QsM.setT {b o n k sb qb i c a : Nat} {w u W : World} {y : Qm} (h : QsM b o n k w u sb qb i c a y W) (v : ByteArray) : QsM b o n k w u sb qb i c a { y with table := v } (W.setCell ⟨qb, 2, none⟩ (.string v)) :=
 h.put (gq_cellR _ _ _ _) (by rw [heap_setCell_same _ _ _ _ _ _ h.q, qm_table]) (fun hm => hm)
theorem QsM.setL {b o n k sb qb i c a : Nat} {w u W : World} {y : Qm} (h : QsM b o n k w u sb qb i c a y W) (v : Int) : QsM b o n k w u sb qb i c a { y with limit := v } (W.setCell ⟨qb, 15, none⟩ (.int .i64 v)) :=
 h.put (gq_cellR _ _ _ _) (by rw [heap_setCell_same _ _ _ _ _ _ h.q, qm_limit]) (fun hm => hm)
theorem QsM.there {b o n k sb qb i c a : Nat} {w u W : World} {y : Qm} (h : QsM b o n k w u sb qb i c a y W) : W.there qb 3 10 := fun j hj => by
 refine ⟨?_, frozen_of_row _ _ _ _ _ h.q⟩
 rw [cell_of_row _ _ _ _ _ _ h.q]
 have := y.c_size
 simp [show 3 + j < y.c.size by omega]
theorem QsM.setC {b o n k sb qb i c a : Nat} {w u W : World} {y : Qm} (h : QsM b o n k w u sb qb i c a y W) {x : Pm} (hx : PmS (fun j => qb < j) W x) : QsM b o n k w u sb qb i c a { y with cond := x } (W.setCells qb 3 x.c) := by
 have hg := grown_setCells qb x.c 3 W
 exact h.put hg (by rw [heap_setCells _ _ _ _ h.q, qm_cond]) (fun hm => ⟨hm.1, hx.keep (.of_grown2 hg (fun j hj => by omega)), hm.2.2⟩)
def QIs (b o n k : Nat) (T : List Tk) (w u : World) (sb qb : Nat) (t : RS) (Q : Qry) (W : World) : Prop :=
 ∃ (i c a : Nat) (y : Qm), SR n T t i c a ∧ (c = 0 → y.e.e = Q.e) ∧ QsM b o n k w u sb qb i c a y W
section
variable (b o n k : Nat) (T : List Tk) (s : RS) (w : World) (h : TkE b o n k T w) (i c a : Nat) (hs : SR n T s i c a)
include h hs
theorem qnow : Calls Try.prog 38 #[(.agg #[.slice (some ⟨b, o, none⟩) n k, .int .i64 i, .int .i64 0, .int .i64 c, .int .i64 a])] w fun e w' => e = .returned (.agg #[.int .i64 (tkA T i).kind, .string (tkA T i).text, .int .i64 (tkA T i).pos]) ∧ w.grownBy w' none := rnow_any b o n k T w h i 0 c a hs.lt
theorem qis (t : ByteArray) (ht : keyT t) : Calls Try.prog 32 #[(.agg #[.slice (some ⟨b, o, none⟩) n k, .int .i64 i, .int .i64 0, .int .i64 c, .int .i64 a]), .string t] w fun e w' => e = .returned (.bool (s.comes t)) ∧ w.grownBy w' none := ris_any b o n k T s w h i 0 c a t hs ht
theorem qwant (t : ByteArray) (ht : keyT t) : Calls Try.prog 31 #[(.agg #[.slice (some ⟨b, o, none⟩) n k, .int .i64 i, .int .i64 0, .int .i64 c, .int .i64 a]), .string t] w fun e w' => (∃ i' c' a' : Nat, e = .returned (.agg #[.slice (some ⟨b, o, none⟩) n k, .int .i64 i', .int .i64 0, .int .i64 c', .int .i64 a']) ∧ SR n T (s.need t) i' c' a') ∧ w.grownBy w' none := rwant_any b o n k T s w h i 0 c a t hs ht
theorem qname : Calls Try.prog 35 #[(.agg #[.slice (some ⟨b, o, none⟩) n k, .int .i64 i, .int .i64 0, .int .i64 c, .int .i64 a])] w fun e w' => (∃ i' c' a' : Nat, e = .returned (.tuple #[(.agg #[.slice (some ⟨b, o, none⟩) n k, .int .i64 i', .int .i64 0, .int .i64 c', .int .i64 a']), .string s.name.2]) ∧ SR n T s.name.1 i' c' a') ∧ w.grownBy w' none := rname_any b o n k T s w h i 0 c a hs
theorem qpass (t : ByteArray) (ht : keyT t) (hc : s.comes t = true) : Calls Try.prog 33 #[(.agg #[.slice (some ⟨b, o, none⟩) n k, .int .i64 i, .int .i64 0, .int .i64 c, .int .i64 a])] w fun e w' => (∃ i' c' a' : Nat, e = .returned (.agg #[.slice (some ⟨b, o, none⟩) n k, .int .i64 i', .int .i64 0, .int .i64 c', .int .i64 a']) ∧ SR n T s.pass i' c' a') ∧ w.grownBy w' none := rpassX b o n k T s w h i 0 c a t hs ht hc
theorem qfail (x : Nat) (hx : x ≠ 0) : Calls Try.prog 39 #[(.agg #[.slice (some ⟨b, o, none⟩) n k, .int .i64 i, .int .i64 0, .int .i64 c, .int .i64 a]), .int .i64 x] w fun e w' => (∃ c' a' : Nat, e = .returned (.agg #[.slice (some ⟨b, o, none⟩) n k, .int .i64 i, .int .i64 0, .int .i64 c', .int .i64 a']) ∧ SR n T (s.wrong x) i c' a') ∧ w.grownBy w' none := rfail_any b o n k T s w h i 0 c a x hs hx
theorem qitems : Calls Try.prog 34 #[(.agg #[.slice (some ⟨b, o, none⟩) n k, .int .i64 i, .int .i64 0, .int .i64 c, .int .i64 a]), .bool true] w fun e w' => (∃ (i' c' a' : Nat) (ar : Option Addr) (cp : Nat) (l : List Itm), e = .returned (.tuple #[(.agg #[.slice (some ⟨b, o, none⟩) n k, .int .i64 i', .int .i64 0, .int .i64 c', .int .i64 a']), .slice ar l.length cp]) ∧ Win 3 w' ar cp l.length (l.flatMap Itm.c) ∧ (∀ j, bk ar j → w.heap.size ≤ j) ∧ SR n T (listF 8 itemL 9 s []).1 i' c' a' ∧ (c' = 0 → l.map Itm.e = (listF 8 itemL 9 s []).2.map Itm.e)) ∧ w.grownBy w' none :=
 (ritems_true b o n k T s w h i 0 c a hs).mono fun e w' ⟨i', c', a', ar, cp, l, h1, h2, h3, h4, h5, h6⟩ => ⟨⟨i', c', a', ar, cp, l, h1, h2, h3, h4, h5⟩, h6⟩
theorem qcols : Calls Try.prog 34 #[(.agg #[.slice (some ⟨b, o, none⟩) n k, .int .i64 i, .int .i64 0, .int .i64 c, .int .i64 a]), .bool false] w fun e w' => (∃ (i' c' a' : Nat) (ar : Option Addr) (cp : Nat) (l : List Itm), e = .returned (.tuple #[(.agg #[.slice (some ⟨b, o, none⟩) n k, .int .i64 i', .int .i64 0, .int .i64 c', .int .i64 a']), .slice ar l.length cp]) ∧ Win 3 w' ar cp l.length (l.flatMap Itm.c) ∧ (∀ j, bk ar j → w.heap.size ≤ j) ∧ SR n T (listF 8 columnL 9 s []).1 i' c' a' ∧ (c' = 0 → l.map Itm.e = (listF 8 columnL 9 s []).2.map Itm.e)) ∧ w.grownBy w' none :=
 (ritems_false b o n k T s w h i 0 c a hs).mono fun e w' ⟨i', c', a', ar, cp, l, h1, h2, h3, h4, h5, h6⟩ => ⟨⟨i', c', a', ar, cp, l, h1, h2, h3, h4, h5⟩, h6⟩
theorem qkeys : Calls Try.prog 37 #[(.agg #[.slice (some ⟨b, o, none⟩) n k, .int .i64 i, .int .i64 0, .int .i64 c, .int .i64 a])] w fun e w' => (∃ (i' c' a' : Nat) (ar : Option Addr) (cp : Nat) (l : List Kyo), e = .returned (.tuple #[(.agg #[.slice (some ⟨b, o, none⟩) n k, .int .i64 i', .int .i64 0, .int .i64 c', .int .i64 a']), .slice ar l.length cp]) ∧ Win 4 w' ar cp l.length (l.flatMap Kyo.c) ∧ (∀ j, bk ar j → w.heap.size ≤ j) ∧ SR n T (listF 8 keyL 9 s []).1 i' c' a' ∧ (c' = 0 → l.map Kyo.e = (listF 8 keyL 9 s []).2.map Kyo.e)) ∧ w.grownBy w' none :=
 (rkeys_any b o n k T s w h i 0 c a hs).mono fun e w' ⟨i', c', a', ar, cp, l, h1, h2, h3, h4, h5, h6⟩ => ⟨⟨i', c', a', ar, cp, l, h1, h2, h3, h4, h5⟩, h6⟩
theorem qwhere : Calls Try.prog 36 #[(.agg #[.slice (some ⟨b, o, none⟩) n k, .int .i64 i, .int .i64 0, .int .i64 c, .int .i64 a]), .int .i64 9] w fun e w' => (∃ (i' c' a' : Nat) (y : Pm), e = .returned (.tuple #[(.agg #[.slice (some ⟨b, o, none⟩) n k, .int .i64 i', .int .i64 0, .int .i64 c', .int .i64 a']), y.v]) ∧ SR n T (anyF 20 s).1 i' c' a' ∧ (c' = 0 → y.e.e = (anyF 20 s).2.e) ∧ PmS (fun j => w.heap.size ≤ j) w' y) ∧ w.grownBy w' none :=
 (rwhere_any b o n k T s w h i c a hs).mono fun e w' ⟨i', c', a', y, h1, h2, h3, h4, h5⟩ => ⟨⟨i', c', a', y, h1, h2, h3, h4⟩, h5⟩
end
theorem Qm.e_items {y : Qm} {Q : Qry} {ar : Ptr} {cp : Nat} {l its : List Itm} (h : y.e.e = Q.e) (hl : l.map Itm.e = its.map Itm.e) : ({ y with ia := ar, ic := cp, items := l } : Qm).e.e = ({ Q with items := its } : Qry).e := by
 simp only [Qm.e, Qry.e, Qry.mk.injEq] at h ⊢
 exact ⟨hl, h.2⟩
theorem Qm.e_table {y : Qm} {Q : Qry} {v : ByteArray} (h : y.e.e = Q.e) : ({ y with table := v } : Qm).e.e = ({ Q with table := v } : Qry).e := by
 simp only [Qm.e, Qry.e, Qry.mk.injEq] at h ⊢
 exact ⟨h.1, h.2.1, trivial, h.2.2.2⟩
theorem Qm.e_cond {y : Qm} {Q : Qry} {x : Pm} {p : Prd} (h : y.e.e = Q.e) (hx : x.e.e = p.e) : ({ y with cond := x } : Qm).e.e = ({ Q with cond := p } : Qry).e := by
 simp only [Qm.e, Qry.e, Qry.mk.injEq] at h ⊢
 exact ⟨h.1, h.2.1, h.2.2.1, hx, h.2.2.2.2⟩
theorem Qm.e_group {y : Qm} {Q : Qry} {ar : Ptr} {cp : Nat} {l its : List Itm} (h : y.e.e = Q.e) (hl : l.map Itm.e = its.map Itm.e) : ({ y with ga := ar, gc := cp, group := l } : Qm).e.e = ({ Q with group := its } : Qry).e := by
 simp only [Qm.e, Qry.e, Qry.mk.injEq] at h ⊢
 exact ⟨h.1, h.2.1, h.2.2.1, h.2.2.2.1, hl, h.2.2.2.2.2⟩
theorem Qm.e_order {y : Qm} {Q : Qry} {ar : Ptr} {cp : Nat} {l its : List Kyo} (h : y.e.e = Q.e) (hl : l.map Kyo.e = its.map Kyo.e) : ({ y with oa := ar, oc := cp, order := l } : Qm).e.e = ({ Q with order := its } : Qry).e := by
 simp only [Qm.e, Qry.e, Qry.mk.injEq] at h ⊢
 exact ⟨h.1, h.2.1, h.2.2.1, h.2.2.2.1, h.2.2.2.2.1, hl, h.2.2.2.2.2.2⟩
theorem Qm.e_limit {y : Qm} {Q : Qry} {v : Int} (h : y.e.e = Q.e) : ({ y with limit := v } : Qm).e.e = ({ Q with limit := v } : Qry).e := by
 simp only [Qm.e, Qry.e, Qry.mk.injEq] at h ⊢
 exact ⟨h.1, h.2.1, h.2.2.1, h.2.2.2.1, h.2.2.2.2.1, h.2.2.2.2.2.1, trivial⟩
theorem limitL_no {s : RS} (h : s.hd.kind ≠ 2) : limitL s = (s.wrong 11, 0) := by unfold limitL; rw [if_neg h]
theorem limitL_bad {s : RS} {vk vn : Int} {vs : ByteArray} (h : s.hd.kind = 2) (hv : litV s.hd.text = ⟨vk, vn, vs⟩) (hb : vn < 0 ∨ 1000 < vn) : limitL s = (s.wrong 1, 0) := by
 unfold limitL
 rw [if_pos h]
 dsimp only
 rw [hv, if_pos hb]
theorem limitL_ok {s : RS} {vk vn : Int} {vs : ByteArray} (h : s.hd.kind = 2) (hv : litV s.hd.text = ⟨vk, vn, vs⟩) (hb : ¬ (vn < 0 ∨ 1000 < vn)) : limitL s = (s.pass, vn) := by
 unfold limitL
 rw [if_pos h]
 dsimp only
 rw [hv, if_neg hb]
def RParseIs (s : ByteArray) (w : World) (e : Ending) (w' : World) : Prop :=
 (∃ (y : Qm) (Q : Qry), parseL s = .ok Q ∧ e = .returned (.tuple #[.agg y.c, .int .i64 0, .int .i64 0]) ∧ y.e.e = Q.e ∧ QmS (fun j => w.heap.size ≤ j) w' y ∧ w.grownBy w' none)
 ∨ (∃ (p c : Nat) (e' : Nat × Nat), parseL s = .error e' ∧ c ≠ 0 ∧ e = .returned (.tuple #[.agg (Qm.z 0).c, .int .i64 p, .int .i64 c]) ∧ w.grownBy w' none)
end Go.Proofs.Ytfambadamebjjaa
namespace Go.Proofs.Ytfambadamebjjaa
open Go.RowKit
set_option linter.unusedSimpArgs false in
set_option linter.unusedVariables false in
set_option maxRecDepth 100000 in
set_option maxHeartbeats 6400000 in
theorem rparse_bad (s : ByteArray) (w : World) (hsz : s.size ≤ 1510) (p c : Nat) (ht : lexL s = .error (p, c)) :
  Calls Try.prog 13 #[.string s] w (RParseIs s w) := by
 have HL := Lib.hid (fun W => refLex_any s W hsz)
 rw [ht] at HL
 have hc := lexL_codes s p c ht
 have hc0 : c ≠ 0 := by omega
 have HC := Lib.hid hc0
 have k0 := ne_nat hc0
 have HP : Hid (parseL s = .error (p, c)) := Lib.hid (by unfold parseL; rw [ht])
 clear hsz ht hc hc0
 go_enter Try.func13, Try.ntmps13
 have GA := Lib.hid (World.grownBy_alloc w (.cells (Qm.z 0).c 37) none)
 have GA1 := Lib.hid (heap_alloc_new w (.cells (Qm.z 0).c 37))
 go_wp2_with fail
 refine (HL.out _).mono ?_
 rintro e w2 (⟨p', c', hr, rfl, hg⟩ | ⟨t, v, hr, _⟩)
 ·cases hr
  have A2 := Lib.hid (blkD hg GA1.out)
  have G2 := Lib.hid (GA.out.trans hg)
  clear hg
  go_wp2_with (refine wpList_store_row rfl 37 (.tmp 2) (.tmp 20) rfl w.heap.size (Qm.z 0).c rfl rfl 37 (Qm.z 0).c A2.out query_size rfl (Qm.c_all _) ?_)
  exact bodyPost_ret (results_qm3 rfl _ _ w.heap.size (Qm.z 0) rfl (setRow_heap _ _ _ _ _ _ A2.out)) rfl (.inr ⟨p, c, _, HP.out, HC.out, rfl, grown_thenX G2.out (grown_setRow _ _ _) (fun j e => by cases e; exact Nat.le_refl _)⟩)
 ·cases hr
set_option linter.unusedSimpArgs false in
set_option linter.unusedVariables false in
set_option maxRecDepth 100000 in
set_option maxHeartbeats 6400000 in
theorem rparse_ok (s : ByteArray) (w : World) (hsz : s.size ≤ 1510) (T : List Tk) (ht : lexL s = .ok T) :
  Calls Try.prog 13 #[.string s] w (RParseIs s w) := by
 have HL := Lib.hid (fun W => refLex_any s W hsz)
 rw [ht] at HL
 have HP : Hid (parseL s = match (queryL ⟨T, Option.none⟩).1.err with | some e => .error e | Option.none => .ok (queryL ⟨T, Option.none⟩).2) := Lib.hid (by unfold parseL; rw [ht]; rfl)
 have HOK := Lib.hid (lexL_ok s T ht)
 have HTW := Lib.hid (lexL_w s T ht)
 clear hsz ht
 go_enter Try.func13, Try.ntmps13
 have GA := Lib.hid (World.grownBy_alloc w (.cells (Qm.z 0).c 37) none)
 have GA1 := Lib.hid (heap_alloc_new w (.cells (Qm.z 0).c 37))
 go_wp2_with fail
 refine (HL.out _).mono ?_
 rintro e w2 (⟨p', c', hr, rfl, hg⟩ | ⟨t, v, hr, rfl, hown, hg⟩)
 ·cases hr
 cases hr
 obtain ⟨ar, k, rfl, hw, hb⟩ := own_win hown
 have hpos : 1 ≤ T.length := HOK.out.1.pos
 obtain ⟨b, o, rfl, hcc, _, _⟩ := hw.mem.resolve_left (by have := hw.le; omega)
 obtain ⟨n, hn⟩ : ∃ n, n = T.length := ⟨_, rfl⟩
 have HH : Hid (∀ W, w2.grownBy W none → TkE b o n k T W) := Lib.hid (fun W hW => TkE.keep ⟨hn.symm, hn ▸ hw.le, hw.max, hn ▸ HOK.out.2.1, HOK.out.1, HTW.out, HOK.out.2.2, hw.lt b (by rw [bk_some]), hcc⟩ hW)
 have S0 : Hid (SR n T ⟨T, Option.none⟩ 0 0 0) := Lib.hid (SR.begin HOK.out.1 hn.symm)
 have A2 := Lib.hid (blkD hg GA1.out)
 have G2 := Lib.hid (GA.out.trans hg)
 have hszw : w.heap.size < w2.heap.size := (Array.getElem?_eq_some_iff.1 A2.out).1
 rw [← hn]
 clear hw hb hpos hcc hn hg hown GA GA1 HL HTW HOK
 obtain ⟨⟨tq, q⟩, hq⟩ : ∃ x, x = queryL ⟨T, Option.none⟩ := ⟨_, rfl⟩
 obtain ⟨t0, ht0⟩ : ∃ t0, t0 = (⟨T, Option.none⟩ : RS).need bSel := ⟨_, rfl⟩
 obtain ⟨⟨t1, al, its⟩, h1⟩ : ∃ x, x = itemsQ t0 := ⟨_, rfl⟩
 obtain ⟨⟨t2, tb⟩, h2⟩ : ∃ x, x = (t1.need bFrom).name := ⟨_, rfl⟩
 obtain ⟨⟨t3, cd⟩, h3⟩ : ∃ x, x = whereQ t2 := ⟨_, rfl⟩
 obtain ⟨⟨t4, gr⟩, h4⟩ : ∃ x, x = groupQ t3 := ⟨_, rfl⟩
 obtain ⟨⟨t5, od⟩, h5⟩ : ∃ x, x = orderQ t4 := ⟨_, rfl⟩
 obtain ⟨⟨t6, lm⟩, h6⟩ : ∃ x, x = limitQ t5 := ⟨_, rfl⟩
 have hq2 : tq = t6.fin ∧ q = ⟨its, al, tb, cd, gr, od, lm⟩ := by
  unfold queryL at hq
  rw [← ht0] at hq
  dsimp only at hq
  rw [← h1] at hq
  dsimp only at hq
  rw [← h2] at hq
  dsimp only at hq
  rw [← h3] at hq
  dsimp only at hq
  rw [← h4] at hq
  dsimp only at hq
  rw [← h5] at hq
  dsimp only at hq
  rw [← h6] at hq
  exact Prod.mk.inj hq
 rw [← hq] at HP
 have HQ2 := Lib.hid hq2
 have H1 := Lib.hid h1
 have H2 := Lib.hid h2
 have H3 := Lib.hid h3
 have H4 := Lib.hid h4
 have H5 := Lib.hid h5
 have H6 := Lib.hid h6
 have H0 := Lib.hid ht0
 clear hq hq2 h1 h2 h3 h4 h5 h6 ht0
 have HW := Lib.hid (fun W (hW : w2.grownBy W none) => qwant b o n k T ⟨T, Option.none⟩ W (HH.out W hW) 0 0 0 S0.out bSel key_sel)
 rw [← H0.out] at HW
 clear S0
 go_wp2_with fail
 refine (HW.out _ (grown_reflT _ _)).mono ?_
 rintro e w3 ⟨⟨i0, x0, a0, rfl, hS⟩, hg⟩
 have S0 := Lib.hid hS
 have A3 := Lib.hid (blkD hg A2.out)
 have hs3 := hg.size
 have HHT := Lib.hid (fun W (hW : w3.grownBy W none) => HH.out W (hg.trans hW))
 have G3 := Lib.hid (G2.out.trans hg)
 clear hg hS HW A2 G2 HH
 go_upto_region 6 with fail
 have HH := HHT
 clear HHT
 have J4 : Hid (QsM b o n k w w3 w3.heap.size (w3.heap.size + 1) i0 x0 a0 (Qm.z (-1)) ((w3.alloc (.cells #[.slice (some ⟨b, o, none⟩) n k, .int .i64 i0, .int .i64 0, .int .i64 x0, .int .i64 a0] 81)).alloc (.cells (Qm.z (-1)).c 37))) := Lib.hid ⟨alc2a _ _ _, alc2b _ _ _, blkD (gq_al (gq_al (grown_reflT w3 none) _) _) A3.out, ⟨⟨.inl rfl, Nat.le_refl _⟩, PmS.leaf .., ⟨.inl rfl, Nat.le_refl _⟩, .inl rfl, Nat.le_refl _⟩, (by show w.heap.size < w3.heap.size; omega), Nat.lt_succ_self _, Nat.le_refl _, gq_al (gq_al G3.out _) _, gq_al (gq_al (grown_reflT w3 none) _) _⟩
 change Code.wp _ _ _ _ ((w3.alloc (.cells #[.slice (some ⟨b, o, none⟩) n k, .int .i64 i0, .int .i64 0, .int .i64 x0, .int .i64 a0] 81)).alloc (.cells (Qm.z (-1)).c 37))
 generalize (w3.alloc (.cells #[.slice (some ⟨b, o, none⟩) n k, .int .i64 i0, .int .i64 0, .int .i64 x0, .int .i64 a0] 81)).alloc (.cells (Qm.z (-1)).c 37) = w4 at *
 clear A3 G3 hs3 hszw
 have hsb : w3.heap.size < w3.heap.size + 1 := Nat.lt_succ_self _
 obtain ⟨qb, hqb⟩ : ∃ qb, qb = w3.heap.size + 1 := ⟨_, rfl⟩
 rw [← hqb] at J4 hsb
 simp only [← hqb]
 obtain ⟨sb, hsb2⟩ : ∃ sb, sb = w3.heap.size := ⟨_, rfl⟩
 rw [← hsb2] at J4 hsb
 simp only [← hsb2]
 have hq3 := Lib.hid (show ∀ W, w3.grownBy W none → sb ≤ W.heap.size from fun W hW => by rw [hsb2]; exact hW.size)
 clear hqb hsb2
 have HI := Lib.hid (fun W (hW : w3.grownBy W none) => qis b o n k T t0 W (HH.out W hW) i0 x0 a0 S0.out bStar key_star)
 obtain ⟨ya, hya⟩ : ∃ ya, ya = t0.comes bStar := ⟨_, rfl⟩
 rw [← hya] at HI
 have HYya := Lib.hid hya
 clear hya
 obtain ⟨⟨c0, c1, c2, c3, c4⟩, f0, f1, f2, f3, f4⟩ := boxD5 J4.out.st
 go_wp2_with fail
 refine (HI.out _ J4.out.gu).mono ?_
 rintro e w5 ⟨rfl, hg⟩
 have J5 := Lib.hid (J4.out.then hg)
 have D5 := Lib.hid hg
 clear hg c0 c1 c2 c3 c4 f0 f1 f2 f3 f4
 clear J4
 clear HI
 go_upto_if 28 with fail
 go_cut [] from 10 (fun wx => Hid (QIs b o n k T w w3 sb qb t1 ⟨its, al, ⟨#[]⟩, Prd.none, [], [], -1⟩ wx))
 case first =>
  cases ya with
  | true =>
  obtain ⟨rfl, h⟩ := Prod.mk.inj (H1.out.trans (show itemsQ t0 = (t0.pass, true, []) by unfold itemsQ; rw [if_pos HYya.out.symm]))
  obtain ⟨rfl, rfl⟩ := Prod.mk.inj h
  obtain ⟨p1, g1⟩ := J5.out.cq 1 _ (Qm.c1' _)
  go_upto_region 8 with fail
  have J6 := Lib.hid (J5.out.setA true)
  generalize w5.setCell ⟨qb, 1, none⟩ (.bool true) = w6 at *
  clear p1 g1 J5
  have HP := Lib.hid (fun W (hW : w3.grownBy W none) => qpass b o n k T t0 W (HH.out W hW) i0 x0 a0 S0.out bStar key_star HYya.out.symm)
  obtain ⟨⟨c0, c1, c2, c3, c4⟩, f0, f1, f2, f3, f4⟩ := boxD5 J6.out.st
  go_wp2_with fail
  refine (HP.out _ J6.out.gu).mono ?_
  rintro e w7 ⟨⟨i1, x1, a1, rfl, hS⟩, hg⟩
  have J7 := Lib.hid (J6.out.then hg)
  have D7 := Lib.hid hg
  clear hg c0 c1 c2 c3 c4 f0 f1 f2 f3 f4
  clear J6
  have SN := Lib.hid hS
  clear hS HP
  obtain ⟨⟨c0, c1, c2, c3, c4⟩, f0, f1, f2, f3, f4⟩ := boxD5 J7.out.st
  go_wp2_with fail
  go_meet
  exact Lib.hid ⟨i1, x1, a1, _, SN.out, fun _ => rfl, J7.out.set5 i1 x1 a1⟩
  | false =>
  obtain ⟨rfl, h⟩ := Prod.mk.inj (H1.out.trans (show itemsQ t0 = ((listF 8 itemL 9 t0 []).1, false, (listF 8 itemL 9 t0 []).2) by unfold itemsQ; rw [if_neg (by rw [← HYya.out]; decide)]))
  obtain ⟨rfl, rfl⟩ := Prod.mk.inj h
  have HI2 := Lib.hid (fun W (hW : w3.grownBy W none) => qitems b o n k T t0 W (HH.out W hW) i0 x0 a0 S0.out )
  have hqk := (Array.getElem?_eq_some_iff.1 J5.out.q).1
  obtain ⟨⟨c0, c1, c2, c3, c4⟩, f0, f1, f2, f3, f4⟩ := boxD5 J5.out.st
  go_wp2_with fail
  refine (HI2.out _ J5.out.gu).mono ?_
  rintro e w6 ⟨⟨i1, x1, a1, ar, cp, l, rfl, hW, hb, hS, hE⟩, hg⟩
  have J6 := Lib.hid (J5.out.then hg)
  have D6 := Lib.hid hg
  clear hg c0 c1 c2 c3 c4 f0 f1 f2 f3 f4
  clear J5
  have hb2 : ∀ j, bk ar j → qb < j := fun j hj => Nat.lt_of_lt_of_le hqk (hb j hj)
  have HW2 := Lib.hid (And.intro hW hb2)
  have SN := Lib.hid hS
  have EN := Lib.hid hE
  have hsq := J6.out.l2
  clear hW hb hb2 hS hE hqk HI2
  obtain ⟨⟨c0, c1, c2, c3, c4⟩, f0, f1, f2, f3, f4⟩ := boxD5 J6.out.st
  have K := J6.out.set5 i1 x1 a1
  obtain ⟨p0, g0⟩ := K.cq 0 _ (Qm.c0' _)
  go_wp2_with fail
  go_meet
  exact Lib.hid ⟨i1, x1, a1, _, SN.out, fun h0 => Qm.e_items (Q := ⟨[], false, ⟨#[]⟩, Prd.none, [], [], -1⟩) rfl (EN.out h0), K.setI (HW2.out.1.putD HW2.out.2 (Nat.le_of_lt hsq) (grownD5 _ _ _ _ _ _ _)) HW2.out.2⟩
 case rest =>
 obtain ⟨i1, x1, a1, y1, hS, hE, hJ⟩ := hcut.out
 obtain ⟨w12, hw12⟩ : ∃ w12, w12 = wc := ⟨_, rfl⟩
 rw [← hw12] at hJ ⊢
 have J12 := Lib.hid hJ
 have S1 := Lib.hid hS
 have E1 := Lib.hid hE
 clear hcut hS hE hJ hw12 J5
 have HF := Lib.hid (fun W (hW : w3.grownBy W none) => qwant b o n k T t1 W (HH.out W hW) i1 x1 a1 S1.out bFrom key_from)
 obtain ⟨⟨c0, c1, c2, c3, c4⟩, f0, f1, f2, f3, f4⟩ := boxD5 J12.out.st
 go_wp2_with fail
 refine (HF.out _ J12.out.gu).mono ?_
 rintro e w13 ⟨⟨im, xm, am, rfl, hS⟩, hg⟩
 have J13 := Lib.hid (J12.out.then hg)
 have D13 := Lib.hid hg
 clear hg c0 c1 c2 c3 c4 f0 f1 f2 f3 f4
 clear J12
 have SM := Lib.hid hS
 clear hS HF
 have HN := Lib.hid (fun W (hW : w3.grownBy W none) => qname b o n k T (t1.need bFrom) W (HH.out W hW) im xm am SM.out )
 rw [← H2.out] at HN
 simp only at HN
 obtain ⟨⟨c0, c1, c2, c3, c4⟩, f0, f1, f2, f3, f4⟩ := boxD5 J13.out.st
 go_wp2_with fail
 refine (HN.out _ J13.out.gu).mono ?_
 rintro e w14 ⟨⟨i2, x2, a2, rfl, hS⟩, hg⟩
 have J14 := Lib.hid (J13.out.then hg)
 have D14 := Lib.hid hg
 clear hg c0 c1 c2 c3 c4 f0 f1 f2 f3 f4
 clear J13
 have S2 := Lib.hid hS
 clear hS HN
 obtain ⟨⟨c0, c1, c2, c3, c4⟩, f0, f1, f2, f3, f4⟩ := boxD5 J14.out.st
 have K := J14.out.set5 i2 x2 a2
 obtain ⟨p2, g2⟩ := K.cq 2 _ (Qm.c2' _)
 go_upto_region 11 with fail
 have J15 := Lib.hid (K.setT tb)
 have E2 : Hid (x2 = 0 → ({ y1 with table := tb } : Qm).e.e = (⟨its, al, tb, Prd.none, [], [], -1⟩ : Qry).e) := Lib.hid (fun h0 => Qm.e_table (Q := ⟨its, al, ⟨#[]⟩, Prd.none, [], [], -1⟩) (E1.out (S2.out.back (fun hc => by have := (S1.out.sneed hc key_from).sname hc; rw [← H2.out] at this; exact this) h0)))
 generalize ({ y1 with table := tb } : Qm) = y2 at *
 generalize ((((((w14.setCell ⟨sb, 0, none⟩ (.slice (some ⟨b, o, none⟩) n k)).setCell ⟨sb, 1, none⟩ (.int .i64 i2)).setCell ⟨sb, 2, none⟩ (.int .i64 0)).setCell ⟨sb, 3, none⟩ (.int .i64 x2)).setCell ⟨sb, 4, none⟩ (.int .i64 a2))).setCell ⟨qb, 2, none⟩ (.string tb) = w15 at *
 clear K p2 g2 J14 c0 c1 c2 c3 c4 f0 f1 f2 f3 f4 S1 E1 SM H1 H2
 have HI := Lib.hid (fun W (hW : w3.grownBy W none) => qis b o n k T t2 W (HH.out W hW) i2 x2 a2 S2.out bWhere key_where)
 obtain ⟨yw, hyw⟩ : ∃ yw, yw = t2.comes bWhere := ⟨_, rfl⟩
 rw [← hyw] at HI
 have HYyw := Lib.hid hyw
 clear hyw
 obtain ⟨⟨c0, c1, c2, c3, c4⟩, f0, f1, f2, f3, f4⟩ := boxD5 J15.out.st
 go_wp2_with fail
 refine (HI.out _ J15.out.gu).mono ?_
 rintro e w16 ⟨rfl, hg⟩
 have J16 := Lib.hid (J15.out.then hg)
 have D16 := Lib.hid hg
 clear hg c0 c1 c2 c3 c4 f0 f1 f2 f3 f4
 clear J15
 clear HI
 go_upto_if 46 with fail
 go_cut [] from 10 (fun wx => Hid (QIs b o n k T w w3 sb qb t3 ⟨its, al, tb, cd, [], [], -1⟩ wx))
 case first =>
  cases yw with
  | false =>
  obtain ⟨rfl, rfl⟩ := Prod.mk.inj (H3.out.trans (show whereQ t2 = (t2, Prd.none) by unfold whereQ; rw [if_neg (by rw [← HYyw.out]; decide)]))
  go_wp2_with fail
  go_meet
  exact Lib.hid ⟨i2, x2, a2, y2, S2.out, E2.out, J16.out⟩
  | true =>
  have h3 := H3.out.trans (show whereQ t2 = anyF 20 t2.pass by unfold whereQ; rw [if_pos HYyw.out.symm])
  have HC0 := Lib.hid (S2.out.come (HH.out w3 (grown_reflT _ _)) key_where HYyw.out.symm).1
  have HP := Lib.hid (fun W (hW : w3.grownBy W none) => qpass b o n k T t2 W (HH.out W hW) i2 x2 a2 S2.out bWhere key_where HYyw.out.symm)
  obtain ⟨⟨c0, c1, c2, c3, c4⟩, f0, f1, f2, f3, f4⟩ := boxD5 J16.out.st
  go_wp2_with fail
  refine (HP.out _ J16.out.gu).mono ?_
  rintro e w17 ⟨⟨ip, xp, ap, rfl, hS⟩, hg⟩
  have J17 := Lib.hid (J16.out.then hg)
  have D17 := Lib.hid hg
  clear hg c0 c1 c2 c3 c4 f0 f1 f2 f3 f4
  clear J16
  have SP := Lib.hid hS
  clear hS HP
  have HQ := Lib.hid (fun W (hW : w3.grownBy W none) => qwhere b o n k T t2.pass W (HH.out W hW) ip xp ap SP.out )
  rw [← h3] at HQ
  simp only at HQ
  clear h3
  have hqk := (Array.getElem?_eq_some_iff.1 J17.out.q).1
  obtain ⟨⟨c0, c1, c2, c3, c4⟩, f0, f1, f2, f3, f4⟩ := boxD5 J17.out.st
  go_wp2_with fail
  refine (HQ.out _ J17.out.gu).mono ?_
  rintro e w18 ⟨⟨i3, x3, a3, ym, rfl, hS, hE, hM⟩, hg⟩
  have J18 := Lib.hid (J17.out.then hg)
  have D18 := Lib.hid hg
  clear hg c0 c1 c2 c3 c4 f0 f1 f2 f3 f4
  clear J17
  have S3 := Lib.hid hS
  have E3 := Lib.hid hE
  have M3 := Lib.hid (hM.mono (S' := fun j => qb < j) (fun j _ hj => Nat.lt_of_lt_of_le hqk hj))
  clear hS hE hM hqk HQ
  have y1 := ym.c_size
  have y2c := ym.c_all
  simp only [Pm.v]
  obtain ⟨cs, HCS⟩ : ∃ cs, cs = ym.c.toArray := ⟨_, rfl⟩
  rw [← HCS] at y1 y2c
  simp only [← HCS]
  have HCS2 := Lib.hid HCS
  clear HCS
  have hsq := J18.out.l2
  have K := J18.out.row i3 x3 a3
  go_wp2_with first
   | (refine wpList_store_row rfl 81 (.tmp 8) (.tmp 51) rfl sb #[.slice (some ⟨b, o, none⟩) n k, .int .i64 i3, .int .i64 0, .int .i64 x3, .int .i64 a3] rfl rfl 81 #[.slice (some ⟨b, o, none⟩) n k, .int .i64 i2, .int .i64 0, .int .i64 x2, .int .i64 a2] J18.out.st st_size rfl (by simp [Value.oneCell']) ?_)
   | (refine wpList_store_mid rfl 34 (.tmp 53) (.tmp 52) rfl qb 3 cs rfl rfl (by rw [y1]; exact K.there) (by rw [y1]; exact pred_size) y2c ?_)
  go_meet
  refine Lib.hid ⟨i3, x3, a3, { y2 with cond := ym }, S3.out, fun h0 => Qm.e_cond (Q := ⟨its, al, tb, Prd.none, [], [], -1⟩) (E2.out HC0.out) (E3.out h0), ?_⟩
  rw [HCS2.out]
  exact K.setC (M3.out.keep (.of_grown2 (grown_setRow _ _ _) (fun j hj => by omega)))
 case rest =>
 obtain ⟨i3, x3, a3, y3, hS, hE, hJ⟩ := hcut.out
 obtain ⟨w23, hw23⟩ : ∃ w23, w23 = wc := ⟨_, rfl⟩
 rw [← hw23] at hJ ⊢
 have J23 := Lib.hid hJ
 have S3 := Lib.hid hS
 have E3 := Lib.hid hE
 clear hcut hS hE hJ hw23 J16
 clear S2 E2 H3
 have HI := Lib.hid (fun W (hW : w3.grownBy W none) => qis b o n k T t3 W (HH.out W hW) i3 x3 a3 S3.out bGroup key_group)
 obtain ⟨yg, hyg⟩ : ∃ yg, yg = t3.comes bGroup := ⟨_, rfl⟩
 rw [← hyg] at HI
 have HYyg := Lib.hid hyg
 clear hyg
 obtain ⟨⟨c0, c1, c2, c3, c4⟩, f0, f1, f2, f3, f4⟩ := boxD5 J23.out.st
 go_wp2_with fail
 refine (HI.out _ J23.out.gu).mono ?_
 rintro e w24 ⟨rfl, hg⟩
 have J24 := Lib.hid (J23.out.then hg)
 have D24 := Lib.hid hg
 clear hg c0 c1 c2 c3 c4 f0 f1 f2 f3 f4
 clear J23
 clear HI
 go_upto_if 55 with fail
 go_cut [] from 10 (fun wx => Hid (QIs b o n k T w w3 sb qb t4 ⟨its, al, tb, cd, gr, [], -1⟩ wx))
 case first =>
  cases yg with
  | false =>
  obtain ⟨rfl, rfl⟩ := Prod.mk.inj (H4.out.trans (show groupQ t3 = (t3, []) by unfold groupQ; rw [if_neg (by rw [← HYyg.out]; decide)]))
  go_wp2_with fail
  go_meet
  exact Lib.hid ⟨i3, x3, a3, y3, S3.out, E3.out, J24.out⟩
  | true =>
  obtain ⟨rfl, rfl⟩ := Prod.mk.inj (H4.out.trans (show groupQ t3 = ((listF 8 columnL 9 (t3.pass.need bBy) []).1, (listF 8 columnL 9 (t3.pass.need bBy) []).2) by unfold groupQ; rw [if_pos HYyg.out.symm]))
  have HC0 := Lib.hid (S3.out.come (HH.out w3 (grown_reflT _ _)) key_group HYyg.out.symm).1
  have HP := Lib.hid (fun W (hW : w3.grownBy W none) => qpass b o n k T t3 W (HH.out W hW) i3 x3 a3 S3.out bGroup key_group HYyg.out.symm)
  obtain ⟨⟨c0, c1, c2, c3, c4⟩, f0, f1, f2, f3, f4⟩ := boxD5 J24.out.st
  go_wp2_with fail
  refine (HP.out _ J24.out.gu).mono ?_
  rintro e w25 ⟨⟨ip, xp, ap, rfl, hS⟩, hg⟩
  have J25 := Lib.hid (J24.out.then hg)
  have D25 := Lib.hid hg
  clear hg c0 c1 c2 c3 c4 f0 f1 f2 f3 f4
  clear J24
  have SP := Lib.hid hS
  clear hS HP
  have HB := Lib.hid (fun W (hW : w3.grownBy W none) => qwant b o n k T t3.pass W (HH.out W hW) ip xp ap SP.out bBy key_by)
  obtain ⟨⟨c0, c1, c2, c3, c4⟩, f0, f1, f2, f3, f4⟩ := boxD5 J25.out.st
  go_wp2_with fail
  refine (HB.out _ J25.out.gu).mono ?_
  rintro e w26 ⟨⟨iq, xq, aq, rfl, hS⟩, hg⟩
  have J26 := Lib.hid (J25.out.then hg)
  have D26 := Lib.hid hg
  clear hg c0 c1 c2 c3 c4 f0 f1 f2 f3 f4
  clear J25
  have SQ := Lib.hid hS
  clear hS HB SP
  have HI2 := Lib.hid (fun W (hW : w3.grownBy W none) => qcols b o n k T (t3.pass.need bBy) W (HH.out W hW) iq xq aq SQ.out )
  have hqk := (Array.getElem?_eq_some_iff.1 J26.out.q).1
  obtain ⟨⟨c0, c1, c2, c3, c4⟩, f0, f1, f2, f3, f4⟩ := boxD5 J26.out.st
  go_wp2_with fail
  refine (HI2.out _ J26.out.gu).mono ?_
  rintro e w27 ⟨⟨i4, x4, a4, ar, cp, l, rfl, hW, hb, hS, hE⟩, hg⟩
  have J27 := Lib.hid (J26.out.then hg)
  have D27 := Lib.hid hg
  clear hg c0 c1 c2 c3 c4 f0 f1 f2 f3 f4
  clear J26
  have hb2 : ∀ j, bk ar j → qb < j := fun j hj => Nat.lt_of_lt_of_le hqk (hb j hj)
  have HW2 := Lib.hid (And.intro hW hb2)
  have SN := Lib.hid hS
  have EN := Lib.hid hE
  have hsq := J27.out.l2
  clear hW hb hb2 hS hE hqk HI2
  obtain ⟨⟨c0, c1, c2, c3, c4⟩, f0, f1, f2, f3, f4⟩ := boxD5 J27.out.st
  have K := J27.out.set5 i4 x4 a4
  obtain ⟨p0, g0⟩ := K.cq 13 _ (Qm.c13' _)
  go_wp2_with fail
  go_meet
  exact Lib.hid ⟨i4, x4, a4, _, SN.out, fun h0 => Qm.e_group (Q := ⟨its, al, tb, cd, [], [], -1⟩) (E3.out HC0.out) (EN.out h0), K.setG (HW2.out.1.putD HW2.out.2 (Nat.le_of_lt hsq) (grownD5 _ _ _ _ _ _ _)) HW2.out.2⟩
 case rest =>
 obtain ⟨i4, x4, a4, y4, hS, hE, hJ⟩ := hcut.out
 obtain ⟨w31, hw31⟩ : ∃ w31, w31 = wc := ⟨_, rfl⟩
 rw [← hw31] at hJ ⊢
 have J31 := Lib.hid hJ
 have S4 := Lib.hid hS
 have E4 := Lib.hid hE
 clear hcut hS hE hJ hw31 J24
 clear S3 E3 H4
 have HI := Lib.hid (fun W (hW : w3.grownBy W none) => qis b o n k T t4 W (HH.out W hW) i4 x4 a4 S4.out bOrder key_order)
 obtain ⟨yo, hyo⟩ : ∃ yo, yo = t4.comes bOrder := ⟨_, rfl⟩
 rw [← hyo] at HI
 have HYyo := Lib.hid hyo
 clear hyo
 obtain ⟨⟨c0, c1, c2, c3, c4⟩, f0, f1, f2, f3, f4⟩ := boxD5 J31.out.st
 go_wp2_with fail
 refine (HI.out _ J31.out.gu).mono ?_
 rintro e w32 ⟨rfl, hg⟩
 have J32 := Lib.hid (J31.out.then hg)
 have D32 := Lib.hid hg
 clear hg c0 c1 c2 c3 c4 f0 f1 f2 f3 f4
 clear J31
 clear HI
 go_upto_if 65 with fail
 go_cut [] from 10 (fun wx => Hid (QIs b o n k T w w3 sb qb t5 ⟨its, al, tb, cd, gr, od, -1⟩ wx))
 case first =>
  cases yo with
  | false =>
  obtain ⟨rfl, rfl⟩ := Prod.mk.inj (H5.out.trans (show orderQ t4 = (t4, []) by unfold orderQ; rw [if_neg (by rw [← HYyo.out]; decide)]))
  go_wp2_with fail
  go_meet
  exact Lib.hid ⟨i4, x4, a4, y4, S4.out, E4.out, J32.out⟩
  | true =>
  obtain ⟨rfl, rfl⟩ := Prod.mk.inj (H5.out.trans (show orderQ t4 = ((listF 8 keyL 9 (t4.pass.need bBy) []).1, (listF 8 keyL 9 (t4.pass.need bBy) []).2) by unfold orderQ; rw [if_pos HYyo.out.symm]))
  have HC0 := Lib.hid (S4.out.come (HH.out w3 (grown_reflT _ _)) key_order HYyo.out.symm).1
  have HP := Lib.hid (fun W (hW : w3.grownBy W none) => qpass b o n k T t4 W (HH.out W hW) i4 x4 a4 S4.out bOrder key_order HYyo.out.symm)
  obtain ⟨⟨c0, c1, c2, c3, c4⟩, f0, f1, f2, f3, f4⟩ := boxD5 J32.out.st
  go_wp2_with fail
  refine (HP.out _ J32.out.gu).mono ?_
  rintro e w33 ⟨⟨ip, xp, ap, rfl, hS⟩, hg⟩
  have J33 := Lib.hid (J32.out.then hg)
  have D33 := Lib.hid hg
  clear hg c0 c1 c2 c3 c4 f0 f1 f2 f3 f4
  clear J32
  have SP := Lib.hid hS
  clear hS HP
  have HB := Lib.hid (fun W (hW : w3.grownBy W none) => qwant b o n k T t4.pass W (HH.out W hW) ip xp ap SP.out bBy key_by)
  obtain ⟨⟨c0, c1, c2, c3, c4⟩, f0, f1, f2, f3, f4⟩ := boxD5 J33.out.st
  go_wp2_with fail
  refine (HB.out _ J33.out.gu).mono ?_
  rintro e w34 ⟨⟨iq, xq, aq, rfl, hS⟩, hg⟩
  have J34 := Lib.hid (J33.out.then hg)
  have D34 := Lib.hid hg
  clear hg c0 c1 c2 c3 c4 f0 f1 f2 f3 f4
  clear J33
  have SQ := Lib.hid hS
  clear hS HB SP
  have HI2 := Lib.hid (fun W (hW : w3.grownBy W none) => qkeys b o n k T (t4.pass.need bBy) W (HH.out W hW) iq xq aq SQ.out )
  have hqk := (Array.getElem?_eq_some_iff.1 J34.out.q).1
  obtain ⟨⟨c0, c1, c2, c3, c4⟩, f0, f1, f2, f3, f4⟩ := boxD5 J34.out.st
  go_wp2_with fail
  refine (HI2.out _ J34.out.gu).mono ?_
  rintro e w35 ⟨⟨i5, x5, a5, ar, cp, l, rfl, hW, hb, hS, hE⟩, hg⟩
  have J35 := Lib.hid (J34.out.then hg)
  have D35 := Lib.hid hg
  clear hg c0 c1 c2 c3 c4 f0 f1 f2 f3 f4
  clear J34
  have hb2 : ∀ j, bk ar j → qb < j := fun j hj => Nat.lt_of_lt_of_le hqk (hb j hj)
  have HW2 := Lib.hid (And.intro hW hb2)
  have SN := Lib.hid hS
  have EN := Lib.hid hE
  have hsq := J35.out.l2
  clear hW hb hb2 hS hE hqk HI2
  obtain ⟨⟨c0, c1, c2, c3, c4⟩, f0, f1, f2, f3, f4⟩ := boxD5 J35.out.st
  have K := J35.out.set5 i5 x5 a5
  obtain ⟨p0, g0⟩ := K.cq 14 _ (Qm.c14' _)
  go_wp2_with fail
  go_meet
  exact Lib.hid ⟨i5, x5, a5, _, SN.out, fun h0 => Qm.e_order (Q := ⟨its, al, tb, cd, gr, [], -1⟩) (E4.out HC0.out) (EN.out h0), K.setO (HW2.out.1.putD HW2.out.2 (Nat.le_of_lt hsq) (grownD5 _ _ _ _ _ _ _)) HW2.out.2⟩
 case rest =>
 obtain ⟨i5, x5, a5, y5, hS, hE, hJ⟩ := hcut.out
 obtain ⟨w39, hw39⟩ : ∃ w39, w39 = wc := ⟨_, rfl⟩
 rw [← hw39] at hJ ⊢
 have J39 := Lib.hid hJ
 have S5 := Lib.hid hS
 have E5 := Lib.hid hE
 clear hcut hS hE hJ hw39 J32
 clear S4 E4 H5
 have HI := Lib.hid (fun W (hW : w3.grownBy W none) => qis b o n k T t5 W (HH.out W hW) i5 x5 a5 S5.out bLimit key_limit)
 obtain ⟨yl, hyl⟩ : ∃ yl, yl = t5.comes bLimit := ⟨_, rfl⟩
 rw [← hyl] at HI
 have HYyl := Lib.hid hyl
 clear hyl
 obtain ⟨⟨c0, c1, c2, c3, c4⟩, f0, f1, f2, f3, f4⟩ := boxD5 J39.out.st
 go_wp2_with fail
 refine (HI.out _ J39.out.gu).mono ?_
 rintro e w40 ⟨rfl, hg⟩
 have J40 := Lib.hid (J39.out.then hg)
 have D40 := Lib.hid hg
 clear hg c0 c1 c2 c3 c4 f0 f1 f2 f3 f4
 clear J39
 clear HI
 go_upto_if 75 with fail
 go_cut [] from 10 (fun wx => Hid (QIs b o n k T w w3 sb qb t6 ⟨its, al, tb, cd, gr, od, lm⟩ wx))
 case first =>
  cases yl with
  | false =>
  obtain ⟨rfl, rfl⟩ := Prod.mk.inj (H6.out.trans (show limitQ t5 = (t5, -1) by unfold limitQ; rw [if_neg (by rw [← HYyl.out]; decide)]))
  go_wp2_with fail
  go_meet
  exact Lib.hid ⟨i5, x5, a5, y5, S5.out, E5.out, J40.out⟩
  | true =>
  have HLm := Lib.hid (H6.out.trans (show limitQ t5 = limitL t5.pass by unfold limitQ; rw [if_pos HYyl.out.symm]))
  have HC0 := Lib.hid (S5.out.come (HH.out w3 (grown_reflT _ _)) key_limit HYyl.out.symm).1
  have HP := Lib.hid (fun W (hW : w3.grownBy W none) => qpass b o n k T t5 W (HH.out W hW) i5 x5 a5 S5.out bLimit key_limit HYyl.out.symm)
  obtain ⟨⟨c0, c1, c2, c3, c4⟩, f0, f1, f2, f3, f4⟩ := boxD5 J40.out.st
  go_wp2_with fail
  refine (HP.out _ J40.out.gu).mono ?_
  rintro e w41 ⟨⟨ip, xp, ap, rfl, hS⟩, hg⟩
  have J41 := Lib.hid (J40.out.then hg)
  have D41 := Lib.hid hg
  clear hg c0 c1 c2 c3 c4 f0 f1 f2 f3 f4
  clear J40
  have SP := Lib.hid hS
  have HX0 : Hid (xp = 0) := Lib.hid (hS.err0.1 (S5.out.err0.2 HC0.out))
  have HEq := Lib.hid (E5.out HC0.out)
  clear hS HP HC0
  obtain ⟨⟨c0, c1, c2, c3, c4⟩, f0, f1, f2, f3, f4⟩ := boxD5 J41.out.st
  have K := Lib.hid (J41.out.set5 ip xp ap)
  go_upto_region 19 with fail
  generalize ((((((w41.setCell ⟨sb, 0, none⟩ (.slice (some ⟨b, o, none⟩) n k)).setCell ⟨sb, 1, none⟩ (.int .i64 ip)).setCell ⟨sb, 2, none⟩ (.int .i64 0)).setCell ⟨sb, 3, none⟩ (.int .i64 xp)).setCell ⟨sb, 4, none⟩ (.int .i64 ap))) = w42 at *
  have J42 := K
  clear K J41 c0 c1 c2 c3 c4 f0 f1 f2 f3 f4 S5 E5 H6 HYyl
  generalize t5.pass = tp at *
  have HNw := Lib.hid (fun W (hW : w3.grownBy W none) (x y : Nat) => rnow_any b o n k T W (HH.out W hW) ip 0 x y SP.out.lt)
  have HHd : Hid (tp.hd = tkA T ip) := Lib.hid (by have h1 := SP.out; have h2 := HX0.out; subst h2; exact h1.hd)
  have hsz : (tkA T ip).text.size ≤ 1510 := (HH.out w3 (grown_reflT _ _)).sz _ (tkA_mem (T := T) (i := ip) (by have := SP.out.lt; have := SP.out.len; omega))
  have HTk := Lib.hid ((HH.out w3 (grown_reflT _ _)).tw _ (tkA_mem (T := T) (i := ip) (by have := SP.out.lt; have := SP.out.len; omega)))
  have HRd := Lib.hid (fun W => refRead_any (tkA T ip).text W hsz)
  have HVc := readV_code (tkA T ip).text.data.toList
  have HNk := Lib.hid (fun W (hW : w3.grownBy W none) (hk : (tkA T ip).kind ≠ 0) => rstep_anyC b o n k T tp W (HH.out W hW) ip 0 xp ap SP.out HX0.out (SP.out.good (.inl (by rw [HHd.out]; exact hk))).2 hk)
  have HPs := Lib.hid (fun (hk : (tkA T ip).kind ≠ 0) => (by have h1 := SP.out; have h2 := HX0.out; have h3 := (SP.out.good (.inl (by rw [HHd.out]; exact hk))).2; subst h2; subst h3; exact h1.pass (.inl (by rw [HHd.out]; exact hk)) : SR n T tp.pass (ip + 1) 0 0))
  clear hsz
  generalize tkA T ip = tk at *
  obtain ⟨kd, tx, ps⟩ := tk
  simp only at HNw HTk HRd HVc HNk HPs
  obtain ⟨vk, vn, vs, hv⟩ := HVc
  have HV := Lib.hid hv
  rw [hv] at HRd
  clear hv
  obtain ⟨⟨c0, c1, c2, c3, c4⟩, f0, f1, f2, f3, f4⟩ := boxD5 J42.out.st
  go_wp2_with fail
  refine (HNw.out _ J42.out.gu xp ap).mono ?_
  rintro e w43 ⟨rfl, hg⟩
  have J43 := Lib.hid (J42.out.then hg)
  have D43 := Lib.hid hg
  clear hg c0 c1 c2 c3 c4 f0 f1 f2 f3 f4
  clear J42
  have t0x := fieldD0 (.int .i64 kd) (.string tx) (.int .i64 ps) w43
  by_cases hk : kd = 2
  ·skip
   have k0 : ((kd : Int) != 2) = false := by rw [hk]; rfl
   have HK2 := Lib.hid hk
   have HK0 : Hid (kd ≠ 0) := Lib.hid (by omega)
   have HVL : Hid (litV tx = ⟨vk, vn, vs⟩) := Lib.hid (litV_ofD HV.out)
   clear hk
   go_upto_region 21 with fail
   clear k0 t0x
   obtain ⟨⟨c0, c1, c2, c3, c4⟩, f0, f1, f2, f3, f4⟩ := boxD5 J43.out.st
   go_wp2_with fail
   refine (HNw.out _ J43.out.gu xp ap).mono ?_
   rintro e w44 ⟨rfl, hg⟩
   have J44 := Lib.hid (J43.out.then hg)
   have D44 := Lib.hid hg
   clear hg c0 c1 c2 c3 c4 f0 f1 f2 f3 f4
   clear J43
   have t1x := fieldD1 (.int .i64 kd) (.string tx) (.int .i64 ps) w44
   go_wp2_with fail
   refine (HRd.out _).mono ?_
   rintro e w45 ⟨rfl, hg⟩
   have hgg := grown_belowX hg none
   have J45 := Lib.hid (J44.out.then hgg)
   clear hg hgg t1x J44
   go_upto_region 22 with fail
   have V46 : Hid ((w45.alloc (.cells #[.int .i64 vk, .int .i64 vn, .string vs] 31)).heap[w45.heap.size]? = some (.cells #[.int .i64 vk, .int .i64 vn, .string vs] 31 (0, 0))) := Lib.hid (alc1 w45 _)
   have hvq : qb < w45.heap.size := (Array.getElem?_eq_some_iff.1 J45.out.q).1
   have J46 := Lib.hid (J45.out.then (World.grownBy_alloc w45 (.cells #[.int .i64 vk, .int .i64 vn, .string vs] 31) none))
   generalize w45.alloc (.cells #[.int .i64 vk, .int .i64 vn, .string vs] 31) = w46 at *
   generalize w45.heap.size = vb at *
   clear J45
   obtain ⟨z, hz⟩ : ∃ z, z = decide (vn < 0 ∨ 1000 < vn) := ⟨_, rfl⟩
   have HZ := Lib.hid hz
   clear hz
   have hsq := J46.out.l2
   go_cut [98] from 12 (fun s98 wx => s98 = .bool z ∧ wx = w46)
   case first =>
    obtain ⟨⟨v0, v1, v2⟩, e0, e1, e2⟩ := boxD3 V46.out
    by_cases h0 : vn < 0
    ·go_wp2_with fail
     go_meet
     exact ⟨by rw [HZ.out, decide_eq_true (.inl h0)], rfl⟩
    ·by_cases h1 : 1000 < vn
     ·go_wp2_with fail
      go_meet
      exact ⟨by rw [HZ.out, decide_eq_true (.inr h1)], rfl⟩
     ·go_wp2_with fail
      go_meet
      exact ⟨by rw [HZ.out, decide_eq_false (by omega)], rfl⟩
   case rest =>
   obtain ⟨rfl, hwc⟩ := hcut
   rw [hwc]
   clear hwc
   cases z with
   | true =>
    have HF := Lib.hid (fun W (hW : w3.grownBy W none) => qfail b o n k T tp W (HH.out W hW) ip xp ap SP.out 1 (by decide))
    obtain ⟨⟨c0, c1, c2, c3, c4⟩, f0, f1, f2, f3, f4⟩ := boxD5 J46.out.st
    go_wp2_with fail
    refine (HF.out _ J46.out.gu).mono ?_
    rintro e w47 ⟨⟨xf, af, rfl, hS⟩, hg⟩
    have J47 := Lib.hid (J46.out.then hg)
    have D47 := Lib.hid hg
    clear hg c0 c1 c2 c3 c4 f0 f1 f2 f3 f4
    clear J46
    have V47 := Lib.hid (blkD D47.out V46.out)
    have SF := Lib.hid hS
    have hx : xf ≠ 0 := fun h => by have := hS.err0.2 h; cases this
    clear hS HF V46
    obtain ⟨⟨c0, c1, c2, c3, c4⟩, f0, f1, f2, f3, f4⟩ := boxD5 J47.out.st
    have K := Lib.hid (J47.out.set5 ip xf af)
    go_upto_region 24 with fail
    have V48 : Hid (((((((w47.setCell ⟨sb, 0, none⟩ (.slice (some ⟨b, o, none⟩) n k)).setCell ⟨sb, 1, none⟩ (.int .i64 ip)).setCell ⟨sb, 2, none⟩ (.int .i64 0)).setCell ⟨sb, 3, none⟩ (.int .i64 xf)).setCell ⟨sb, 4, none⟩ (.int .i64 af))).heap[vb]? = some (.cells #[.int .i64 vk, .int .i64 vn, .string vs] 31 (0, 0))) := Lib.hid (blkR V47.out (grownD5 w47 sb (.slice (some ⟨b, o, none⟩) n k) (.int .i64 ip) (.int .i64 (0 : Int)) (.int .i64 xf) (.int .i64 af)) (by omega))
    generalize ((((((w47.setCell ⟨sb, 0, none⟩ (.slice (some ⟨b, o, none⟩) n k)).setCell ⟨sb, 1, none⟩ (.int .i64 ip)).setCell ⟨sb, 2, none⟩ (.int .i64 0)).setCell ⟨sb, 3, none⟩ (.int .i64 xf)).setCell ⟨sb, 4, none⟩ (.int .i64 af))) = w48 at *
    have J48 := K
    clear K J47 V47 c0 c1 c2 c3 c4 f0 f1 f2 f3 f4
    have HXF := Lib.hid hx
    have HSt := fun W => rstep_bad b o n k W ip 0 xf af hx
    clear hx
    obtain ⟨⟨v0, v1, v2⟩, e0, e1, e2⟩ := boxD3 V48.out
    obtain ⟨p15, g15⟩ := J48.out.cq 15 _ (Qm.c15' _)
    go_upto_region 25 with fail
    have J49 := Lib.hid (J48.out.setL vn)
    generalize w48.setCell ⟨qb, 15, none⟩ (.int .i64 vn) = w49 at *
    clear v0 v1 v2 e0 e1 e2 p15 g15 J48 V48
    obtain ⟨⟨c0, c1, c2, c3, c4⟩, f0, f1, f2, f3, f4⟩ := boxD5 J49.out.st
    go_wp2_with fail
    refine (HSt w49).mono ?_
    rintro e w50 ⟨rfl, hg⟩
    have J50 := Lib.hid (J49.out.then hg)
    have D50 := Lib.hid hg
    clear hg c0 c1 c2 c3 c4 f0 f1 f2 f3 f4
    clear J49
    obtain ⟨⟨c0, c1, c2, c3, c4⟩, f0, f1, f2, f3, f4⟩ := boxD5 J50.out.st
    go_wp2_with fail
    go_meet
    exact Lib.hid ⟨ip, xf, af, _, by rw [show t6 = _ from congrArg Prod.fst (HLm.out.trans (limitL_bad (by rw [HHd.out]; exact HK2.out) (by rw [HHd.out]; exact HVL.out) (of_decide_eq_true HZ.out.symm)))]; exact SF.out, fun h0 => absurd h0 HXF.out, J50.out.set5 ip xf af⟩
   | false =>
    obtain ⟨⟨v0, v1, v2⟩, e0, e1, e2⟩ := boxD3 V46.out
    obtain ⟨p15, g15⟩ := J46.out.cq 15 _ (Qm.c15' _)
    go_upto_region 25 with fail
    have J47 := Lib.hid (J46.out.setL vn)
    generalize w46.setCell ⟨qb, 15, none⟩ (.int .i64 vn) = w47 at *
    clear v0 v1 v2 e0 e1 e2 p15 g15 J46 V46
    obtain ⟨⟨c0, c1, c2, c3, c4⟩, f0, f1, f2, f3, f4⟩ := boxD5 J47.out.st
    go_wp2_with fail
    refine (HNk.out _ J47.out.gu HK0.out).mono ?_
    rintro e w48 ⟨rfl, hg⟩
    have J48 := Lib.hid (J47.out.then hg)
    have D48 := Lib.hid hg
    clear hg c0 c1 c2 c3 c4 f0 f1 f2 f3 f4
    clear J47
    obtain ⟨⟨c0, c1, c2, c3, c4⟩, f0, f1, f2, f3, f4⟩ := boxD5 J48.out.st
    go_wp2_with fail
    go_meet
    exact Lib.hid ⟨ip + 1, 0, 0, _, by rw [show t6 = _ from congrArg Prod.fst (HLm.out.trans (limitL_ok (by rw [HHd.out]; exact HK2.out) (by rw [HHd.out]; exact HVL.out) (of_decide_eq_false HZ.out.symm)))]; exact HPs.out HK0.out, fun _ => by rw [show lm = _ from congrArg Prod.snd (HLm.out.trans (limitL_ok (by rw [HHd.out]; exact HK2.out) (by rw [HHd.out]; exact HVL.out) (of_decide_eq_false HZ.out.symm)))]; exact Qm.e_limit (Q := ⟨its, al, tb, cd, gr, od, -1⟩) HEq.out, J48.out.set5 (ip + 1) 0 0⟩
  ·skip
   have k0 : ((kd : Int) != 2) = true := by rw [bne_iff_ne]; omega
   have HK2 := Lib.hid hk
   clear hk HNk HPs
   go_upto_region 20 with fail
   clear k0 t0x
   have HF := Lib.hid (fun W (hW : w3.grownBy W none) => qfail b o n k T tp W (HH.out W hW) ip xp ap SP.out 11 (by decide))
   obtain ⟨⟨c0, c1, c2, c3, c4⟩, f0, f1, f2, f3, f4⟩ := boxD5 J43.out.st
   go_wp2_with fail
   refine (HF.out _ J43.out.gu).mono ?_
   rintro e w44 ⟨⟨xz, az, rfl, hS⟩, hg⟩
   have J44 := Lib.hid (J43.out.then hg)
   have D44 := Lib.hid hg
   clear hg c0 c1 c2 c3 c4 f0 f1 f2 f3 f4
   clear J43
   have SX := Lib.hid hS
   have HSX : Hid (xz ≠ 0) := Lib.hid (fun h => by have := hS.err0.2 h; cases this)
   clear hS HF
   obtain ⟨⟨c0, c1, c2, c3, c4⟩, f0, f1, f2, f3, f4⟩ := boxD5 J44.out.st
   have K := Lib.hid (J44.out.set5 ip xz az)
   go_upto_region 21 with fail
   generalize ((((((w44.setCell ⟨sb, 0, none⟩ (.slice (some ⟨b, o, none⟩) n k)).setCell ⟨sb, 1, none⟩ (.int .i64 ip)).setCell ⟨sb, 2, none⟩ (.int .i64 0)).setCell ⟨sb, 3, none⟩ (.int .i64 xz)).setCell ⟨sb, 4, none⟩ (.int .i64 az))) = w45 at *
   have J45 := K
   clear K J44 c0 c1 c2 c3 c4 f0 f1 f2 f3 f4
   obtain ⟨⟨c0, c1, c2, c3, c4⟩, f0, f1, f2, f3, f4⟩ := boxD5 J45.out.st
   go_wp2_with fail
   refine (HNw.out _ J45.out.gu xz az).mono ?_
   rintro e w46 ⟨rfl, hg⟩
   have J46 := Lib.hid (J45.out.then hg)
   have D46 := Lib.hid hg
   clear hg c0 c1 c2 c3 c4 f0 f1 f2 f3 f4
   clear J45
   have t1x := fieldD1 (.int .i64 kd) (.string tx) (.int .i64 ps) w46
   go_wp2_with fail
   refine (HRd.out _).mono ?_
   rintro e w47 ⟨rfl, hg⟩
   have hgg := grown_belowX hg none
   have J47 := Lib.hid (J46.out.then hgg)
   clear hg hgg t1x J46
   go_upto_region 22 with fail
   have V48 : Hid ((w47.alloc (.cells #[.int .i64 vk, .int .i64 vn, .string vs] 31)).heap[w47.heap.size]? = some (.cells #[.int .i64 vk, .int .i64 vn, .string vs] 31 (0, 0))) := Lib.hid (alc1 w47 _)
   have hvq : qb < w47.heap.size := (Array.getElem?_eq_some_iff.1 J47.out.q).1
   have J48 := Lib.hid (J47.out.then (World.grownBy_alloc w47 (.cells #[.int .i64 vk, .int .i64 vn, .string vs] 31) none))
   generalize w47.alloc (.cells #[.int .i64 vk, .int .i64 vn, .string vs] 31) = w48 at *
   generalize w47.heap.size = vb at *
   clear J47
   obtain ⟨z, hz⟩ : ∃ z, z = decide (vn < 0 ∨ 1000 < vn) := ⟨_, rfl⟩
   have HZ := Lib.hid hz
   clear hz
   have hsq := J48.out.l2
   go_cut [98] from 12 (fun s98 wx => s98 = .bool z ∧ wx = w48)
   case first =>
    obtain ⟨⟨v0, v1, v2⟩, e0, e1, e2⟩ := boxD3 V48.out
    by_cases h0 : vn < 0
    ·go_wp2_with fail
     go_meet
     exact ⟨by rw [HZ.out, decide_eq_true (.inl h0)], rfl⟩
    ·by_cases h1 : 1000 < vn
     ·go_wp2_with fail
      go_meet
      exact ⟨by rw [HZ.out, decide_eq_true (.inr h1)], rfl⟩
     ·go_wp2_with fail
      go_meet
      exact ⟨by rw [HZ.out, decide_eq_false (by omega)], rfl⟩
   case rest =>
   obtain ⟨rfl, hwc⟩ := hcut
   rw [hwc]
   clear hwc
   cases z with
   | true =>
    have HF := Lib.hid (fun W (hW : w3.grownBy W none) => qfail b o n k T (tp.wrong 11) W (HH.out W hW) ip xz az SX.out 1 (by decide))
    obtain ⟨⟨c0, c1, c2, c3, c4⟩, f0, f1, f2, f3, f4⟩ := boxD5 J48.out.st
    go_wp2_with fail
    refine (HF.out _ J48.out.gu).mono ?_
    rintro e w49 ⟨⟨xf, af, rfl, hS⟩, hg⟩
    have J49 := Lib.hid (J48.out.then hg)
    have D49 := Lib.hid hg
    clear hg c0 c1 c2 c3 c4 f0 f1 f2 f3 f4
    clear J48
    have V49 := Lib.hid (blkD D49.out V48.out)
    have SF := Lib.hid hS
    have hx : xf ≠ 0 := fun h => by have := hS.err0.2 h; cases this
    clear hS HF V48
    obtain ⟨⟨c0, c1, c2, c3, c4⟩, f0, f1, f2, f3, f4⟩ := boxD5 J49.out.st
    have K := Lib.hid (J49.out.set5 ip xf af)
    go_upto_region 24 with fail
    have V50 : Hid (((((((w49.setCell ⟨sb, 0, none⟩ (.slice (some ⟨b, o, none⟩) n k)).setCell ⟨sb, 1, none⟩ (.int .i64 ip)).setCell ⟨sb, 2, none⟩ (.int .i64 0)).setCell ⟨sb, 3, none⟩ (.int .i64 xf)).setCell ⟨sb, 4, none⟩ (.int .i64 af))).heap[vb]? = some (.cells #[.int .i64 vk, .int .i64 vn, .string vs] 31 (0, 0))) := Lib.hid (blkR V49.out (grownD5 w49 sb (.slice (some ⟨b, o, none⟩) n k) (.int .i64 ip) (.int .i64 (0 : Int)) (.int .i64 xf) (.int .i64 af)) (by omega))
    generalize ((((((w49.setCell ⟨sb, 0, none⟩ (.slice (some ⟨b, o, none⟩) n k)).setCell ⟨sb, 1, none⟩ (.int .i64 ip)).setCell ⟨sb, 2, none⟩ (.int .i64 0)).setCell ⟨sb, 3, none⟩ (.int .i64 xf)).setCell ⟨sb, 4, none⟩ (.int .i64 af))) = w50 at *
    have J50 := K
    clear K J49 V49 c0 c1 c2 c3 c4 f0 f1 f2 f3 f4
    have HXF := Lib.hid hx
    have HSt := fun W => rstep_bad b o n k W ip 0 xf af hx
    clear hx
    obtain ⟨⟨v0, v1, v2⟩, e0, e1, e2⟩ := boxD3 V50.out
    obtain ⟨p15, g15⟩ := J50.out.cq 15 _ (Qm.c15' _)
    go_upto_region 25 with fail
    have J51 := Lib.hid (J50.out.setL vn)
    generalize w50.setCell ⟨qb, 15, none⟩ (.int .i64 vn) = w51 at *
    clear v0 v1 v2 e0 e1 e2 p15 g15 J50 V50
    obtain ⟨⟨c0, c1, c2, c3, c4⟩, f0, f1, f2, f3, f4⟩ := boxD5 J51.out.st
    go_wp2_with fail
    refine (HSt w51).mono ?_
    rintro e w52 ⟨rfl, hg⟩
    have J52 := Lib.hid (J51.out.then hg)
    have D52 := Lib.hid hg
    clear hg c0 c1 c2 c3 c4 f0 f1 f2 f3 f4
    clear J51
    obtain ⟨⟨c0, c1, c2, c3, c4⟩, f0, f1, f2, f3, f4⟩ := boxD5 J52.out.st
    go_wp2_with fail
    go_meet
    exact Lib.hid ⟨ip, xf, af, _, by rw [show t6 = _ from congrArg Prod.fst (HLm.out.trans (limitL_no (by rw [HHd.out]; exact HK2.out)))]; exact SF.out.swap HXF.out SX.out.ok (fun h => HSX.out (SX.out.err0.1 h)) (SX.out.failed HSX.out), fun h0 => absurd h0 HXF.out, J52.out.set5 ip xf af⟩
   | false =>
    have HSt := fun W => rstep_bad b o n k W ip 0 xz az HSX.out
    obtain ⟨⟨v0, v1, v2⟩, e0, e1, e2⟩ := boxD3 V48.out
    obtain ⟨p15, g15⟩ := J48.out.cq 15 _ (Qm.c15' _)
    go_upto_region 25 with fail
    have J49 := Lib.hid (J48.out.setL vn)
    generalize w48.setCell ⟨qb, 15, none⟩ (.int .i64 vn) = w49 at *
    clear v0 v1 v2 e0 e1 e2 p15 g15 J48 V48
    obtain ⟨⟨c0, c1, c2, c3, c4⟩, f0, f1, f2, f3, f4⟩ := boxD5 J49.out.st
    go_wp2_with fail
    refine (HSt w49).mono ?_
    rintro e w50 ⟨rfl, hg⟩
    have J50 := Lib.hid (J49.out.then hg)
    have D50 := Lib.hid hg
    clear hg c0 c1 c2 c3 c4 f0 f1 f2 f3 f4
    clear J49
    obtain ⟨⟨c0, c1, c2, c3, c4⟩, f0, f1, f2, f3, f4⟩ := boxD5 J50.out.st
    go_wp2_with fail
    go_meet
    exact Lib.hid ⟨ip, xz, az, _, by rw [show t6 = _ from congrArg Prod.fst (HLm.out.trans (limitL_no (by rw [HHd.out]; exact HK2.out)))]; exact SX.out, fun h0 => absurd h0 HSX.out, J50.out.set5 ip xz az⟩
 case rest =>
 obtain ⟨i6, x6, a6, y6, hS, hE, hJ⟩ := hcut.out
 obtain ⟨w47, hw47⟩ : ∃ w47, w47 = wc := ⟨_, rfl⟩
 rw [← hw47] at hJ ⊢
 have J47 := Lib.hid hJ
 have S6 := Lib.hid hS
 have E6 := Lib.hid hE
 clear hcut hS hE hJ hw47 J40
 clear S5 E5 H6
 have HNw := Lib.hid (fun W (hW : w3.grownBy W none) => qnow b o n k T t6 W (HH.out W hW) i6 x6 a6 S6.out)
 have HHd : Hid (x6 = 0 → t6.hd = tkA T i6) := Lib.hid (fun h2 => by have h1 := S6.out; subst h2; exact h1.hd)
 have HFn : Hid (tq = t6.fin) := Lib.hid HQ2.out.1
 have HF0 : Hid ((tkA T i6).kind = 0 → SR n T tq i6 x6 a6) := Lib.hid (fun hk => by
  have he : tq = t6 := by
   rw [HFn.out]; unfold RS.fin; rw [if_pos]
   by_cases hx : x6 = 0
   ·rw [HHd.out hx]; exact hk
   ·exact (S6.out.bad hx).2.1
  rw [he]; exact S6.out)
 have HF1 : Hid ((tkA T i6).kind ≠ 0 → ∀ c a : Nat, SR n T (t6.wrong 11) i6 c a → SR n T tq i6 c a) := Lib.hid (fun hk c a h => by
  by_cases hx : x6 = 0
  ·have he : tq = t6.wrong 11 := by rw [HFn.out]; unfold RS.fin; rw [if_neg (by rw [HHd.out hx]; exact hk)]
   rw [he]; exact h
  ·have he : tq = t6 := by rw [HFn.out]; unfold RS.fin; rw [if_pos (S6.out.bad hx).2.1]
   rw [he]; exact h.swap (fun e => by have := h.err0.2 e; cases this) S6.out.ok (fun e => hx (S6.out.err0.1 e)) (S6.out.failed hx))
 have HF := Lib.hid (fun W (hW : w3.grownBy W none) => qfail b o n k T t6 W (HH.out W hW) i6 x6 a6 S6.out 11 (by decide))
 generalize tkA T i6 = tk at *
 obtain ⟨kd, tx, ps⟩ := tk
 simp only at HNw HF0 HF1
 obtain ⟨⟨c0, c1, c2, c3, c4⟩, f0, f1, f2, f3, f4⟩ := boxD5 J47.out.st
 go_wp2_with fail
 refine (HNw.out _ J47.out.gu).mono ?_
 rintro e w48 ⟨rfl, hg⟩
 have J48 := Lib.hid (J47.out.then hg)
 have D48 := Lib.hid hg
 clear hg c0 c1 c2 c3 c4 f0 f1 f2 f3 f4
 clear J47
 have t0x := fieldD0 (.int .i64 kd) (.string tx) (.int .i64 ps) w48
 clear HNw HHd HFn
 go_upto_if 109 with fail
 clear t0x
 go_cut [] from 10 (fun wx => Hid (QIs b o n k T w w3 sb qb tq ⟨its, al, tb, cd, gr, od, lm⟩ wx))
 case first =>
  by_cases hk : kd = 0
  ·skip
   have HK := Lib.hid hk
   have k0 : ((kd : Int) != 0) = false := by rw [hk]; rfl
   clear hk
   go_wp2_with fail
   go_meet
   exact Lib.hid ⟨i6, x6, a6, y6, HF0.out HK.out, E6.out, J48.out⟩
  ·skip
   have HK := Lib.hid hk
   have k0 : ((kd : Int) != 0) = true := ne_nat hk
   clear hk
   go_upto_region 27 with fail
   clear k0
   obtain ⟨⟨c0, c1, c2, c3, c4⟩, f0, f1, f2, f3, f4⟩ := boxD5 J48.out.st
   go_wp2_with fail
   refine (HF.out _ J48.out.gu).mono ?_
   rintro e w49 ⟨⟨xf, af, rfl, hS⟩, hg⟩
   have J49 := Lib.hid (J48.out.then hg)
   have D49 := Lib.hid hg
   clear hg c0 c1 c2 c3 c4 f0 f1 f2 f3 f4
   clear J48
   have SF := Lib.hid hS
   have hx : xf ≠ 0 := fun h => by have := hS.err0.2 h; cases this
   have HXF := Lib.hid hx
   clear hS hx
   obtain ⟨⟨c0, c1, c2, c3, c4⟩, f0, f1, f2, f3, f4⟩ := boxD5 J49.out.st
   go_wp2_with fail
   go_meet
   exact Lib.hid ⟨i6, xf, af, y6, HF1.out HK.out _ _ SF.out, fun h0 => absurd h0 HXF.out, J49.out.set5 i6 xf af⟩
 case rest =>
 obtain ⟨i7, x7, a7, y7, hS, hE, hJ⟩ := hcut.out
 obtain ⟨w55, hw55⟩ : ∃ w55, w55 = wc := ⟨_, rfl⟩
 rw [← hw55] at hJ ⊢
 have J55 := Lib.hid hJ
 have S7 := Lib.hid hS
 have E7 := Lib.hid hE
 clear hcut hS hE hJ hw55 J48
 clear S6 E6 HF0 HF1 HF
 by_cases hx : x7 = 0
 ·skip
  have k0 : ((x7 : Int) != 0) = false := by rw [hx]; rfl
  have HX := Lib.hid hx
  have HE : Hid (tq.err = none) := Lib.hid (S7.out.err0.2 hx)
  clear hx
  obtain ⟨⟨c0, c1, c2, c3, c4⟩, f0, f1, f2, f3, f4⟩ := boxD5 J55.out.st
  go_upto_region 30 with fail
  clear k0 c0 c1 c2 c3 c4 f0 f1 f2 f3 f4
  have hl1 := J55.out.l1
  have hl2 := J55.out.l2
  have y7s := y7.c_size
  have y7a := y7.c_all
  obtain ⟨cs, HCS⟩ : ∃ cs, cs = y7.c := ⟨_, rfl⟩
  have JQ : Hid (w55.heap[qb]? = some (.cells cs 37 (0, 0))) := Lib.hid (by rw [HCS]; exact J55.out.q)
  rw [← HCS] at y7s y7a
  have HCS2 := Lib.hid HCS
  clear HCS
  go_wp2_with first
   | (refine wpList_load_row rfl 37 (.tmp 9) rfl qb rfl 37 cs (0, 0) _ JQ.out Try.underlying37 rfl (by rw [y7s]; exact query_size) ?_)
   | (refine wpList_store_row rfl 37 (.tmp 2) (.tmp 120) rfl w.heap.size cs rfl rfl 37 (Qm.z 0).c J55.out.res (by rw [y7s]; exact query_size) (by rw [y7s, Qm.c_size]) y7a ?_)
  refine bodyPost_ret (results_qm3 rfl _ _ w.heap.size y7 rfl (by rw [← HCS2.out]; exact setRow_heap _ _ _ _ _ _ J55.out.res)) rfl (.inl ⟨y7, q, ?_, rfl, ?_, ?_, ?_⟩)
  ·rw [HP.out, HE.out]
  ·rw [HQ2.out.2]; exact E7.out HX.out
  ·exact (J55.out.mem.keep (.of_grown2 (grown_setRow _ _ _) (fun j hj => by omega))).mono (fun j _ hj => by omega)
  ·exact grown_thenX J55.out.g (grown_setRow _ _ _) (fun j e => by cases e; exact Nat.le_refl _)
 ·skip
  have k0 : ((x7 : Int) != 0) = true := ne_nat hx
  have HX := Lib.hid hx
  obtain ⟨e', he'⟩ : ∃ e', tq.err = some e' := by
   cases h : tq.err with
   | none => exact absurd (S7.out.err0.1 h) hx
   | some e' => exact ⟨e', rfl⟩
  have HE := Lib.hid he'
  clear hx he'
  obtain ⟨⟨c0, c1, c2, c3, c4⟩, f0, f1, f2, f3, f4⟩ := boxD5 J55.out.st
  go_upto_region 29 with fail
  clear k0 c0 c1 c2 c3 c4 f0 f1 f2 f3 f4
  have hl1 := J55.out.l1
  refine wp_region_held_drew (S := (fun W => Hid (w55.grownBy W (some w.heap.size)))) (by kernel_rfl) (Lib.hid (grown_anyD (grown_drewT (grown_reflX _ _)) _)) (fun hHeld => ?_)
  refine TKB (i := 0) (v := ?vaz) rfl ?yaz ?raz
  case yaz => (intro w hSw; (try dsimp only at hSw); go_simp; try with_reducible rfl)
  simp only [Act.put, List.getElem_toArray, List.getElem_cons_succ, List.getElem_cons_zero, List.size_toArray, List.length_cons, List.length_nil, Nat.reduceAdd, Array.replicate, List.replicate, List.setIfInBounds_toArray, List.set_cons_zero, List.set_cons_succ]
  refine TKB (i := 1) (v := ?vbz) rfl ?ybz ?rbz
  case ybz => (intro w hSw; (try dsimp only at hSw); go_simp; try with_reducible rfl)
  simp only [Act.put, List.getElem_toArray, List.getElem_cons_succ, List.getElem_cons_zero, List.size_toArray, List.length_cons, List.length_nil, Nat.reduceAdd, Array.replicate, List.replicate, List.setIfInBounds_toArray, List.set_cons_zero, List.set_cons_succ]
  refine TKB (i := 2) (v := ?vcz) rfl ?ycz ?rcz
  case ycz => (intro w hSw; obtain ⟨⟨c0, c1, c2, c3, c4⟩, f0, f1, f2, f3, f4⟩ := boxD5 (blkR J55.out.st hSw.out (by omega)); clear hSw; go_simp; try with_reducible rfl)
  simp only [Act.put, List.getElem_toArray, List.getElem_cons_succ, List.getElem_cons_zero, List.size_toArray, List.length_cons, List.length_nil, Nat.reduceAdd, Array.replicate, List.replicate, List.setIfInBounds_toArray, List.set_cons_zero, List.set_cons_succ]
  refine TKB (i := 3) (v := ?vdz) rfl ?ydz ?rdz
  case ydz => (intro w hSw; (try dsimp only at hSw); go_simp; try with_reducible rfl)
  simp only [Act.put, List.getElem_toArray, List.getElem_cons_succ, List.getElem_cons_zero, List.size_toArray, List.length_cons, List.length_nil, Nat.reduceAdd, Array.replicate, List.replicate, List.setIfInBounds_toArray, List.set_cons_zero, List.set_cons_succ]
  refine TKB (i := 4) (v := ?vez) rfl ?yez ?rez
  case yez => (intro w hSw; obtain ⟨⟨c0, c1, c2, c3, c4⟩, f0, f1, f2, f3, f4⟩ := boxD5 (blkR J55.out.st hSw.out (by omega)); clear hSw; go_simp; try with_reducible rfl)
  simp only [Act.put, List.getElem_toArray, List.getElem_cons_succ, List.getElem_cons_zero, List.size_toArray, List.length_cons, List.length_nil, Nat.reduceAdd, Array.replicate, List.replicate, List.setIfInBounds_toArray, List.set_cons_zero, List.set_cons_succ]
  refine RD1 (i := 5) rfl (fun K' hK => ?_)
  obtain ⟨wd, hwd⟩ : ∃ wd, wd = w55.drew := ⟨_, rfl⟩
  have gd : w55.grownBy wd none := by rw [hwd]; exact grown_drewT (grown_reflX _ _)
  have JD := Lib.hid (J55.out.then gd)
  rw [← hwd]
  refine wp_store_row 37 (.tmp 2) (.tmp 115) rfl w.heap.size (Qm.z 0).c (by rfl) (by rfl) 37 (Qm.z 0).c JD.out.res query_size rfl (Qm.c_all _) ?_
  have ZD : Hid (w55.grownBy _ (some w.heap.size)) := Lib.hid ((grown_anyD gd _).trans (grown_setRow wd w.heap.size (Qm.z 0).c))
  clear hwd gd
  refine hK.out _ _ ZD (fun hHeld => ?_)
  clear hK K'
  simp only [Act.put, List.getElem_toArray, List.getElem_cons_succ, List.getElem_cons_zero, List.size_toArray, List.length_cons, List.length_nil, Nat.reduceAdd, Array.replicate, List.replicate, List.setIfInBounds_toArray, List.set_cons_zero, List.set_cons_succ]
  refine TKB (i := 6) (v := ?vfz) rfl ?yfz ?rfz
  case yfz => (intro w hSw; (try dsimp only at hSw); go_simp; try with_reducible rfl)
  simp only [Act.put, List.getElem_toArray, List.getElem_cons_succ, List.getElem_cons_zero, List.size_toArray, List.length_cons, List.length_nil, Nat.reduceAdd, Array.replicate, List.replicate, List.setIfInBounds_toArray, List.set_cons_zero, List.set_cons_succ]
  refine TKB (i := 7) (v := ?vgz) rfl ?ygz ?rgz
  case ygz => (intro w hSw; (try dsimp only at hSw); go_simp; try with_reducible rfl)
  simp only [Act.put, List.getElem_toArray, List.getElem_cons_succ, List.getElem_cons_zero, List.size_toArray, List.length_cons, List.length_nil, Nat.reduceAdd, Array.replicate, List.replicate, List.setIfInBounds_toArray, List.set_cons_zero, List.set_cons_succ]
  refine wpAnyH_done (by kernel_rfl) ?_ _
  go_wp2_with fail
  exact bodyPost_ret (results_qm3 rfl _ _ w.heap.size (Qm.z 0) rfl (setRow_heap _ _ _ _ _ _ JD.out.res)) rfl (.inr ⟨a7, x7, e', by rw [HP.out, HE.out], HX.out, rfl, grown_thenX JD.out.g (grown_setRow _ _ _) (fun j e => by cases e; exact Nat.le_refl _)⟩)
end Go.Proofs.Ytfambadamebjjaa
