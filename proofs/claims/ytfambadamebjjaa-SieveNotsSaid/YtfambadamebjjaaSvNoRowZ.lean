import Derived.Test.YtfambadamebjjaaZs19
import Derived.Deep.CutRange
import Derived.Test.YtfambadamebjjaaZs42
import Derived.Test.YtfambadamebjjaaZs44
import Derived.Test.YtfambadamebjjaaRows
set_option linter.unusedSimpArgs false
set_option linter.unusedVariables false
namespace Go.Proofs.Ytfambadamebjjaa
open Go.RowKit
set_option linter.unusedVariables false
set_option linter.unusedSimpArgs false
theorem tr_infoT : (Try.prog.info? 43).map (fun i => (i.zero, i.size, i.bytes)) = some (some (.int .i64 0), 1, 8) := by kernel_rfl
theorem tr_el : ElT 60 43 (.int .i64 0) 1 8 := ⟨Try.underlying60, info_partsT tr_infoT, by decide, by decide, by decide⟩
theorem trs_take (l : List Cl) (r : List Vv) (ks : List Pm) (k : Nat) (hk : k < ks.length) : trPs l r (Pm.es (ks.take (k + 1))) = trPs l r (Pm.es (ks.take k)) ++ [trP l r (ks.getD k default).e] := by
 rw [Pm.es_map, Pm.es_map, trPs_map, trPs_map, List.take_add_one, List.map_append, List.map_append, List.getD_eq_getElem?_getD, List.getElem?_eq_getElem hk]
 rfl
structure TwoB (w0 W : World) (A B : Nat) (x y : Vl) : Prop where
 g : w0.grownBy W none
 ne : A ≠ B
 la : w0.heap.size ≤ A
 lb : w0.heap.size ≤ B
 a : W.heap[A]? = some (.cells #[.int .i64 x.k, .int .i64 x.n, .string x.s] 31 (0, 0))
 b : W.heap[B]? = some (.cells #[.int .i64 y.k, .int .i64 y.n, .string y.s] 31 (0, 0))
theorem TwoB.keep {w0 W W' : World} {A B : Nat} {x y : Vl} (h : TwoB w0 W A B x y) (hg : W.grownBy W' none) : TwoB w0 W' A B x y :=
 ⟨h.g.trans hg, h.ne, h.la, h.lb, blkD hg h.a, blkD hg h.b⟩
theorem set3_blk {W : World} {A : Nat} {u0 u1 u2 : Value} {T : TypeId} (h : W.heap[A]? = some (.cells #[u0, u1, u2] T (0, 0))) (v0 v1 v2 : Value) : (((W.setCell ⟨A, 0, none⟩ v0).setCell ⟨A, 1, none⟩ v1).setCell ⟨A, 2, none⟩ v2).heap[A]? = some (.cells #[v0, v1, v2] T (0, 0)) :=
 heap_setCell_same _ _ 2 _ _ v2 (heap_setCell_same _ _ 1 _ _ v1 (heap_setCell_same _ _ 0 _ _ v0 h))
theorem set3_other {W : World} {A B : Nat} (hn : A ≠ B) (o : Option Obj) (h : W.heap[B]? = o) (v0 v1 v2 : Value) : (((W.setCell ⟨A, 0, none⟩ v0).setCell ⟨A, 1, none⟩ v1).setCell ⟨A, 2, none⟩ v2).heap[B]? = o := by
 have hB : ∀ (W : World) i v, (W.setCell ⟨A, i, none⟩ v).heap[B]? = W.heap[B]? := fun W i v => Below.heap_setCell _ _ _ _ (by dsimp only; omega)
 rw [hB, hB, hB]; exact h
theorem TwoB.setA {w0 W : World} {A B : Nat} {x y : Vl} (h : TwoB w0 W A B x y) (z : Vl) : TwoB w0 (((W.setCell ⟨A, 0, none⟩ (.int .i64 z.k)).setCell ⟨A, 1, none⟩ (.int .i64 z.n)).setCell ⟨A, 2, none⟩ (.string z.s)) A B z y :=
 ⟨grown_setnewX (grown_setnewX (grown_setnewX h.g h.la 0 _) h.la 1 _) h.la 2 _, h.ne, h.la, h.lb, set3_blk h.a _ _ _, set3_other h.ne _ h.b _ _ _⟩
theorem TwoB.setB {w0 W : World} {A B : Nat} {x y : Vl} (h : TwoB w0 W A B x y) (z : Vl) : TwoB w0 (((W.setCell ⟨B, 0, none⟩ (.int .i64 z.k)).setCell ⟨B, 1, none⟩ (.int .i64 z.n)).setCell ⟨B, 2, none⟩ (.string z.s)) A B x z :=
 ⟨grown_setnewX (grown_setnewX (grown_setnewX h.g h.lb 0 _) h.lb 1 _) h.lb 2 _, h.ne, h.la, h.lb, set3_other h.ne.symm _ h.a _ _ _, set3_blk h.b _ _ _⟩
set_option maxRecDepth 100000 in
set_option maxHeartbeats 12800000 in
theorem refTruth_any (TN : ByteArray) (ta : Option Addr) (tcap : Nat) (l : List Cl) (TK : Int) (ra : Option Addr) (rcap : Nat) (rv : List Vv) (S : Nat → Prop) (hfine : ∀ v ∈ rv, (vlV v).fine) (hlen : rv.length = l.length) : ∀ (M : Nat) (x : Pm) (w : World), M ≤ 100000 → x.n ≤ M → PmS S w x → x.e.w1 → x.e.gd → ColsAt w.heap.size w ta l → VvAt w.heap.size w ra rv →
  Calls Try.prog 9 #[.agg #[.string TN, .slice ta l.length tcap, .int .i64 TK], x.v, .slice ra rv.length rcap] w fun e w' => e = .returned (.int .i64 (trP l rv x.e)) ∧ w.grownBy w' none
 | 0, .mk _ _ _ _ _ _ _ _ _ _ _ _, _, _, hN, _, _, _, _, _ => by simp [Pm.n] at hN
 | M + 1, x, w, hM, hN, hx, hw1, hgd, hC, hV => by
  have HIH := Lib.hid (fun i (hi : i < x.kids.length) W (hW : w.grownBy W none) => refTruth_any TN ta tcap l TK ra rcap rv S hfine hlen M (x.kids.getD i default) W (by omega) (by
   have := ns_memS hi
   rw [Pm.n_eq] at hN
   omega) (((PmSs_iff x.kids).1 (by cases x; exact hx.2.2.2.2) _ (by rw [List.getD, List.getElem?_eq_getElem hi]; exact List.getElem_mem hi)).keep (.of hW)) (by
    obtain ⟨k1, c1, r1, v1, o1, la1, lc1, l1, ka1, kc1, ks1, p1⟩ := x
    have h2 := hw1.2
    rw [Prd.w1s_iff] at h2
    exact h2 _ (by rw [Pm.es_map]; exact List.mem_map_of_mem (by show ks1.getD i default ∈ ks1; rw [List.getD, List.getElem?_eq_getElem (show i < ks1.length from hi)]; exact List.getElem_mem _))) (by
    obtain ⟨k1, c1, r1, v1, o1, la1, lc1, l1, ka1, kc1, ks1, p1⟩ := x
    have h2 := hgd.2.2.2.2
    rw [Prd.gds_iff] at h2
    exact h2 _ (by rw [Pm.es_map]; exact List.mem_map_of_mem (by show ks1.getD i default ∈ ks1; rw [List.getD, List.getElem?_eq_getElem (show i < ks1.length from hi)]; exact List.getElem_mem _))) ((hC.keep hW (by simp)).mono hW.size) ((hV.keep hW (by simp)).mono1 hW.size))
  obtain ⟨k1, c1, r1, ⟨vk1, vn1, vs1⟩, o1, la1, lc1, l1, ka1, kc1, ks1, p1⟩ := x
  obtain ⟨hRw, hlc, hKs, hkc, _⟩ := hx
  have HW1 := Lib.hid hw1.1
  have HGD := Lib.hid (And.intro hgd.1 (And.intro hgd.2.1 (And.intro hgd.2.2.1 hgd.2.2.2.1)))
  obtain ⟨r, hr⟩ : ∃ r, r = trP l rv (Pm.e (.mk k1 c1 r1 ⟨vk1, vn1, vs1⟩ o1 la1 lc1 l1 ka1 kc1 ks1 p1)) := ⟨_, rfl⟩
  rw [← hr]
  have hr2 : r = kindT k1 r1 (colV c1 l rv ⟨0, 0, ⟨#[]⟩⟩) (colV o1 l rv ⟨vk1, vn1, vs1⟩) ⟨vk1, vn1, vs1⟩ l1 (trPs l rv (Pm.es ks1)) := hr
  have HR := Lib.hid hr2
  show Calls Try.prog 9 #[.agg #[.string TN, .slice ta l.length tcap, .int .i64 TK], .agg #[.int .i64 (k1 : Nat), .string c1, .int .i64 (r1 : Nat), .int .i64 vk1, .int .i64 vn1, .string vs1, .string o1, .slice la1 l1.length lc1, .slice ka1 ks1.length kc1, .int .i64 (p1 : Nat)], .slice ra rv.length rcap] w _
  have g1 := gq_al (gq_al (grown_reflT w none) (.cells #[.string TN, .slice ta l.length tcap, .int .i64 TK] 24)) (.cells #[.int .i64 (k1 : Nat), .string c1, .int .i64 (r1 : Nat), .int .i64 vk1, .int .i64 vn1, .string vs1, .string o1, .slice la1 l1.length lc1, .slice ka1 ks1.length kc1, .int .i64 (p1 : Nat)] 34)
  have TA := Lib.hid (alc2a w (.cells #[.string TN, .slice ta l.length tcap, .int .i64 TK] 24) (.cells #[.int .i64 (k1 : Nat), .string c1, .int .i64 (r1 : Nat), .int .i64 vk1, .int .i64 vn1, .string vs1, .string o1, .slice la1 l1.length lc1, .slice ka1 ks1.length kc1, .int .i64 (p1 : Nat)] 34))
  have TP := Lib.hid (alc2b w (.cells #[.string TN, .slice ta l.length tcap, .int .i64 TK] 24) (.cells #[.int .i64 (k1 : Nat), .string c1, .int .i64 (r1 : Nat), .int .i64 vk1, .int .i64 vn1, .string vs1, .string o1, .slice la1 l1.length lc1, .slice ka1 ks1.length kc1, .int .i64 (p1 : Nat)] 34))
  have G1 := Lib.hid g1
  have HCl := Lib.hid (fun (c : ByteArray) W (hW : w.grownBy W none) => refColumn_any TN ta tcap l TK c W ((hC.keep hW (by simp)).mono hW.size))
  have HRw := Lib.hid (fun W (hW : w.grownBy W none) => hRw.keep (w' := W) (.of hW))
  have HKs := Lib.hid (fun W (hW : w.grownBy W none) => hKs.keep (w' := W) (.of hW))
  have HV := Lib.hid hV
  have HFine := Lib.hid hfine
  have HGS := Lib.hid (show Prd.gds (Pm.es ks1) from hgd.2.2.2.2)
  simp only [Pm.kids] at HIH
  generalize hn : ks1.length = n at *
  generalize hln : l1.length = ln at *
  generalize htn : l.length = tn at *
  generalize hrn : rv.length = rn at *
  have Hn := Lib.hid hn
  have hn5 : n ≤ 100000 := by rw [← hn]; have := len_nsS ks1; have h2 : (Pm.mk k1 c1 r1 ⟨vk1, vn1, vs1⟩ o1 la1 lc1 l1 ka1 kc1 ks1 p1).n = 1 + Pm.ns ks1 := Pm.n_eq _; omega
  have Hln := Lib.hid hln
  have HLn := Lib.hid hlen
  have Htn := Lib.hid htn
  have Hrn := Lib.hid hrn
  clear hM hN hw1 hgd hC hRw hKs hr hr2 g1 hn hln hV hfine hlen htn hrn
  go_enter Try.func9, Try.ntmps9
  go_upto_region 1 with fail
  change Code.wp _ _ _ _ ((w.alloc (.cells #[.string TN, .slice ta tn tcap, .int .i64 TK] 24)).alloc (.cells #[.int .i64 (k1 : Nat), .string c1, .int .i64 (r1 : Nat), .int .i64 vk1, .int .i64 vn1, .string vs1, .string o1, .slice la1 ln lc1, .slice ka1 n kc1, .int .i64 (p1 : Nat)] 34))
  generalize (w.alloc (.cells #[.string TN, .slice ta tn tcap, .int .i64 TK] 24)).alloc (.cells #[.int .i64 (k1 : Nat), .string c1, .int .i64 (r1 : Nat), .int .i64 vk1, .int .i64 vn1, .string vs1, .string o1, .slice la1 ln lc1, .slice ka1 n kc1, .int .i64 (p1 : Nat)] 34) = w1 at *
  obtain ⟨⟨p0, p1x, p2, p3, p4⟩, p5, p6, p7, p8, p9⟩ := ten_of TP.out
  go_wp2_with fail
  clear p0 p1x p2 p3 p4 p5 p6 p7 p8 p9
  go_loopw [7, 20] (fun s7 s20 wr => ∃ (k : Nat) (a : Ptr) (c : Nat), s7 = .slice a k c ∧ s20 = .int .i64 k ∧ k ≤ n ∧ Hid (w1.grownBy wr none) ∧ Hid (Win 1 wr a c k ((trPs l rv (Pm.es (ks1.take k))).map (Value.int .i64))) ∧ Hid (∀ j, bk a j → w1.heap.size ≤ j)) (fun _ s20 _ => n - (intOf s20).toNat)
  case atStart => exact ⟨0, none, 0, rfl, rfl, Nat.zero_le _, Lib.hid (grown_reflT _ _), Lib.hid (Win.nil 1 _), Lib.hid (fun j hj => by simp [bk] at hj)⟩
  case round =>
   obtain ⟨k, a, c, rfl, rfl, hk, KG, JW, JF⟩ := hrel
   by_cases hlt : k < n
   ·obtain ⟨b, off, rfl, _, _, hc⟩ := (HKs.out _ G1.out).elem Pm.c_len (by decide) (i := k) (by rw [Hn.out]; exact hlt)
    have RX : Hid (w1.rangeAt b (off + k * 10) (ks1.getD k default).c) := Lib.hid fun j u hj => hc j u hj
    have HI := Lib.hid (fun W (hW : w1.grownBy W none) => HIH.out k (by first | exact hlt | (rw [Hn.out]; exact hlt)) W (G1.out.trans hW))
    have HT := Lib.hid (trs_take l rv ks1 k (by rw [Hn.out]; exact hlt))
    generalize ks1.getD k default = x at *
    generalize trP l rv x.e = z at *
    have i0 : (0 : Int) ≤ k := by omega
    have i1 : (k : Int) < n := by omega
    have i2 : (k : Int) < kc1 := by omega
    have TPr := Lib.hid (blkD KG.out TP.out)
    obtain ⟨⟨p0, p1x, p2, p3, p4⟩, p5, p6, p7, p8, p9⟩ := ten_of TPr.out
    clear hc
    go_upto_region 5 with fail
    clear p0 p1x p2 p3 p4 p5 p6 p7 p8 p9
    refine wp_region_held_drew (S := (fun W => Hid (w1.grownBy W none))) (by kernel_rfl) (Lib.hid (grown_drewT KG.out)) (fun hHeld => ?_)
    refine TKA (i := 1) (v := .agg #[.string TN, .slice ta tn tcap, .int .i64 TK]) rfl (yieldsIf_load_mid (by rfl) _ _ rfl w.heap.size 0 rfl _ _ (fun W hS => range_rowD (blkD hS.out TA.out)) Try.underlying24 rfl tab_size) ?_
    go_simp
    refine TKB (i := 0) (v := ?vaz) rfl ?yaz ?raz
    case yaz => (intro w hSw; (try dsimp only at hSw); go_simp; try with_reducible rfl)
    go_simp
    refine TKB (i := 2) (v := ?vbz) rfl ?ybz ?rbz
    case ybz => (intro w hSw; (try dsimp only at hSw); go_simp; try with_reducible rfl)
    go_simp
    refine TKB (i := 3) (v := ?vcz) rfl ?ycz ?rcz
    case ycz => (intro w hSw; obtain ⟨⟨p0, p1x, p2, p3, p4⟩, p5, p6, p7, p8, p9⟩ := ten_of (blkD hSw.out TP.out); clear hSw; go_simp; try with_reducible rfl)
    go_simp
    refine TKB (i := 4) (v := ?vdz) rfl ?ydz ?rdz
    case ydz => (intro w hSw; (try dsimp only at hSw); go_simp; try with_reducible rfl)
    go_simp
    refine TKB (i := 5) (v := ?vez) rfl ?yez ?rez
    case yez => (intro w hSw; (try dsimp only at hSw); go_simp; (try rw [if_pos ⟨i0, i1⟩]); try with_reducible rfl)
    go_simp
    refine TKA (i := 6) (v := .agg x.c.toArray) rfl (yieldsIf_load_mid (by rfl) _ _ rfl b (off + k * 10) rfl x.c _ (fun W hS j u hj => hS.out.cell (RX.out j u hj) (by simp)) Try.underlying34 rfl (by rw [Pm.c_len]; exact pred_size)) ?_
    go_simp
    refine TKB (i := 7) (v := ?vfz) rfl ?yfz ?rfz
    case yfz => (intro w hSw; (try dsimp only at hSw); go_simp; try with_reducible rfl)
    go_simp
    refine RD1 (i := 8) rfl (fun K' hK => ?_)
    go_simp
    go_at_call 9
    refine (HI.out _ (grown_drewT KG.out)).mono ?_
    rintro e w5 ⟨rfl, hg⟩
    have Z5 : Hid (w1.grownBy w5 none) := Lib.hid ((grown_drewT KG.out).trans hg)
    have W5 := Lib.hid (JW.out.keepG ((grown_drewT (grown_reflX wr none)).trans hg))
    have F5 := Lib.hid (show w1.heap.size ≤ w5.heap.size from Z5.out.size)
    clear hg
    refine hK.out _ _ Z5 (fun hHeld => ?_)
    clear hK K'
    go_simp
    refine RD1 (i := 9) rfl (fun K' hK => ?_)
    go_simp
    obtain ⟨wb, hwb⟩ : ∃ wb, wb = w5.alloc (.cells #[.int .i64 z] 43) := ⟨_, rfl⟩
    have gb : w5.grownBy wb none := by rw [hwb]; exact World.grownBy_alloc _ _ none
    have ZB : Hid (w1.grownBy wb none) := Lib.hid (Z5.out.trans gb)
    have WB := Lib.hid (W5.out.keepG gb)
    have NB : Hid (wb.heap[w5.heap.size]? = some (.cells #[.int .i64 z] 43 (0, 0))) := Lib.hid (by rw [hwb]; exact heap_alloc_new w5 _)
    have FB : Hid (w5.heap.size ≤ wb.heap.size) := Lib.hid gb.size
    rw [← hwb]
    clear hwb gb
    refine hK.out _ _ ZB (fun hHeld => ?_)
    clear hK K'
    go_simp
    refine RD1 (i := 10) rfl (fun K' hK => ?_)
    refine wp_append_winA (.tmp 23) (.tmp 32) tr_el (by rfl) WB.out (by rfl) (some ⟨w5.heap.size, 0, none⟩) 1 1 (by rfl) [.int .i64 z] (fun e => by cases e) rfl (by omega) (fun ad e => by cases e; exact World.news_of_block NB.out) (by simp [Value.oneCell']) ?_
    intro a6 c6 w6 z6 o6 b6 _
    have Z6 : Hid (w1.grownBy w6 none) := Lib.hid (grown_onlyN ZB.out o6 JF.out)
    have W6 := Lib.hid z6
    have J6 : Hid (∀ j, bk a6 j → w1.heap.size ≤ j) := Lib.hid (fun j hj => (b6 j hj).elim (JF.out j) (fun e => by have := F5.out; have := FB.out; omega))
    clear z6 o6 b6
    refine hK.out _ _ Z6 (fun hHeld => ?_)
    clear hK K'
    go_simp
    refine TKB (i := 11) (v := ?vgz) rfl ?ygz ?rgz
    case ygz => (intro w hSw; (try dsimp only at hSw); go_simp; try with_reducible rfl)
    go_simp
    refine wpAnyH_done (by kernel_rfl) ?_ _
    have HJ : Hid (Win 1 w6 a6 c6 (k + 1) ((trPs l rv (Pm.es (ks1.take (k + 1)))).map (Value.int .i64))) := Lib.hid (by rw [HT.out, List.map_append]; exact W6.out)
    go_wp2_with fail
    go_roundw
    case rel => exact ⟨k + 1, a6, c6, rfl, by go_num, by omega, Z6, HJ, J6⟩
    case measure => simp [intOf]; omega
   ·obtain rfl : n = k := by omega
    have HTK := Lib.hid (show trPs l rv (Pm.es (ks1.take n)) = trPs l rv (Pm.es ks1) by rw [List.take_of_length_le (Nat.le_of_eq Hn.out)])
    have JWn : Hid (Win 1 wr a c n ((trPs l rv (Pm.es ks1)).map (Value.int .i64))) := Lib.hid (by rw [← HTK.out]; exact JW.out)
    have HKD : Hid (∀ x ∈ trPs l rv (Pm.es ks1), isT x) := Lib.hid (isT_trPs l rv _ (Prd.gds_w2 _ HGS.out))
    have HKL : Hid ((trPs l rv (Pm.es ks1)).length = n) := Lib.hid (by rw [trPs_map, List.length_map, Pm.es_map, List.length_map]; exact Hn.out)
    obtain ⟨kd, hkd⟩ : ∃ kd, kd = trPs l rv (Pm.es ks1) := ⟨_, rfl⟩
    have HR2 := HR
    rw [← hkd] at JWn HKD HKL HR2
    have TPr := Lib.hid (blkD KG.out TP.out)
    clear HTK JW HR hkd HIH HKs hlt
    go_upto_region 7 with fail
    go_cut [9, 10] from 35 to 37 (fun s9 s10 wx => ∃ A B : Nat, s9 = .pointer (some ⟨A, 0, none⟩) ∧ s10 = .pointer (some ⟨B, 0, none⟩) ∧ Hid (TwoB wr wx A B ⟨0, 0, ⟨#[]⟩⟩ ⟨vk1, vn1, vs1⟩))
    case first =>
     refine wp_region_held_drew (S := (fun W => Hid (w1.grownBy W none))) (by kernel_rfl) (Lib.hid (grown_drewT KG.out)) (fun hHeld => ?_)
     obtain ⟨wd, hwd⟩ : ∃ wd, wd = wr.drew := ⟨_, rfl⟩
     have GD : Hid (wr.grownBy wd none) := Lib.hid (by rw [hwd]; exact grown_drewT (grown_reflX wr none))
     rw [← hwd] at hHeld ⊢
     clear hwd
     refine TKB (i := 0) (v := ?vhz) rfl ?yhz ?rhz
     case yhz => (intro w hSw; (try dsimp only at hSw); go_simp; try with_reducible rfl)
     go_simp
     refine TKB (i := 1) (v := ?viz) rfl ?yiz ?riz
     case yiz => (intro w hSw; (try dsimp only at hSw); go_simp; try with_reducible rfl)
     go_simp
     refine TKB (i := 2) (v := ?vjz) rfl ?yjz ?rjz
     case yjz => (intro w hSw; obtain ⟨⟨p0, p1x, p2, p3, p4⟩, p5, p6, p7, p8, p9⟩ := ten_of (blkD hSw.out TP.out); clear hSw; go_simp; try with_reducible rfl)
     go_simp
     refine wpAnyH_ready (rs := [3, 4]) (by kernel_rfl) (by simp) ?_
     refine (AllReadyH.cons rfl (fun K' hK => ?_) (AllReadyH.cons rfl (fun K' hK => ?_) AllReadyH.nil))
     ·go_simp
      obtain ⟨v1, hv1⟩ : ∃ q, q = World.alloc wd (.cells #[.int .i64 0, .int .i64 0, .string ⟨#[]⟩] 31) := ⟨_, rfl⟩
      have gv1 : World.grownBy wd v1 none := by rw [hv1]; exact World.grownBy_alloc _ _ none
      have NA1 : Hid (v1.heap[(wd).heap.size]? = some (.cells #[.int .i64 0, .int .i64 0, .string ⟨#[]⟩] 31 (0, 0))) := Lib.hid (by rw [hv1]; exact heap_alloc_new _ _)
      have LA : Hid (wr.heap.size ≤ (wd).heap.size) := Lib.hid GD.out.size
      have G1 : Hid (wr.grownBy v1 none) := Lib.hid (GD.out.trans gv1)
      rw [← hv1]
      clear hv1 gv1
      generalize hbA : (wd).heap.size = bA at *
      refine hK.out _ _ (Lib.hid (KG.out.trans G1.out)) (fun hHeld => ?_)
      clear hK K'
      go_simp
      refine RD1 (i := 4) rfl (fun K' hK => ?_)
      go_simp
      obtain ⟨v2, hv2⟩ : ∃ q, q = World.alloc v1 (.cells #[.int .i64 0, .int .i64 0, .string ⟨#[]⟩] 31) := ⟨_, rfl⟩
      have gv2 : World.grownBy v1 v2 none := by rw [hv2]; exact World.grownBy_alloc _ _ none
      have NB2 : Hid (v2.heap[(v1).heap.size]? = some (.cells #[.int .i64 0, .int .i64 0, .string ⟨#[]⟩] 31 (0, 0))) := Lib.hid (by rw [hv2]; exact heap_alloc_new _ _)
      have LB : Hid (wr.heap.size ≤ (v1).heap.size) := Lib.hid G1.out.size
      have NE : Hid (bA ≠ (v1).heap.size) := Lib.hid (by have := (Array.getElem?_eq_some_iff.1 NA1.out).1; omega)
      have G2 : Hid (wr.grownBy v2 none) := Lib.hid (G1.out.trans gv2)
      have NA2 := Lib.hid (blkD gv2 NA1.out)
      rw [← hv2]
      clear hv2 gv2
      generalize hbB : (v1).heap.size = bB at *
      refine hK.out _ _ (Lib.hid (KG.out.trans G2.out)) (fun hHeld => ?_)
      clear hK K'
      go_simp
      refine RD1 (i := 5) rfl (fun K' hK => ?_)
      refine wp_store_row 31 (.tmp 9) (.tmp 35) rfl bA #[.int .i64 0, .int .i64 0, .string ⟨#[]⟩] (by rfl) (by rfl) 31 #[.int .i64 0, .int .i64 0, .string ⟨#[]⟩] NA2.out svv_size rfl (by simp [Value.oneCell']) ?_
      obtain ⟨v3, hv3⟩ : ∃ q, q = World.setRow v2 bA #[.int .i64 0, .int .i64 0, .string ⟨#[]⟩] := ⟨_, rfl⟩
      have NA3 : Hid (v3.heap[bA]? = some (.cells #[.int .i64 0, .int .i64 0, .string ⟨#[]⟩] 31 (0, 0))) := Lib.hid (by rw [hv3]; exact setRow_heap _ _ _ _ _ _ NA2.out)
      have NB3 : Hid (v3.heap[bB]? = some (.cells #[.int .i64 0, .int .i64 0, .string ⟨#[]⟩] 31 (0, 0))) := Lib.hid (by rw [hv3]; exact (setRow_other _ _ _ _ (by have := NE.out; omega)).trans NB2.out)
      have G3 : Hid (wr.grownBy v3 none) := Lib.hid (by rw [hv3]; exact grown_thenX G2.out (grown_setRow _ _ _) (fun j e => by cases e; exact LA.out))
      rw [← hv3]
      clear hv3
      refine hK.out _ _ (Lib.hid (KG.out.trans G3.out)) (fun hHeld => ?_)
      clear hK K'
      go_simp
      refine RD1 (i := 6) rfl (fun K' hK => ?_)
      refine wp_store_row 31 (.tmp 10) (.tmp 37) rfl bB #[.int .i64 vk1, .int .i64 vn1, .string vs1] (by rfl) (by rfl) 31 #[.int .i64 0, .int .i64 0, .string ⟨#[]⟩] NB3.out svv_size rfl (by simp [Value.oneCell']) ?_
      obtain ⟨v4, hv4⟩ : ∃ q, q = World.setRow v3 bB #[.int .i64 vk1, .int .i64 vn1, .string vs1] := ⟨_, rfl⟩
      have NB4 : Hid (v4.heap[bB]? = some (.cells #[.int .i64 vk1, .int .i64 vn1, .string vs1] 31 (0, 0))) := Lib.hid (by rw [hv4]; exact setRow_heap _ _ _ _ _ _ NB3.out)
      have NA4 : Hid (v4.heap[bA]? = some (.cells #[.int .i64 0, .int .i64 0, .string ⟨#[]⟩] 31 (0, 0))) := Lib.hid (by rw [hv4]; exact (setRow_other _ _ _ _ (by have := NE.out; omega)).trans NA3.out)
      have G4 : Hid (wr.grownBy v4 none) := Lib.hid (by rw [hv4]; exact grown_thenX G3.out (grown_setRow _ _ _) (fun j e => by cases e; exact LB.out))
      rw [← hv4]
      clear hv4
      refine hK.out _ _ (Lib.hid (KG.out.trans G4.out)) (fun hHeld => ?_)
      clear hK K'
      go_simp
      refine wpAnyH_done (by kernel_rfl) ?_ _
      go_wp2_with fail
      go_meet
      case rel => exact ⟨bA, bB, rfl, rfl, Lib.hid ⟨G4.out, NE.out, LA.out, LB.out, NA4.out, NB4.out⟩⟩
     ·go_simp
      obtain ⟨v1, hv1⟩ : ∃ q, q = World.alloc wd (.cells #[.int .i64 0, .int .i64 0, .string ⟨#[]⟩] 31) := ⟨_, rfl⟩
      have gv1 : World.grownBy wd v1 none := by rw [hv1]; exact World.grownBy_alloc _ _ none
      have NB1 : Hid (v1.heap[(wd).heap.size]? = some (.cells #[.int .i64 0, .int .i64 0, .string ⟨#[]⟩] 31 (0, 0))) := Lib.hid (by rw [hv1]; exact heap_alloc_new _ _)
      have LB : Hid (wr.heap.size ≤ (wd).heap.size) := Lib.hid GD.out.size
      have G1 : Hid (wr.grownBy v1 none) := Lib.hid (GD.out.trans gv1)
      rw [← hv1]
      clear hv1 gv1
      generalize hbB : (wd).heap.size = bB at *
      refine hK.out _ _ (Lib.hid (KG.out.trans G1.out)) (fun hHeld => ?_)
      clear hK K'
      go_simp
      refine RD1 (i := 3) rfl (fun K' hK => ?_)
      go_simp
      obtain ⟨v2, hv2⟩ : ∃ q, q = World.alloc v1 (.cells #[.int .i64 0, .int .i64 0, .string ⟨#[]⟩] 31) := ⟨_, rfl⟩
      have gv2 : World.grownBy v1 v2 none := by rw [hv2]; exact World.grownBy_alloc _ _ none
      have NA2 : Hid (v2.heap[(v1).heap.size]? = some (.cells #[.int .i64 0, .int .i64 0, .string ⟨#[]⟩] 31 (0, 0))) := Lib.hid (by rw [hv2]; exact heap_alloc_new _ _)
      have LA : Hid (wr.heap.size ≤ (v1).heap.size) := Lib.hid G1.out.size
      have NE : Hid ((v1).heap.size ≠ bB) := Lib.hid (by have := (Array.getElem?_eq_some_iff.1 NB1.out).1; omega)
      have G2 : Hid (wr.grownBy v2 none) := Lib.hid (G1.out.trans gv2)
      have NB2 := Lib.hid (blkD gv2 NB1.out)
      rw [← hv2]
      clear hv2 gv2
      generalize hbA : (v1).heap.size = bA at *
      refine hK.out _ _ (Lib.hid (KG.out.trans G2.out)) (fun hHeld => ?_)
      clear hK K'
      go_simp
      refine RD1 (i := 5) rfl (fun K' hK => ?_)
      refine wp_store_row 31 (.tmp 9) (.tmp 35) rfl bA #[.int .i64 0, .int .i64 0, .string ⟨#[]⟩] (by rfl) (by rfl) 31 #[.int .i64 0, .int .i64 0, .string ⟨#[]⟩] NA2.out svv_size rfl (by simp [Value.oneCell']) ?_
      obtain ⟨v3, hv3⟩ : ∃ q, q = World.setRow v2 bA #[.int .i64 0, .int .i64 0, .string ⟨#[]⟩] := ⟨_, rfl⟩
      have NA3 : Hid (v3.heap[bA]? = some (.cells #[.int .i64 0, .int .i64 0, .string ⟨#[]⟩] 31 (0, 0))) := Lib.hid (by rw [hv3]; exact setRow_heap _ _ _ _ _ _ NA2.out)
      have NB3 : Hid (v3.heap[bB]? = some (.cells #[.int .i64 0, .int .i64 0, .string ⟨#[]⟩] 31 (0, 0))) := Lib.hid (by rw [hv3]; exact (setRow_other _ _ _ _ (by have := NE.out; omega)).trans NB2.out)
      have G3 : Hid (wr.grownBy v3 none) := Lib.hid (by rw [hv3]; exact grown_thenX G2.out (grown_setRow _ _ _) (fun j e => by cases e; exact LA.out))
      rw [← hv3]
      clear hv3
      refine hK.out _ _ (Lib.hid (KG.out.trans G3.out)) (fun hHeld => ?_)
      clear hK K'
      go_simp
      refine RD1 (i := 6) rfl (fun K' hK => ?_)
      refine wp_store_row 31 (.tmp 10) (.tmp 37) rfl bB #[.int .i64 vk1, .int .i64 vn1, .string vs1] (by rfl) (by rfl) 31 #[.int .i64 0, .int .i64 0, .string ⟨#[]⟩] NB3.out svv_size rfl (by simp [Value.oneCell']) ?_
      obtain ⟨v4, hv4⟩ : ∃ q, q = World.setRow v3 bB #[.int .i64 vk1, .int .i64 vn1, .string vs1] := ⟨_, rfl⟩
      have NB4 : Hid (v4.heap[bB]? = some (.cells #[.int .i64 vk1, .int .i64 vn1, .string vs1] 31 (0, 0))) := Lib.hid (by rw [hv4]; exact setRow_heap _ _ _ _ _ _ NB3.out)
      have NA4 : Hid (v4.heap[bA]? = some (.cells #[.int .i64 0, .int .i64 0, .string ⟨#[]⟩] 31 (0, 0))) := Lib.hid (by rw [hv4]; exact (setRow_other _ _ _ _ (by have := NE.out; omega)).trans NA3.out)
      have G4 : Hid (wr.grownBy v4 none) := Lib.hid (by rw [hv4]; exact grown_thenX G3.out (grown_setRow _ _ _) (fun j e => by cases e; exact LB.out))
      rw [← hv4]
      clear hv4
      refine hK.out _ _ (Lib.hid (KG.out.trans G4.out)) (fun hHeld => ?_)
      clear hK K'
      go_simp
      refine wpAnyH_done (by kernel_rfl) ?_ _
      go_wp2_with fail
      go_meet
      case rel => exact ⟨bA, bB, rfl, rfl, Lib.hid ⟨G4.out, NE.out, LA.out, LB.out, NA4.out, NB4.out⟩⟩
    case rest =>
    obtain ⟨A, B, rfl, rfl, J0⟩ := hcut
    rename World => W0

    go_upto_region 8 with fail
    obtain ⟨q, hq⟩ : ∃ q, q = colR c1 l := ⟨_, rfl⟩
    have HQ := Lib.hid hq
    have HCq := Lib.hid (fun W (hW : w.grownBy W none) => HCl.out c1 W hW)
    rw [← hq] at HCq
    clear hq
    have TAq := Lib.hid (blkD J0.out.g (blkD KG.out TA.out))
    have TPq := Lib.hid (blkD J0.out.g (blkD KG.out TP.out))
    obtain ⟨⟨t0, t1, t2⟩, t3, t4, t5⟩ := boxD3 TAq.out
    obtain ⟨⟨p0, p1x, p2, p3, p4⟩, p5, p6, p7, p8, p9⟩ := ten_of TPq.out
    go_wp2_with fail
    refine (HCq.out _ ((G1.out.trans KG.out).trans J0.out.g)).mono ?_
    rintro e wq ⟨rfl, hgq⟩
    have JQ := Lib.hid (J0.out.keep hgq)
    clear hgq t0 t1 t2 t3 t4 t5 p0 p1x p2 p3 p4 p5 p6 p7 p8 p9 TAq TPq HCq
    go_upto_if 43 with fail
    go_cut [] from 43 to 47 (fun wx => Hid (TwoB wr wx A B (colV c1 l rv ⟨0, 0, ⟨#[]⟩⟩) ⟨vk1, vn1, vs1⟩))
    case first =>
     by_cases hN : colN c1 l < tn
     ·obtain ⟨b5, off5, rfl, _, d0, d1, d2⟩ := (HV.out).at (i := colN c1 l) (by rw [Hrn.out, HLn.out]; exact hN)
      have hv : (colV c1 l rv ⟨0, 0, ⟨#[]⟩⟩) = vlV (rv.getD (colN c1 l) default) := colV_hit (by rw [Htn.out]; exact hN)
      have HVv := Lib.hid hv
      have hgV := (G1.out.trans KG.out).trans JQ.out.g
      have e0 := hgV.cell d0 (by simp)
      have e1 := hgV.cell d1 (by simp)
      have e2 := hgV.cell d2 (by simp)
      have hq : q = (colN c1 l : Int) := by rw [HQ.out]; unfold colR; rw [if_pos (by rw [Htn.out]; exact hN)]
      generalize rv.getD (colN c1 l) default = u at *
      obtain ⟨N1, hN1⟩ : ∃ N1, N1 = colN c1 l := ⟨_, rfl⟩
      rw [← hN1] at e0 e1 e2 hq hN
      subst hq
      clear d0 d1 d2 hv hgV hN1 HQ
      have i0 : (0 : Int) ≤ N1 := by omega
      have i1 : (N1 : Int) < rn := by have := HLn.out; omega
      clear hN
      obtain ⟨⟨a0, a1, a2⟩, a3, a4, a5⟩ := boxD3 JQ.out.a
      rw [show decide ((0 : Int) ≤ (N1 : Int)) = true from decide_eq_true i0]
      go_wp2_with fail
      go_meet
      case rel => exact Lib.hid (by rw [HVv.out]; exact JQ.out.setA (vlV u))
     ·have hq : q = -1 := by rw [HQ.out]; unfold colR; rw [if_neg (by rw [Htn.out]; exact hN)]
      have hv : (colV c1 l rv ⟨0, 0, ⟨#[]⟩⟩) = ⟨0, 0, ⟨#[]⟩⟩ := colV_no (by rw [Htn.out]; exact hN)
      have HVv := Lib.hid hv
      subst hq
      clear hv hN HQ
      rw [show decide ((0 : Int) ≤ -1) = false from rfl]
      go_wp2_with fail
      go_meet
      case rel => exact Lib.hid (by rw [HVv.out]; exact JQ.out)
    case rest =>
    have J1 := hcut
    clear hcut JQ J0 HQ
    rename World => W1

    go_upto_region 11 with fail
    obtain ⟨q, hq⟩ : ∃ q, q = colR o1 l := ⟨_, rfl⟩
    have HQ := Lib.hid hq
    have HCq := Lib.hid (fun W (hW : w.grownBy W none) => HCl.out o1 W hW)
    rw [← hq] at HCq
    clear hq
    have TAq := Lib.hid (blkD J1.out.g (blkD KG.out TA.out))
    have TPq := Lib.hid (blkD J1.out.g (blkD KG.out TP.out))
    obtain ⟨⟨t0, t1, t2⟩, t3, t4, t5⟩ := boxD3 TAq.out
    obtain ⟨⟨p0, p1x, p2, p3, p4⟩, p5, p6, p7, p8, p9⟩ := ten_of TPq.out
    go_wp2_with fail
    refine (HCq.out _ ((G1.out.trans KG.out).trans J1.out.g)).mono ?_
    rintro e wq ⟨rfl, hgq⟩
    have JQ := Lib.hid (J1.out.keep hgq)
    clear hgq t0 t1 t2 t3 t4 t5 p0 p1x p2 p3 p4 p5 p6 p7 p8 p9 TAq TPq HCq
    go_upto_if 53 with fail
    go_cut [] from 53 to 57 (fun wx => Hid (TwoB wr wx A B (colV c1 l rv ⟨0, 0, ⟨#[]⟩⟩) (colV o1 l rv ⟨vk1, vn1, vs1⟩)))
    case first =>
     by_cases hN : colN o1 l < tn
     ·obtain ⟨b5, off5, rfl, _, d0, d1, d2⟩ := (HV.out).at (i := colN o1 l) (by rw [Hrn.out, HLn.out]; exact hN)
      have hv : (colV o1 l rv ⟨vk1, vn1, vs1⟩) = vlV (rv.getD (colN o1 l) default) := colV_hit (by rw [Htn.out]; exact hN)
      have HVv := Lib.hid hv
      have hgV := (G1.out.trans KG.out).trans JQ.out.g
      have e0 := hgV.cell d0 (by simp)
      have e1 := hgV.cell d1 (by simp)
      have e2 := hgV.cell d2 (by simp)
      have hq : q = (colN o1 l : Int) := by rw [HQ.out]; unfold colR; rw [if_pos (by rw [Htn.out]; exact hN)]
      generalize rv.getD (colN o1 l) default = u at *
      obtain ⟨N1, hN1⟩ : ∃ N1, N1 = colN o1 l := ⟨_, rfl⟩
      rw [← hN1] at e0 e1 e2 hq hN
      subst hq
      clear d0 d1 d2 hv hgV hN1 HQ
      have i0 : (0 : Int) ≤ N1 := by omega
      have i1 : (N1 : Int) < rn := by have := HLn.out; omega
      clear hN
      obtain ⟨⟨a0, a1, a2⟩, a3, a4, a5⟩ := boxD3 JQ.out.b
      rw [show decide ((0 : Int) ≤ (N1 : Int)) = true from decide_eq_true i0]
      go_wp2_with fail
      go_meet
      case rel => exact Lib.hid (by rw [HVv.out]; exact JQ.out.setB (vlV u))
     ·have hq : q = -1 := by rw [HQ.out]; unfold colR; rw [if_neg (by rw [Htn.out]; exact hN)]
      have hv : (colV o1 l rv ⟨vk1, vn1, vs1⟩) = ⟨vk1, vn1, vs1⟩ := colV_no (by rw [Htn.out]; exact hN)
      have HVv := Lib.hid hv
      subst hq
      clear hv hN HQ
      rw [show decide ((0 : Int) ≤ -1) = false from rfl]
      go_wp2_with fail
      go_meet
      case rel => exact Lib.hid (by rw [HVv.out]; exact JQ.out)
    case rest =>
    have J2 := hcut
    clear hcut JQ J1 HQ
    rename World => W2
    have HG0 := Lib.hid ((G1.out.trans KG.out).trans J2.out.g)
    have TPe := Lib.hid (blkD J2.out.g TPr.out)
    have JWe := Lib.hid (JWn.out.keepG J2.out.g)
    have FX : Hid (Vl.fine (colV c1 l rv ⟨0, 0, ⟨#[]⟩⟩)) := Lib.hid (colV_fine HFine.out (by rw [Hrn.out, Htn.out]; exact HLn.out) fine_z)
    have FY : Hid (Vl.fine (colV o1 l rv ⟨vk1, vn1, vs1⟩)) := Lib.hid (colV_fine HFine.out (by rw [Hrn.out, Htn.out]; exact HLn.out) HGD.out.1)
    generalize hX : (colV c1 l rv ⟨0, 0, ⟨#[]⟩⟩) = X at *
    generalize hY : (colV o1 l rv ⟨vk1, vn1, vs1⟩) = Y at *
    clear hX hY JWn TPr
    obtain ⟨xk, xn, xs⟩ := X
    obtain ⟨yk, yn, ys⟩ := Y
    have BA := Lib.hid J2.out.a
    have BB := Lib.hid J2.out.b
    dsimp only at BA BB
    have HOf := Lib.hid (fun W => refOf_any (r1 : Int) ⟨xk, xn, xs⟩ ⟨yk, yn, ys⟩ W FX.out.1 FY.out.1 FX.out.len)
    have HIn := Lib.hid (fun W (hW : w.grownBy W none) => refIn_any ⟨xk, xn, xs⟩ la1 lc1 l1 W (HRw.out W hW).row FX.out.1 (by rw [List.all_eq_true]; exact fun z hz => (HGD.out.2.1 z hz).1) FX.out.len (by rw [Hln.out]; have := HGD.out.2.2.1; omega))
    rw [Hln.out] at HIn
    have HAnd := Lib.hid (refAnd_any a c kd W2 JWe.out.ints)
    have HOr := Lib.hid (refOr_any a c kd W2 JWe.out.ints)
    rw [HKL.out] at HAnd HOr
    obtain ⟨⟨p0, p1x, p2, p3, p4⟩, p5, p6, p7, p8, p9⟩ := ten_of TPe.out
    obtain ⟨⟨a0, a1, a2⟩, a3, a4, a5⟩ := boxD3 BA.out
    obtain ⟨⟨b0, b1, b2⟩, b3, b4, b5⟩ := boxD3 BB.out
    dsimp only at a0 a1 a2 b0 b1 b2 HOf HIn
    go_upto_region 15 with fail
    by_cases h2 : k1 = 2
    ·subst h2
     have hr : r = 0 := by rw [HR2.out]; rfl
     subst hr
     clear HR2
     go_wp2_with fail
     go_ret
     exact ⟨rfl, HG0.out⟩
    by_cases h3 : k1 = 3
    ·subst h3
     have hr : r = ofT r1 ⟨xk, xn, xs⟩ ⟨yk, yn, ys⟩ := by rw [HR2.out]; rfl
     subst hr
     clear HR2
     go_wp2_with fail
     refine (HOf.out _).mono ?_
     rintro e w5 ⟨rfl, hb⟩
     have G5 := Lib.hid (HG0.out.trans (grown_belowX hb none))
     clear hb
     go_wp2_with fail
     go_ret
     exact ⟨rfl, G5.out⟩
    by_cases h4 : k1 = 4
    ·subst h4
     have hr : r = ofT r1 ⟨xk, xn, xs⟩ ⟨yk, yn, ys⟩ := by rw [HR2.out]; rfl
     subst hr
     clear HR2
     go_wp2_with fail
     refine (HOf.out _).mono ?_
     rintro e w5 ⟨rfl, hb⟩
     have G5 := Lib.hid (HG0.out.trans (grown_belowX hb none))
     clear hb
     go_wp2_with fail
     go_ret
     exact ⟨rfl, G5.out⟩
    by_cases h5 : k1 = 5
    ·subst h5
     have hr : r = inT ⟨xk, xn, xs⟩ l1 := by rw [HR2.out]; rfl
     subst hr
     clear HR2
     go_wp2_with fail
     refine (HIn.out _ HG0.out).mono ?_
     rintro e w5 ⟨rfl, hb⟩
     have G5 := Lib.hid (HG0.out.trans (grown_belowX hb none))
     clear hb
     go_wp2_with fail
     go_ret
     exact ⟨rfl, G5.out⟩
    by_cases h6 : k1 = 6
    ·subst h6
     have hr : r = b01 (xk == 0) := by rw [HR2.out]; rfl
     subst hr
     clear HR2
     go_wp2_with fail
     refine (bool01_any _ _).mono ?_
     rintro e w5 ⟨rfl, rfl⟩
     go_wp2_with fail
     go_ret
     exact ⟨rfl, HG0.out⟩
    by_cases h7 : k1 = 7
    ·subst h7
     have hr : r = b01 (xk != 0) := by rw [HR2.out]; rfl
     subst hr
     clear HR2
     go_wp2_with fail
     refine (bool01_any _ _).mono ?_
     rintro e w5 ⟨rfl, rfl⟩
     go_wp2_with fail
     go_ret
     exact ⟨rfl, HG0.out⟩
    by_cases h8 : k1 = 8
    ·subst h8
     have hr : r = joinT 0 1 kd := by rw [HR2.out]; rfl
     subst hr
     clear HR2
     go_wp2_with fail
     refine (HAnd.out).mono ?_
     rintro e w5 ⟨rfl, rfl⟩
     go_wp2_with fail
     go_ret
     exact ⟨rfl, HG0.out⟩
    by_cases h9 : k1 = 9
    ·subst h9
     have hr : r = joinT 1 0 kd := by rw [HR2.out]; rfl
     subst hr
     clear HR2
     go_wp2_with fail
     refine (HOr.out).mono ?_
     rintro e w5 ⟨rfl, rfl⟩
     go_wp2_with fail
     go_ret
     exact ⟨rfl, HG0.out⟩
    by_cases h10 : k1 = 10
    ·subst h10
     have hn0 : 0 < n := by
      have h1 := HGD.out.2.2.2 rfl
      rw [← Hn.out, ← List.length_map (f := Pm.e), ← Pm.es_map]
      exact List.length_pos_iff.2 h1
     obtain ⟨g6, off6, ha6, hc6, _, _⟩ := JWe.out.mem.resolve_left (by have := JWe.out.le; omega)
     have hc0 := hc6 0 (.int .i64 (kd.getD 0 default)) (by rw [List.getElem?_map, List.getD, List.getElem?_eq_getElem (by rw [HKL.out]; exact hn0)]; rfl)
     rw [Nat.add_zero] at hc0
     have HTt : Hid (isT (kd.getD 0 default)) := Lib.hid (HKD.out _ (by rw [List.getD, List.getElem?_eq_getElem (by rw [HKL.out]; exact hn0)]; exact List.getElem_mem _))
     obtain ⟨t, ht⟩ : ∃ t, t = kd.getD 0 default := ⟨_, rfl⟩
     have hr : r = notT t := by rw [HR2.out, ht]; rfl
     rw [← ht] at hc0 HTt
     subst hr
     clear ht
     have HNt := Lib.hid (fun W => refNot_any t W HTt.out)
     have i0 : (0 : Int) < n := by omega
     subst ha6
     clear HR2 hc6 hn0
     go_wp2_with fail
     refine (HNt.out _).mono ?_
     rintro e w5 ⟨rfl, rfl⟩
     go_wp2_with fail
     go_ret
     exact ⟨rfl, HG0.out⟩
    by_cases h11 : k1 = 11
    ·subst h11
     have hne := HW1.out rfl
     have hlp : 0 < ln := by rw [← Hln.out]; exact List.length_pos_iff.2 hne
     obtain ⟨b, off, rfl, _, _, hc⟩ := (HRw.out _ HG0.out).2.2.resolve_left hne
     have hc0 := hc 0 (by rw [Hln.out]; exact hlp)
     rw [Nat.zero_mul, Nat.add_zero] at hc0
     have HC0 := Lib.hid hc0
     have hr : r = ofT r1 ⟨vk1, vn1, vs1⟩ (l1.getD 0 default) := by rw [HR2.out]; rfl
     have FZ : Hid (Vl.fine (l1.getD 0 default)) := Lib.hid (HGD.out.2.1 _ (by rw [List.getD, List.getElem?_eq_getElem (by rw [Hln.out]; exact hlp)]; exact List.getElem_mem _))
     have HOl := Lib.hid (fun W => refOf_any (r1 : Int) ⟨vk1, vn1, vs1⟩ (l1.getD 0 default) W HGD.out.1.1 FZ.out.1 HGD.out.1.len)
     generalize l1.getD 0 default = Y at *
     obtain ⟨zk, zn, zs⟩ := Y
     dsimp only at HC0 HOl hc0
     subst hr
     clear HR2 hc hc0 hne
     go_upto_region 34 with fail
     clear p0 p1x p2 p3 p4 p5 p6 p7 p8 p9 a0 a1 a2 a3 a4 a5 b0 b1 b2 b3 b4 b5
     refine wp_region_held_drew (S := (fun W => Hid (W2.grownBy W none))) (by kernel_rfl) (Lib.hid (grown_drewT (grown_reflX _ _))) (fun hHeld => ?_)
     refine TKB (i := 0) (v := ?vkz) rfl ?ykz ?rkz
     case ykz => (intro w hSw; (try dsimp only at hSw); go_simp; try with_reducible rfl)
     go_simp
     refine TKB (i := 1) (v := ?vlz) rfl ?ylz ?rlz
     case ylz => (intro w hSw; obtain ⟨⟨p0, p1x, p2, p3, p4⟩, p5, p6, p7, p8, p9⟩ := ten_of (blkD hSw.out TPe.out); clear hSw; go_simp; try with_reducible rfl)
     go_simp
     refine TKB (i := 2) (v := ?vmz) rfl ?ymz ?rmz
     case ymz => (intro w hSw; (try dsimp only at hSw); go_simp; try with_reducible rfl)
     go_simp
     refine TKB (i := 3) (v := ?vnz) rfl ?ynz ?rnz
     case ynz => (intro w hSw; obtain ⟨⟨p0, p1x, p2, p3, p4⟩, p5, p6, p7, p8, p9⟩ := ten_of (blkD hSw.out TPe.out); clear hSw; go_simp; try with_reducible rfl)
     go_simp
     refine TKB (i := 4) (v := ?voz) rfl ?yoz ?roz
     case yoz => (intro w hSw; (try dsimp only at hSw); go_simp; try with_reducible rfl)
     go_simp
     refine TKB (i := 5) (v := ?vpz) rfl ?ypz ?rpz
     case ypz => (intro w hSw; obtain ⟨⟨p0, p1x, p2, p3, p4⟩, p5, p6, p7, p8, p9⟩ := ten_of (blkD hSw.out TPe.out); clear hSw; go_simp; try with_reducible rfl)
     go_simp
     refine TKB (i := 6) (v := ?vqz) rfl ?yqz ?rqz
     case yqz => (intro w hSw; (try dsimp only at hSw); go_simp; (try rw [if_pos hlp]); try with_reducible rfl)
     go_simp
     refine TKB (i := 7) (v := ?vrz) rfl ?yrz ?rrz
     case yrz => (intro w hSw; have q9 := hSw.out.cell HC0.out.1 (by simp); have q10 := hSw.out.cell HC0.out.2.1 (by simp); have q11 := hSw.out.cell HC0.out.2.2 (by simp); clear hSw; go_simp; try with_reducible rfl)
     go_simp
     refine RD1 (i := 8) rfl (fun K' hK => ?_)
     go_simp
     go_at_call 20
     refine (HOl.out _).mono ?_
     rintro e w7 ⟨rfl, hb⟩
     have Z7 : Hid (W2.grownBy w7 none) := Lib.hid ((grown_drewT (grown_reflX _ _)).trans (grown_belowX hb none))
     have G7 := Lib.hid (HG0.out.trans Z7.out)
     clear hb
     refine hK.out _ _ Z7 (fun hHeld => ?_)
     clear hK K'
     go_simp
     refine TKB (i := 9) (v := ?vsz) rfl ?ysz ?rsz
     case ysz => (intro w hSw; (try dsimp only at hSw); go_simp; try with_reducible rfl)
     go_simp
     refine TKB (i := 10) (v := ?vtz) rfl ?ytz ?rtz
     case ytz => (intro w hSw; (try dsimp only at hSw); go_simp; try with_reducible rfl)
     go_simp
     refine TKB (i := 11) (v := ?vuz) rfl ?yuz ?ruz
     case yuz => (intro w hSw; (try dsimp only at hSw); go_simp; try with_reducible rfl)
     go_simp
     refine TKB (i := 12) (v := ?vvz) rfl ?yvz ?rvz
     case yvz => (intro w hSw; (try dsimp only at hSw); go_simp; try with_reducible rfl)
     go_simp
     refine TKB (i := 13) (v := ?vwz) rfl ?ywz ?rwz
     case ywz => (intro w hSw; (try dsimp only at hSw); go_simp; try with_reducible rfl)
     go_simp
     refine wpAnyH_done (by kernel_rfl) ?_ _
     go_wp2_with fail
     go_ret
     exact ⟨rfl, G7.out⟩
    ·have hr : r = 1 := by rw [HR2.out]; unfold kindT; rw [if_neg h2, if_neg (by omega), if_neg h5, if_neg h6, if_neg h7, if_neg h8, if_neg h9, if_neg h10, if_neg h11]
     subst hr
     have f2 : ((k1 : Int) == 2) = false := by rw [beq_eq_false_iff_ne]; omega
     have f3 : ((k1 : Int) == 3) = false := by rw [beq_eq_false_iff_ne]; omega
     have f4 : ((k1 : Int) == 4) = false := by rw [beq_eq_false_iff_ne]; omega
     have f5 : ((k1 : Int) == 5) = false := by rw [beq_eq_false_iff_ne]; omega
     have f6 : ((k1 : Int) == 6) = false := by rw [beq_eq_false_iff_ne]; omega
     have f7 : ((k1 : Int) == 7) = false := by rw [beq_eq_false_iff_ne]; omega
     have f8 : ((k1 : Int) == 8) = false := by rw [beq_eq_false_iff_ne]; omega
     have f9 : ((k1 : Int) == 9) = false := by rw [beq_eq_false_iff_ne]; omega
     have f10 : ((k1 : Int) == 10) = false := by rw [beq_eq_false_iff_ne]; omega
     have f11 : ((k1 : Int) == 11) = false := by rw [beq_eq_false_iff_ne]; omega
     clear HR2 h2 h3 h4 h5 h6 h7 h8 h9 h10 h11
     go_wp2_with fail
     go_ret
     exact ⟨rfl, HG0.out⟩
end Go.Proofs.Ytfambadamebjjaa
namespace Go.Proofs.Ytfambadamebjjaa
open Go.RowKit
set_option linter.unusedVariables false
set_option linter.unusedSimpArgs false
abbrev S0 : Nat → Prop := fun _ => True
def notPm (g : Nat) (x : Pm) : Pm := .mk 10 bE 0 vlZ bE none 0 [] (some ⟨g, 0, none⟩) 1 [x] 0
theorem notPm_nod {cs : List Cl} {g : Nat} {x : Pm} (h : x.e.nod cs) : (notPm g x).e.nod cs := ⟨by decide, by simp, fun _ h7 => absurd h7 (by decide), by simp, fun _ => rfl, h, trivial⟩
theorem notPm_n (g : Nat) (x : Pm) : (notPm g x).n = x.n + 1 := by
 rw [notPm, Pm.n, Pm.ns, Pm.ns]; omega
theorem notPm_tr (cs : List Cl) (rv : List Vv) (g : Nat) (x : Pm) : trP cs rv (notPm g x).e = notT (trP cs rv x.e) := rfl
theorem notPm_S {W : World} {g : Nat} {x : Pm} {T : TypeId} (hb : W.heap[g]? = some (.cells x.c.toArray T (0, 0))) (hx : PmS S0 W x) : PmS S0 W (notPm g x) := by
 refine ⟨RwS.nil _ _ _, Nat.le_refl _, .inr ⟨g, 0, rfl, trivial, (Array.getElem?_eq_some_iff.1 hb).1, fun j u hj => ?_⟩, Nat.le_refl _, hx, trivial⟩
 rw [Nat.zero_add, cell_of_row _ _ _ _ _ _ hb]
 simpa using hj
theorem fold_tenL {cs : List Value} (h : cs.length = 10) : List.foldl (fun (cs : Array Value) (x : Value × Nat) => cs.setIfInBounds x.2 x.1) #[.int .i64 0, .string ⟨#[]⟩, .int .i64 0, .int .i64 0, .int .i64 0, .string ⟨#[]⟩, .string ⟨#[]⟩, .slice none 0 0, .slice none 0 0, .int .i64 0] cs.zipIdx = cs.toArray := by
 match cs, h with
 | [_, _, _, _, _, _, _, _, _, _], _ => simp only [List.zipIdx_cons, List.zipIdx_nil, List.foldl_cons, List.foldl_nil, List.setIfInBounds_toArray, List.set_cons_zero, List.set_cons_succ, Nat.zero_add, Nat.reduceAdd]
set_option maxRecDepth 100000 in
set_option maxHeartbeats 12800000 in
theorem SieveNots_any (s : ByteArray) (t : Tb) (ra : Option Addr) (rcap : Nat) (rv : List Vv) (w : World) (hC : ColsAt w.heap.size w t.a t.l) (hcap : t.l.length ≤ t.cap) (hN : t.n.size ≤ 9223372036854775807 ∧ ∀ i, i < t.l.length → (t.l.getD i default).n.size ≤ 9223372036854775807) (hV : VvAt w.heap.size w ra rv) (hrc : rv.length ≤ rcap) :
  Calls Try.prog 4 #[.string s, .agg #[.string t.n, .slice t.a t.l.length t.cap, .int .i64 t.k], .slice ra rv.length rcap] w fun e w' => e = .returned (.bool true) ∧ w.grownBy w' none := by
 have HQ := Lib.hid (fun (s : ByteArray) W (hW : w.grownBy W none) => lawQuery_any s t W ((hC.keep hW (by simp)).mono hW.size) hcap hN)
 have HR := Lib.hid (fun b W (hW : w.grownBy W none) (hb : W.heap[b]? = some (.cells #[.slice ra rv.length rcap] 26 (0, 0))) => lawRight_any t (some ⟨b, 0, none⟩) 1 [⟨ra, rcap, rv⟩] W ((hC.keep hW (by simp)).mono hW.size) hcap (rws_one hb ((hV.keep hW (by simp)).mono1 hW.size) hrc) (Nat.le_refl _))
 have HA := Lib.hid awake13_any
 have HD := Lib.hid (fun (hr : RightG [t]) (hfit : Fits t.l rv) (S : Nat → Prop) (x : Pm) (P : Prd) (ho : PrdOk t.l x P) W (hW : w.grownBy W none) (hx : PmS S W x) => refTruth_any t.n t.a t.cap t.l t.k ra rcap rv S hfit.fine.1 hfit.fine.2 1000 x W (by omega) ho.n hx ho.w1 ho.gd ((hC.keep hW (by simp)).mono hW.size) ((hV.keep hW (by simp)).mono1 hW.size))
 have HT := Lib.hid (fun (hr : RightG [t]) (hfit : Fits t.l rv) (S : Nat → Prop) (x : Pm) (hn : x.n ≤ 100000) (ho : x.e.nod t.l) W (hW : w.grownBy W none) (hx : PmS S W x) => sTruth_any t.n t.a t.cap t.l t.k S x ra rcap rv W ((hC.keep hW (by simp)).mono hW.size) (fun c hc => ((names_of (l := []) hr).1 c hc).2) (by have := (names_of (l := []) hr).2.1; omega) hx hn ho ((hV.keep hW (by simp)).mono1 hW.size) hfit.fine.1 hfit.fine.2)
 have HP := Lib.hid (fun (hr : RightG [t]) (hfit : Fits t.l rv) (S : Nat → Prop) (x : Pm) (hn : x.n ≤ 100000) (ho : x.e.nod t.l) W (hW : w.grownBy W none) (hx : PmS S W x) => sPasses_any t.n t.a t.cap t.l t.k S x ra rcap rv W ((hC.keep hW (by simp)).mono hW.size) (fun c hc => ((names_of (l := []) hr).1 c hc).2) (by have := (names_of (l := []) hr).2.1; omega) hx hn ho ((hV.keep hW (by simp)).mono1 hW.size) hfit.fine.1 hfit.fine.2)
 have HNm := Lib.hid (fun (hr : RightG [t]) => (names_of (l := []) hr).1)
 clear hC hcap hN hV hrc
 obtain ⟨tn, ta, tcap, tl, tk⟩ := t
 dsimp only at *
 unfold Pm.v at HD HT HP
 generalize hln : tl.length = ln at *
 generalize hrn : rv.length = rn at *
 clear hln hrn
 have T1 := Lib.hid (heap_alloc_new w (.cells #[.string tn, .slice ta ln tcap, .int .i64 tk] 24))
 have G1 := Lib.hid (World.grownBy_alloc w (.cells #[.string tn, .slice ta ln tcap, .int .i64 tk] 24) none)
 go_enter Try.func4, Try.ntmps4
 go_upto_region 1 with fail
 change Code.wp _ _ _ _ (w.alloc (.cells #[.string tn, .slice ta ln tcap, .int .i64 tk] 24))
 generalize w.alloc (.cells #[.string tn, .slice ta ln tcap, .int .i64 tk] 24) = w1 at *
 obtain ⟨⟨t0, t1, t2⟩, t3, t4, t5⟩ := boxD3 T1.out
 go_wp2_with fail
 refine (HQ.out s _ G1.out).mono ?_
 rintro e w2 ⟨hg, y, hy⟩
 have hE : ∃ ok, e = .returned (.tuple #[.agg y.c, .bool ok]) ∧ (ok = true → RightG [⟨tn, ta, tcap, tl, tk⟩] ∧ predC tl y.cond.e = 0 ∧ QmS (fun j => w1.heap.size ≤ j) w2 y ∧ ∃ Q, parseL s = .ok Q ∧ Red Q ∧ y.cond.e.e = Q.cond.e) := by
  rcases hy with ⟨rfl, _⟩ | ⟨rfl, hR, _, hp, hS, hq⟩
  ·exact ⟨false, rfl, fun h => by cases h⟩
  ·exact ⟨true, rfl, fun _ => ⟨hR, hp, hS, hq⟩⟩
 obtain ⟨ok, rfl, hok⟩ := hE
 have HOK := Lib.hid hok
 have T2 := Lib.hid (blkD hg T1.out)
 have G2 := Lib.hid (G1.out.trans hg)
 have B5 := Lib.hid (heap_alloc_new w2 (.cells (Qm.z 0).c 37))
 clear hy hok hg t0 t1 t2 t3 t4 t5
 go_upto_region 2 with (first
  | (refine wpList_store_row rfl 37 (.tmp 7) (.tmp 17) rfl w2.heap.size y.c rfl rfl 37 (Qm.z 0).c B5.out (by rw [Qm.c_size]; exact query_size) (by rw [Qm.c_size, Qm.c_size]) (Qm.c_all _) ?_)
  | fail)
 change Code.wp _ _ _ _ ((w2.alloc (.cells (Qm.z 0).c 37)).setRow w2.heap.size y.c)
 have gS : w2.grownBy ((w2.alloc (.cells (Qm.z 0).c 37)).setRow w2.heap.size y.c) none := grown_thenX (World.grownBy_alloc w2 (.cells (Qm.z 0).c 37) none) (grown_setRow _ _ _) (fun j e => by cases e; exact Nat.le_refl _)
 have R3 : Hid (((w2.alloc (.cells (Qm.z 0).c 37)).setRow w2.heap.size y.c).rangeAt w2.heap.size 3 y.cond.c) := Lib.hid (fun j u hj => by
  rw [cell_of_row _ _ _ _ _ _ (setRow_heap (w2.alloc (.cells (Qm.z 0).c 37)) w2.heap.size (Qm.z 0).c y.c _ _ B5.out)]; exact y.at3 j u hj)
 have T3 := Lib.hid (blkD gS T2.out)
 have G3 := Lib.hid (G2.out.trans gS)
 have GS := Lib.hid gS
 clear gS B5 T2
 generalize (w2.alloc (.cells (Qm.z 0).c 37)).setRow w2.heap.size y.c = w3 at *
 obtain ⟨bq, hbq⟩ : ∃ bq, bq = w2.heap.size := ⟨_, rfl⟩
 rw [← hbq] at R3 ⊢
 clear hbq
 cases ok with
 | false =>
  go_wp2_with fail
  refine (HA.out w3).mono ?_
  rintro e w4 ⟨rfl, hg⟩
  have G4 := Lib.hid (G3.out.trans hg)
  clear hg
  go_wp2_with fail
  refine (HA.out w4).mono ?_
  rintro e w5 ⟨rfl, hg⟩
  have G5 := Lib.hid (G4.out.trans hg)
  clear hg
  go_wp2_with fail
  go_ret
  exact ⟨rfl, G5.out⟩
 | true =>
  go_wp2_with fail
  refine (HA.out w3).mono ?_
  rintro e w4 ⟨rfl, hg⟩
  have G4 := Lib.hid (G3.out.trans hg)
  have T4 := Lib.hid (blkD hg T3.out)
  have R4 : Hid (w4.rangeAt bq 3 y.cond.c) := Lib.hid (fun j u hj => hg.cell (R3.out j u hj) (by simp))
  have H34 := Lib.hid hg
  obtain ⟨⟨t0, t1, t2⟩, t3, t4, t5⟩ := boxD3 T4.out
  have gB := World.grownBy_alloc w4 (.cells #[.slice ra rn rcap] 26) none
  have HR4 := Lib.hid (HR.out w4.heap.size (w4.alloc (.cells #[.slice ra rn rcap] 26)) (G4.out.trans gB) (heap_alloc_new w4 _))
  have GB := Lib.hid gB
  clear hg gB
  go_wp2_with fail
  refine (HR4.out).mono ?_
  rintro e w5 ⟨⟨bb, rfl, hbb⟩, hg⟩
  have hg5 := GB.out.trans hg
  have G5 := Lib.hid (G4.out.trans hg5)
  have T5 := Lib.hid (blkD hg5 T4.out)
  have R5 : Hid (w5.rangeAt bq 3 y.cond.c) := Lib.hid (fun j u hj => hg5.cell (R4.out j u hj) (by simp))
  have H35 := Lib.hid (H34.out.trans hg5)
  have HBB := Lib.hid hbb
  clear hg hg5 hbb t0 t1 t2 t3 t4 t5
  cases bb with
  | false =>
   go_wp2_with fail
   refine (HA.out w5).mono ?_
   rintro e w6 ⟨rfl, hg⟩
   have G6 := Lib.hid (G5.out.trans hg)
   clear hg
   go_wp2_with fail
   go_ret
   exact ⟨rfl, G6.out⟩
  | true =>
   obtain ⟨hR, hp, hS, Q, hq, hr, he⟩ := HOK.out (by first | trivial | rfl)
   have hfit := rgt_one (HBB.out.1 (by first | trivial | rfl))
   have hO := PrdOk.of (HNm.out hR) hp hq hr he
   have hS5 := (hS.2.1.keep (.of (GS.out.trans H35.out)))
   have hS0 : PmS S0 w5 y.cond := hS5.mono (fun _ _ _ => trivial)
   have hz := isT_trP tl rv y.cond.e (Prd.gd_w2 _ hO.gd)
   obtain ⟨k0, hk0⟩ : ∃ k0 : Nat, y.cond.c[0]? = some (.int .i64 k0) := by
    cases hc : y.cond with
    | mk k c r v o la lc l ka kc ks p => exact ⟨k, rfl⟩
   have c0 := R5.out 0 _ hk0
   rw [Nat.add_zero] at c0
   obtain ⟨⟨t0, t1, t2⟩, t3, t4, t5⟩ := boxD3 T5.out
   by_cases h0 : k0 = 0
   ·have e0 : ((k0 : Int) == 0) = true := by rw [h0]; rfl
    clear hR hp hS hq hr he hfit hO hS5 HOK HBB HD HT HP HR HQ HNm hS0 hz hk0 h0
    go_wp2_with fail
    refine (HA.out w5).mono ?_
    rintro e w6 ⟨rfl, hg⟩
    have G6 := Lib.hid (G5.out.trans hg)
    clear hg
    go_wp2_with fail
    go_ret
    exact ⟨rfl, G6.out⟩
   have e0 : ((k0 : Int) == 0) = false := by rw [beq_eq_false_iff_ne]; omega
   have HPc := Lib.hid (fun (x : Pm) (h1 : x.n ≤ 100000) (h2 : x.e.nod tl) W (hW : w5.grownBy W none) (hx : PmS S0 W x) => HP.out hR hfit S0 x h1 h2 W (G5.out.trans hW) hx)
   have HTc := Lib.hid (fun (x : Pm) (h1 : x.n ≤ 100000) (h2 : x.e.nod tl) W (hW : w5.grownBy W none) (hx : PmS S0 W x) => HT.out hR hfit S0 x h1 h2 W (G5.out.trans hW) hx)
   have HO := Lib.hid hO
   have HS0 := Lib.hid hS0
   have HZ := Lib.hid hz
   have hX1 : y.cond.c.toArray.size = 10 := y.cond.c_size
   clear hR hp hS hq hr he hfit hO hS5 HOK HBB HD HT HP HR HQ HNm hS0 hz hk0 h0
   go_upto_region 4 with fail
   clear e0 c0 t0 t1 t2 t3 t4 t5
   go_upto_region 5 with (first
    | (refine wpList_load_midGs (by rfl) 34 (.tmp 39) rfl bq 3 rfl y.cond.c _ R5.out Try.underlying34 rfl (by rw [Pm.c_len]; exact pred_size) ?_)
    | fail)
   rw [fold_tenL y.cond.c_len]
   have K1 := Lib.hid (heap_alloc_new w5 (.cells y.cond.c.toArray 34))
   obtain ⟨w6, hw6⟩ : ∃ w6, w6 = w5.alloc (.cells y.cond.c.toArray 34) := ⟨_, rfl⟩
   have H6 : Hid (w5.grownBy w6 none) := Lib.hid (by rw [hw6]; exact World.grownBy_alloc _ _ none)
   have hs6 : w6.heap.size = w5.heap.size + 1 := by rw [hw6]; simp
   rw [← hw6] at K1 ⊢
   clear hw6
   obtain ⟨g8, hg8⟩ : ∃ g8, g8 = w5.heap.size := ⟨_, rfl⟩
   rw [← hg8] at K1 hs6 ⊢
   have HG8 := Lib.hid hg8
   clear hg8
   have K2 := Lib.hid (heap_alloc_new w6 (.cells #[.int .i64 10, .string ⟨#[]⟩, .int .i64 0, .int .i64 0, .int .i64 0, .string ⟨#[]⟩, .string ⟨#[]⟩, .slice none 0 0, .slice (some ⟨g8, 0, none⟩) 1 1, .int .i64 0] 34))
   have H7 := Lib.hid (World.grownBy_alloc w6 (.cells #[.int .i64 10, .string ⟨#[]⟩, .int .i64 0, .int .i64 0, .int .i64 0, .string ⟨#[]⟩, .string ⟨#[]⟩, .slice none 0 0, .slice (some ⟨g8, 0, none⟩) 1 1, .int .i64 0] 34) none)
   have hs7 : (w6.alloc (.cells #[.int .i64 10, .string ⟨#[]⟩, .int .i64 0, .int .i64 0, .int .i64 0, .string ⟨#[]⟩, .string ⟨#[]⟩, .slice none 0 0, .slice (some ⟨g8, 0, none⟩) 1 1, .int .i64 0] 34)).heap.size = g8 + 1 + 1 := by rw [World.size_alloc, hs6]
   rw [hs6] at K2
   have K3 : Hid ((w6.alloc (.cells #[.int .i64 10, .string ⟨#[]⟩, .int .i64 0, .int .i64 0, .int .i64 0, .string ⟨#[]⟩, .string ⟨#[]⟩, .slice none 0 0, .slice (some ⟨g8, 0, none⟩) 1 1, .int .i64 0] 34)).heap[g8]? = some (.cells y.cond.c.toArray 34 (0, 0))) := Lib.hid (blkD H7.out K1.out)
   obtain ⟨w7, hw7⟩ : ∃ w7, w7 = w6.alloc (.cells #[.int .i64 10, .string ⟨#[]⟩, .int .i64 0, .int .i64 0, .int .i64 0, .string ⟨#[]⟩, .string ⟨#[]⟩, .slice none 0 0, .slice (some ⟨g8, 0, none⟩) 1 1, .int .i64 0] 34) := ⟨_, rfl⟩
   rw [← hw7] at K2 K3 H7 hs7 ⊢
   clear hw7 K1
   have A7 := Lib.hid (heap_alloc_new w7 (.cells #[.int .i64 10, .string ⟨#[]⟩, .int .i64 0, .int .i64 0, .int .i64 0, .string ⟨#[]⟩, .string ⟨#[]⟩, .slice none 0 0, .slice (some ⟨g8, 0, none⟩) 1 1, .int .i64 0] 34))
   have HS7 := Lib.hid hs7
   rw [hs7] at A7
   obtain ⟨⟨n0, n1, n2, n3, n4⟩, n5, n6, n7, n8, n9⟩ := ten_of K2.out
   clear hs6 hs7
   go_upto_region 6 with fail
   clear n0 n1 n2 n3 n4 n5 n6 n7 n8 n9
   rw [HS7.out]
   have B8 := Lib.hid (heap_alloc_new (w7.alloc (.cells #[.int .i64 10, .string ⟨#[]⟩, .int .i64 0, .int .i64 0, .int .i64 0, .string ⟨#[]⟩, .string ⟨#[]⟩, .slice none 0 0, .slice (some ⟨g8, 0, none⟩) 1 1, .int .i64 0] 34)) (.cells #[.int .i64 10, .string ⟨#[]⟩, .int .i64 0, .int .i64 0, .int .i64 0, .string ⟨#[]⟩, .string ⟨#[]⟩, .slice none 0 0, .slice (some ⟨(g8 + 1 + 1), 0, none⟩) 1 1, .int .i64 0] 34))
   have gB8 := Lib.hid (World.grownBy_alloc (w7.alloc (.cells #[.int .i64 10, .string ⟨#[]⟩, .int .i64 0, .int .i64 0, .int .i64 0, .string ⟨#[]⟩, .string ⟨#[]⟩, .slice none 0 0, .slice (some ⟨g8, 0, none⟩) 1 1, .int .i64 0] 34)) (.cells #[.int .i64 10, .string ⟨#[]⟩, .int .i64 0, .int .i64 0, .int .i64 0, .string ⟨#[]⟩, .string ⟨#[]⟩, .slice none 0 0, .slice (some ⟨(g8 + 1 + 1), 0, none⟩) 1 1, .int .i64 0] 34) none)
   have hsz : (w7.alloc (.cells #[.int .i64 10, .string ⟨#[]⟩, .int .i64 0, .int .i64 0, .int .i64 0, .string ⟨#[]⟩, .string ⟨#[]⟩, .slice none 0 0, .slice (some ⟨g8, 0, none⟩) 1 1, .int .i64 0] 34)).heap.size = g8 + 1 + 1 + 1 := by rw [World.size_alloc, HS7.out]
   rw [hsz] at B8
   have A8 := Lib.hid (blkD gB8.out A7.out)
   have gA8 := Lib.hid ((World.grownBy_alloc w7 (.cells #[.int .i64 10, .string ⟨#[]⟩, .int .i64 0, .int .i64 0, .int .i64 0, .string ⟨#[]⟩, .string ⟨#[]⟩, .slice none 0 0, .slice (some ⟨g8, 0, none⟩) 1 1, .int .i64 0] 34) none).trans gB8.out)
   obtain ⟨w8, hw8⟩ : ∃ w8, w8 = (w7.alloc (.cells #[.int .i64 10, .string ⟨#[]⟩, .int .i64 0, .int .i64 0, .int .i64 0, .string ⟨#[]⟩, .string ⟨#[]⟩, .slice none 0 0, .slice (some ⟨g8, 0, none⟩) 1 1, .int .i64 0] 34)).alloc (.cells #[.int .i64 10, .string ⟨#[]⟩, .int .i64 0, .int .i64 0, .int .i64 0, .string ⟨#[]⟩, .string ⟨#[]⟩, .slice none 0 0, .slice (some ⟨(g8 + 1 + 1), 0, none⟩) 1 1, .int .i64 0] 34) := ⟨_, rfl⟩
   change Code.wp _ _ _ _ ((w7.alloc (.cells #[.int .i64 10, .string ⟨#[]⟩, .int .i64 0, .int .i64 0, .int .i64 0, .string ⟨#[]⟩, .string ⟨#[]⟩, .slice none 0 0, .slice (some ⟨g8, 0, none⟩) 1 1, .int .i64 0] 34)).alloc (.cells #[.int .i64 10, .string ⟨#[]⟩, .int .i64 0, .int .i64 0, .int .i64 0, .string ⟨#[]⟩, .string ⟨#[]⟩, .slice none 0 0, .slice (some ⟨(g8 + 1 + 1), 0, none⟩) 1 1, .int .i64 0] 34))
   rw [← hw8] at A8 B8 gA8 ⊢
   clear hw8 hsz gB8 A7
   have H58 := Lib.hid (H6.out.trans (H7.out.trans gA8.out))
   have K8 := Lib.hid (blkD gA8.out K3.out)
   have N8 := Lib.hid (blkD gA8.out K2.out)
   have T8 := Lib.hid (blkD H58.out T5.out)
   have R8 : Hid (w8.rangeAt bq 3 y.cond.c) := Lib.hid (fun j u hj => H58.out.cell (R5.out j u hj) (by simp))
   have G8 := Lib.hid (G5.out.trans H58.out)
   have M8 := B8
   have hS8 : PmS S0 w8 y.cond := HS0.out.keep (.of H58.out)
   have hN8 : PmS S0 w8 (notPm g8 y.cond) := notPm_S K8.out hS8
   have hM8 : PmS S0 w8 (notPm (g8 + 1 + 1) (notPm g8 y.cond)) := notPm_S (x := notPm g8 y.cond) A8.out hN8
   have HP8 := Lib.hid (fun W (hW : w8.grownBy W none) => HPc.out y.cond (by have := HO.out.n; omega) HO.out.nod W (H58.out.trans hW) (hS8.keep (.of hW)))
   have HT8 := Lib.hid (fun W (hW : w8.grownBy W none) => HTc.out y.cond (by have := HO.out.n; omega) HO.out.nod W (H58.out.trans hW) (hS8.keep (.of hW)))
   have HN8 := Lib.hid (fun W (hW : w8.grownBy W none) => HPc.out (notPm g8 y.cond) (by have := HO.out.n; rw [notPm_n]; omega) (notPm_nod HO.out.nod) W (H58.out.trans hW) (hN8.keep (.of hW)))
   have HB8 := Lib.hid (fun W (hW : w8.grownBy W none) => HTc.out (notPm (g8 + 1 + 1) (notPm g8 y.cond)) (by have := HO.out.n; rw [notPm_n, notPm_n]; omega) (notPm_nod (notPm_nod HO.out.nod)) W (H58.out.trans hW) (hM8.keep (.of hW)))
   rw [notPm_tr] at HN8
   rw [notPm_tr, notPm_tr] at HB8
   clear HPc HTc hS8 hN8 hM8 HO HS0 T5 R5 K2 K3 H6 H7 gA8 A8 B8 K8 G5 HS7
   have hz := HZ.out
   clear HZ
   generalize trP tl rv y.cond.e = z at *
   unfold isT at hz
   rcases hz with rfl | rfl | rfl
   ·have HPq : Hid (∀ W, w8.grownBy W none → Calls Try.prog 11 #[.agg #[.string tn, .slice ta ln tcap, .int .i64 tk], .agg y.cond.c.toArray, .slice ra rn rcap] W fun e w' => e = .returned (.bool false) ∧ W.grownBy w' none) := Lib.hid (fun W hW => HP8.out W hW)
    have HPn : Hid (∀ W, w8.grownBy W none → Calls Try.prog 11 #[.agg #[.string tn, .slice ta ln tcap, .int .i64 tk], .agg #[.int .i64 10, .string ⟨#[]⟩, .int .i64 0, .int .i64 0, .int .i64 0, .string ⟨#[]⟩, .string ⟨#[]⟩, .slice none 0 0, .slice (some ⟨g8, 0, none⟩) 1 1, .int .i64 0], .slice ra rn rcap] W fun e w' => e = .returned (.bool true) ∧ W.grownBy w' none) := Lib.hid (fun W hW => HN8.out W hW)
    have HTq : Hid (∀ W, w8.grownBy W none → Calls Try.prog 10 #[.agg #[.string tn, .slice ta ln tcap, .int .i64 tk], .agg y.cond.c.toArray, .slice ra rn rcap] W fun e w' => e = .returned (.int .i64 0) ∧ W.grownBy w' none) := Lib.hid (fun W hW => HT8.out W hW)
    have HTb : Hid (∀ W, w8.grownBy W none → Calls Try.prog 10 #[.agg #[.string tn, .slice ta ln tcap, .int .i64 tk], .agg #[.int .i64 10, .string ⟨#[]⟩, .int .i64 0, .int .i64 0, .int .i64 0, .string ⟨#[]⟩, .string ⟨#[]⟩, .slice none 0 0, .slice (some ⟨(g8 + 1 + 1), 0, none⟩) 1 1, .int .i64 0], .slice ra rn rcap] W fun e w' => e = .returned (.int .i64 0) ∧ W.grownBy w' none) := Lib.hid (fun W hW => HB8.out W hW)
    clear HP8 HN8 HT8 HB8
    refine wp_region_held_drew (S := (fun W => Hid (w8.grownBy W none))) (by kernel_rfl) (Lib.hid (grown_drewT (grown_reflX w8 none))) (fun hHeld => ?_)
    refine TKA (i := 0) (v := .agg #[.string tn, .slice ta ln tcap, .int .i64 tk]) rfl (yieldsIf_load_mid (by rfl) _ _ rfl w.heap.size 0 rfl _ _ (fun W hS => range_rowD (blkD hS.out T8.out)) Try.underlying24 rfl tab_size) ?_
    refine TKA (i := 5) (v := .agg #[.string tn, .slice ta ln tcap, .int .i64 tk]) rfl (yieldsIf_load_mid (by rfl) _ _ rfl w.heap.size 0 rfl _ _ (fun W hS => range_rowD (blkD hS.out T8.out)) Try.underlying24 rfl tab_size) ?_
    refine TKA (i := 6) (v := .agg #[.int .i64 10, .string ⟨#[]⟩, .int .i64 0, .int .i64 0, .int .i64 0, .string ⟨#[]⟩, .string ⟨#[]⟩, .slice none 0 0, .slice (some ⟨g8, 0, none⟩) 1 1, .int .i64 0]) rfl (yieldsIf_load_mid (by rfl) _ _ rfl (g8 + 1) 0 rfl _ _ (fun W hS => range_rowD (blkD hS.out N8.out)) Try.underlying34 rfl pred_size) ?_
    go_simp
    refine TKB (i := 1) (v := ?vaz) rfl ?yaz ?raz
    case yaz => (intro w hSw; (try dsimp only at hSw); go_simp; try with_reducible rfl)
    refine TKA (i := 2) (v := .agg y.cond.c.toArray) rfl (yieldsIf_load_mid (by rfl) _ _ rfl bq 3 rfl y.cond.c _ (fun W hS => fun j u hj => hS.out.cell (R8.out j u hj) (by simp)) Try.underlying34 rfl (by rw [Pm.c_len]; exact pred_size)) ?_
    refine TKB (i := 3) (v := ?vbz) rfl ?ybz ?rbz
    case ybz => (intro w hSw; (try dsimp only at hSw); go_simp; try with_reducible rfl)
    go_simp
    refine TKB (i := 7) (v := ?vcz) rfl ?ycz ?rcz
    case ycz => (intro w hSw; (try dsimp only at hSw); go_simp; try with_reducible rfl)
    go_simp
    refine RD1 (i := 4) rfl (fun K' hK => ?_)
    go_simp
    go_at_call 11
    refine (HPq.out _ (grown_drewT (grown_reflX w8 none))).mono ?_
    rintro e w9 ⟨rfl, hg⟩
    have Z9 : Hid (w8.grownBy w9 none) := Lib.hid ((grown_drewT (grown_reflX w8 none)).trans hg)
    clear hg
    refine hK.out _ _ Z9 (fun hHeld => ?_)
    clear hK K'
    go_simp
    refine RD1 (i := 8) rfl (fun K' hK => ?_)
    go_simp
    go_at_call 11
    refine (HPn.out _ Z9.out).mono ?_
    rintro e w10 ⟨rfl, hg⟩
    have Z10 : Hid (w8.grownBy w10 none) := Lib.hid (Z9.out.trans hg)
    clear hg
    refine hK.out _ _ Z10 (fun hHeld => ?_)
    clear hK K'
    refine TKB (i := 9) (v := ?vdz) rfl ?ydz ?rdz
    case ydz => (intro w hSw; (try dsimp only at hSw); go_simp; try with_reducible rfl)
    refine TKB (i := 10) (v := ?vez) rfl ?yez ?rez
    case yez => (intro w hSw; (try dsimp only at hSw); go_simp; try with_reducible rfl)
    go_simp
    refine wpAnyH_done (by kernel_rfl) ?_ _
    go_upto_region 7 with fail
    refine wp_region_held_drew (S := (fun W => Hid (w8.grownBy W none))) (by kernel_rfl) (Lib.hid (grown_drewT Z10.out)) (fun hHeld => ?_)
    refine TKB (i := 0) (v := ?vfz) rfl ?yfz ?rfz
    case yfz => (intro w hSw; (try dsimp only at hSw); go_simp; try with_reducible rfl)
    go_simp
    refine TKB (i := 1) (v := ?vgz) rfl ?ygz ?rgz
    case ygz => (intro w hSw; (try dsimp only at hSw); go_simp; try with_reducible rfl)
    refine TKU (i := 2) rfl ?_
    refine TKB (i := 3) (v := ?vhz) rfl ?yhz ?rhz
    case yhz => (intro w hSw; (try dsimp only at hSw); go_simp; try with_reducible rfl)
    go_simp
    refine TKB (i := 4) (v := ?viz) rfl ?yiz ?riz
    case yiz => (intro w hSw; (try dsimp only at hSw); go_simp; try with_reducible rfl)
    refine TKB (i := 5) (v := ?vjz) rfl ?yjz ?rjz
    case yjz => (intro w hSw; (try dsimp only at hSw); go_simp; try with_reducible rfl)
    refine TKA (i := 10) (v := .agg #[.string tn, .slice ta ln tcap, .int .i64 tk]) rfl (yieldsIf_load_mid (by rfl) _ _ rfl w.heap.size 0 rfl _ _ (fun W hS => range_rowD (blkD hS.out T8.out)) Try.underlying24 rfl tab_size) ?_
    go_simp
    refine TKB (i := 6) (v := ?vkz) rfl ?ykz ?rkz
    case ykz => (intro w hSw; (try dsimp only at hSw); go_simp; try with_reducible rfl)
    refine TKB (i := 7) (v := ?vlz) rfl ?ylz ?rlz
    case ylz => (intro w hSw; (try dsimp only at hSw); go_simp; try with_reducible rfl)
    refine TKB (i := 8) (v := ?vmz) rfl ?ymz ?rmz
    case ymz => (intro w hSw; (try dsimp only at hSw); go_simp; try with_reducible rfl)
    go_simp
    refine TKB (i := 9) (v := ?vnz) rfl ?ynz ?rnz
    case ynz => (intro w hSw; (try dsimp only at hSw); go_simp; try with_reducible rfl)
    refine TKB (i := 11) (v := ?voz) rfl ?yoz ?roz
    case yoz => (intro w hSw; (try dsimp only at hSw); go_simp; try with_reducible rfl)
    refine TKA (i := 12) (v := .agg y.cond.c.toArray) rfl (yieldsIf_load_mid (by rfl) _ _ rfl bq 3 rfl y.cond.c _ (fun W hS => fun j u hj => hS.out.cell (R8.out j u hj) (by simp)) Try.underlying34 rfl (by rw [Pm.c_len]; exact pred_size)) ?_
    go_simp
    refine TKB (i := 13) (v := ?vpz) rfl ?ypz ?rpz
    case ypz => (intro w hSw; (try dsimp only at hSw); go_simp; try with_reducible rfl)
    go_simp
    refine RD1 (i := 14) rfl (fun K' hK => ?_)
    go_simp
    go_at_call 10
    refine (HTq.out _ (grown_drewT Z10.out)).mono ?_
    rintro e w11 ⟨rfl, hg⟩
    have Z11 : Hid (w8.grownBy w11 none) := Lib.hid ((grown_drewT Z10.out).trans hg)
    clear hg
    refine hK.out _ _ Z11 (fun hHeld => ?_)
    clear hK K'
    refine TKB (i := 15) (v := ?vqz) rfl ?yqz ?rqz
    case yqz => (intro w hSw; (try dsimp only at hSw); go_simp; try with_reducible rfl)
    refine TKB (i := 16) (v := ?vrz) rfl ?yrz ?rrz
    case yrz => (intro w hSw; (try dsimp only at hSw); go_simp; try with_reducible rfl)
    go_simp
    refine TKB (i := 17) (v := ?vsz) rfl ?ysz ?rsz
    case ysz => (intro w hSw; (try dsimp only at hSw); go_simp; try with_reducible rfl)
    refine TKB (i := 18) (v := ?vtz) rfl ?ytz ?rtz
    case ytz => (intro w hSw; (try dsimp only at hSw); go_simp; try with_reducible rfl)
    refine TKA (i := 19) (v := .agg #[.string tn, .slice ta ln tcap, .int .i64 tk]) rfl (yieldsIf_load_mid (by rfl) _ _ rfl w.heap.size 0 rfl _ _ (fun W hS => range_rowD (blkD hS.out T8.out)) Try.underlying24 rfl tab_size) ?_
    go_simp
    refine TKA (i := 20) (v := .agg #[.int .i64 10, .string ⟨#[]⟩, .int .i64 0, .int .i64 0, .int .i64 0, .string ⟨#[]⟩, .string ⟨#[]⟩, .slice none 0 0, .slice (some ⟨(g8 + 1 + 1), 0, none⟩) 1 1, .int .i64 0]) rfl (yieldsIf_load_mid (by rfl) _ _ rfl (g8 + 1 + 1 + 1) 0 rfl _ _ (fun W hS => range_rowD (blkD hS.out M8.out)) Try.underlying34 rfl pred_size) ?_
    refine TKA (i := 23) (v := .agg #[.string tn, .slice ta ln tcap, .int .i64 tk]) rfl (yieldsIf_load_mid (by rfl) _ _ rfl w.heap.size 0 rfl _ _ (fun W hS => range_rowD (blkD hS.out T8.out)) Try.underlying24 rfl tab_size) ?_
    refine TKB (i := 21) (v := ?vuz) rfl ?yuz ?ruz
    case yuz => (intro w hSw; (try dsimp only at hSw); go_simp; try with_reducible rfl)
    go_simp
    refine TKB (i := 24) (v := ?vvz) rfl ?yvz ?rvz
    case yvz => (intro w hSw; (try dsimp only at hSw); go_simp; try with_reducible rfl)
    refine TKA (i := 25) (v := .agg y.cond.c.toArray) rfl (yieldsIf_load_mid (by rfl) _ _ rfl bq 3 rfl y.cond.c _ (fun W hS => fun j u hj => hS.out.cell (R8.out j u hj) (by simp)) Try.underlying34 rfl (by rw [Pm.c_len]; exact pred_size)) ?_
    refine TKB (i := 26) (v := ?vwz) rfl ?ywz ?rwz
    case ywz => (intro w hSw; (try dsimp only at hSw); go_simp; try with_reducible rfl)
    go_simp
    refine RD1 (i := 22) rfl (fun K' hK => ?_)
    go_simp
    go_at_call 10
    refine (HTb.out _ Z11.out).mono ?_
    rintro e w12 ⟨rfl, hg⟩
    have Z12 : Hid (w8.grownBy w12 none) := Lib.hid (Z11.out.trans hg)
    clear hg
    refine hK.out _ _ Z12 (fun hHeld => ?_)
    clear hK K'
    go_simp
    refine RD1 (i := 27) rfl (fun K' hK => ?_)
    go_simp
    go_at_call 10
    refine (HTq.out _ Z12.out).mono ?_
    rintro e w13 ⟨rfl, hg⟩
    have Z13 : Hid (w8.grownBy w13 none) := Lib.hid (Z12.out.trans hg)
    clear hg
    refine hK.out _ _ Z13 (fun hHeld => ?_)
    clear hK K'
    refine TKB (i := 28) (v := ?vxz) rfl ?yxz ?rxz
    case yxz => (intro w hSw; (try dsimp only at hSw); go_simp; try with_reducible rfl)
    refine TKB (i := 29) (v := ?vyz) rfl ?yyz ?ryz
    case yyz => (intro w hSw; (try dsimp only at hSw); go_simp; try with_reducible rfl)
    go_simp
    refine TKB (i := 30) (v := ?vzz) rfl ?yzz ?rzz
    case yzz => (intro w hSw; (try dsimp only at hSw); go_simp; try with_reducible rfl)
    go_simp
    refine wpAnyH_done (by kernel_rfl) ?_ _
    go_wp2_with fail
    go_ret
    exact ⟨rfl, G8.out.trans Z13.out⟩
   ·have HPq : Hid (∀ W, w8.grownBy W none → Calls Try.prog 11 #[.agg #[.string tn, .slice ta ln tcap, .int .i64 tk], .agg y.cond.c.toArray, .slice ra rn rcap] W fun e w' => e = .returned (.bool true) ∧ W.grownBy w' none) := Lib.hid (fun W hW => HP8.out W hW)
    have HPn : Hid (∀ W, w8.grownBy W none → Calls Try.prog 11 #[.agg #[.string tn, .slice ta ln tcap, .int .i64 tk], .agg #[.int .i64 10, .string ⟨#[]⟩, .int .i64 0, .int .i64 0, .int .i64 0, .string ⟨#[]⟩, .string ⟨#[]⟩, .slice none 0 0, .slice (some ⟨g8, 0, none⟩) 1 1, .int .i64 0], .slice ra rn rcap] W fun e w' => e = .returned (.bool false) ∧ W.grownBy w' none) := Lib.hid (fun W hW => HN8.out W hW)
    have HTq : Hid (∀ W, w8.grownBy W none → Calls Try.prog 10 #[.agg #[.string tn, .slice ta ln tcap, .int .i64 tk], .agg y.cond.c.toArray, .slice ra rn rcap] W fun e w' => e = .returned (.int .i64 1) ∧ W.grownBy w' none) := Lib.hid (fun W hW => HT8.out W hW)
    have HTb : Hid (∀ W, w8.grownBy W none → Calls Try.prog 10 #[.agg #[.string tn, .slice ta ln tcap, .int .i64 tk], .agg #[.int .i64 10, .string ⟨#[]⟩, .int .i64 0, .int .i64 0, .int .i64 0, .string ⟨#[]⟩, .string ⟨#[]⟩, .slice none 0 0, .slice (some ⟨(g8 + 1 + 1), 0, none⟩) 1 1, .int .i64 0], .slice ra rn rcap] W fun e w' => e = .returned (.int .i64 1) ∧ W.grownBy w' none) := Lib.hid (fun W hW => HB8.out W hW)
    clear HP8 HN8 HT8 HB8
    refine wp_region_held_drew (S := (fun W => Hid (w8.grownBy W none))) (by kernel_rfl) (Lib.hid (grown_drewT (grown_reflX w8 none))) (fun hHeld => ?_)
    refine TKA (i := 0) (v := .agg #[.string tn, .slice ta ln tcap, .int .i64 tk]) rfl (yieldsIf_load_mid (by rfl) _ _ rfl w.heap.size 0 rfl _ _ (fun W hS => range_rowD (blkD hS.out T8.out)) Try.underlying24 rfl tab_size) ?_
    refine TKA (i := 5) (v := .agg #[.string tn, .slice ta ln tcap, .int .i64 tk]) rfl (yieldsIf_load_mid (by rfl) _ _ rfl w.heap.size 0 rfl _ _ (fun W hS => range_rowD (blkD hS.out T8.out)) Try.underlying24 rfl tab_size) ?_
    refine TKA (i := 6) (v := .agg #[.int .i64 10, .string ⟨#[]⟩, .int .i64 0, .int .i64 0, .int .i64 0, .string ⟨#[]⟩, .string ⟨#[]⟩, .slice none 0 0, .slice (some ⟨g8, 0, none⟩) 1 1, .int .i64 0]) rfl (yieldsIf_load_mid (by rfl) _ _ rfl (g8 + 1) 0 rfl _ _ (fun W hS => range_rowD (blkD hS.out N8.out)) Try.underlying34 rfl pred_size) ?_
    go_simp
    refine TKB (i := 1) (v := ?v0z) rfl ?y0z ?r0z
    case y0z => (intro w hSw; (try dsimp only at hSw); go_simp; try with_reducible rfl)
    refine TKA (i := 2) (v := .agg y.cond.c.toArray) rfl (yieldsIf_load_mid (by rfl) _ _ rfl bq 3 rfl y.cond.c _ (fun W hS => fun j u hj => hS.out.cell (R8.out j u hj) (by simp)) Try.underlying34 rfl (by rw [Pm.c_len]; exact pred_size)) ?_
    refine TKB (i := 3) (v := ?v1z) rfl ?y1z ?r1z
    case y1z => (intro w hSw; (try dsimp only at hSw); go_simp; try with_reducible rfl)
    go_simp
    refine TKB (i := 7) (v := ?v2z) rfl ?y2z ?r2z
    case y2z => (intro w hSw; (try dsimp only at hSw); go_simp; try with_reducible rfl)
    go_simp
    refine RD1 (i := 4) rfl (fun K' hK => ?_)
    go_simp
    go_at_call 11
    refine (HPq.out _ (grown_drewT (grown_reflX w8 none))).mono ?_
    rintro e w9 ⟨rfl, hg⟩
    have Z9 : Hid (w8.grownBy w9 none) := Lib.hid ((grown_drewT (grown_reflX w8 none)).trans hg)
    clear hg
    refine hK.out _ _ Z9 (fun hHeld => ?_)
    clear hK K'
    go_simp
    refine RD1 (i := 8) rfl (fun K' hK => ?_)
    go_simp
    go_at_call 11
    refine (HPn.out _ Z9.out).mono ?_
    rintro e w10 ⟨rfl, hg⟩
    have Z10 : Hid (w8.grownBy w10 none) := Lib.hid (Z9.out.trans hg)
    clear hg
    refine hK.out _ _ Z10 (fun hHeld => ?_)
    clear hK K'
    refine TKB (i := 9) (v := ?v3z) rfl ?y3z ?r3z
    case y3z => (intro w hSw; (try dsimp only at hSw); go_simp; try with_reducible rfl)
    refine TKB (i := 10) (v := ?v4z) rfl ?y4z ?r4z
    case y4z => (intro w hSw; (try dsimp only at hSw); go_simp; try with_reducible rfl)
    go_simp
    refine wpAnyH_done (by kernel_rfl) ?_ _
    go_upto_region 7 with fail
    refine wp_region_held_drew (S := (fun W => Hid (w8.grownBy W none))) (by kernel_rfl) (Lib.hid (grown_drewT Z10.out)) (fun hHeld => ?_)
    refine TKB (i := 0) (v := ?v5z) rfl ?y5z ?r5z
    case y5z => (intro w hSw; (try dsimp only at hSw); go_simp; try with_reducible rfl)
    go_simp
    refine TKB (i := 1) (v := ?v6z) rfl ?y6z ?r6z
    case y6z => (intro w hSw; (try dsimp only at hSw); go_simp; try with_reducible rfl)
    refine TKB (i := 2) (v := ?v7z) rfl ?y7z ?r7z
    case y7z => (intro w hSw; (try dsimp only at hSw); go_simp; try with_reducible rfl)
    refine TKB (i := 3) (v := ?v8z) rfl ?y8z ?r8z
    case y8z => (intro w hSw; (try dsimp only at hSw); go_simp; try with_reducible rfl)
    go_simp
    refine TKB (i := 4) (v := ?v9z) rfl ?y9z ?r9z
    case y9z => (intro w hSw; (try dsimp only at hSw); go_simp; try with_reducible rfl)
    refine TKB (i := 5) (v := ?vbaz) rfl ?ybaz ?rbaz
    case ybaz => (intro w hSw; (try dsimp only at hSw); go_simp; try with_reducible rfl)
    refine TKA (i := 10) (v := .agg #[.string tn, .slice ta ln tcap, .int .i64 tk]) rfl (yieldsIf_load_mid (by rfl) _ _ rfl w.heap.size 0 rfl _ _ (fun W hS => range_rowD (blkD hS.out T8.out)) Try.underlying24 rfl tab_size) ?_
    go_simp
    refine TKB (i := 6) (v := ?vbbz) rfl ?ybbz ?rbbz
    case ybbz => (intro w hSw; (try dsimp only at hSw); go_simp; try with_reducible rfl)
    refine TKB (i := 7) (v := ?vbcz) rfl ?ybcz ?rbcz
    case ybcz => (intro w hSw; (try dsimp only at hSw); go_simp; try with_reducible rfl)
    refine TKU (i := 8) rfl ?_
    go_simp
    refine TKB (i := 9) (v := ?vbdz) rfl ?ybdz ?rbdz
    case ybdz => (intro w hSw; (try dsimp only at hSw); go_simp; try with_reducible rfl)
    refine TKB (i := 11) (v := ?vbez) rfl ?ybez ?rbez
    case ybez => (intro w hSw; (try dsimp only at hSw); go_simp; try with_reducible rfl)
    refine TKA (i := 12) (v := .agg y.cond.c.toArray) rfl (yieldsIf_load_mid (by rfl) _ _ rfl bq 3 rfl y.cond.c _ (fun W hS => fun j u hj => hS.out.cell (R8.out j u hj) (by simp)) Try.underlying34 rfl (by rw [Pm.c_len]; exact pred_size)) ?_
    go_simp
    refine TKB (i := 13) (v := ?vbfz) rfl ?ybfz ?rbfz
    case ybfz => (intro w hSw; (try dsimp only at hSw); go_simp; try with_reducible rfl)
    go_simp
    refine RD1 (i := 14) rfl (fun K' hK => ?_)
    go_simp
    go_at_call 10
    refine (HTq.out _ (grown_drewT Z10.out)).mono ?_
    rintro e w11 ⟨rfl, hg⟩
    have Z11 : Hid (w8.grownBy w11 none) := Lib.hid ((grown_drewT Z10.out).trans hg)
    clear hg
    refine hK.out _ _ Z11 (fun hHeld => ?_)
    clear hK K'
    refine TKB (i := 15) (v := ?vbgz) rfl ?ybgz ?rbgz
    case ybgz => (intro w hSw; (try dsimp only at hSw); go_simp; try with_reducible rfl)
    refine TKB (i := 16) (v := ?vbhz) rfl ?ybhz ?rbhz
    case ybhz => (intro w hSw; (try dsimp only at hSw); go_simp; try with_reducible rfl)
    go_simp
    refine TKB (i := 17) (v := ?vbiz) rfl ?ybiz ?rbiz
    case ybiz => (intro w hSw; (try dsimp only at hSw); go_simp; try with_reducible rfl)
    refine TKB (i := 18) (v := ?vbjz) rfl ?ybjz ?rbjz
    case ybjz => (intro w hSw; (try dsimp only at hSw); go_simp; try with_reducible rfl)
    refine TKA (i := 19) (v := .agg #[.string tn, .slice ta ln tcap, .int .i64 tk]) rfl (yieldsIf_load_mid (by rfl) _ _ rfl w.heap.size 0 rfl _ _ (fun W hS => range_rowD (blkD hS.out T8.out)) Try.underlying24 rfl tab_size) ?_
    go_simp
    refine TKA (i := 20) (v := .agg #[.int .i64 10, .string ⟨#[]⟩, .int .i64 0, .int .i64 0, .int .i64 0, .string ⟨#[]⟩, .string ⟨#[]⟩, .slice none 0 0, .slice (some ⟨(g8 + 1 + 1), 0, none⟩) 1 1, .int .i64 0]) rfl (yieldsIf_load_mid (by rfl) _ _ rfl (g8 + 1 + 1 + 1) 0 rfl _ _ (fun W hS => range_rowD (blkD hS.out M8.out)) Try.underlying34 rfl pred_size) ?_
    refine TKA (i := 23) (v := .agg #[.string tn, .slice ta ln tcap, .int .i64 tk]) rfl (yieldsIf_load_mid (by rfl) _ _ rfl w.heap.size 0 rfl _ _ (fun W hS => range_rowD (blkD hS.out T8.out)) Try.underlying24 rfl tab_size) ?_
    refine TKB (i := 21) (v := ?vbkz) rfl ?ybkz ?rbkz
    case ybkz => (intro w hSw; (try dsimp only at hSw); go_simp; try with_reducible rfl)
    go_simp
    refine TKB (i := 24) (v := ?vblz) rfl ?yblz ?rblz
    case yblz => (intro w hSw; (try dsimp only at hSw); go_simp; try with_reducible rfl)
    refine TKA (i := 25) (v := .agg y.cond.c.toArray) rfl (yieldsIf_load_mid (by rfl) _ _ rfl bq 3 rfl y.cond.c _ (fun W hS => fun j u hj => hS.out.cell (R8.out j u hj) (by simp)) Try.underlying34 rfl (by rw [Pm.c_len]; exact pred_size)) ?_
    refine TKB (i := 26) (v := ?vbmz) rfl ?ybmz ?rbmz
    case ybmz => (intro w hSw; (try dsimp only at hSw); go_simp; try with_reducible rfl)
    go_simp
    refine RD1 (i := 22) rfl (fun K' hK => ?_)
    go_simp
    go_at_call 10
    refine (HTb.out _ Z11.out).mono ?_
    rintro e w12 ⟨rfl, hg⟩
    have Z12 : Hid (w8.grownBy w12 none) := Lib.hid (Z11.out.trans hg)
    clear hg
    refine hK.out _ _ Z12 (fun hHeld => ?_)
    clear hK K'
    go_simp
    refine RD1 (i := 27) rfl (fun K' hK => ?_)
    go_simp
    go_at_call 10
    refine (HTq.out _ Z12.out).mono ?_
    rintro e w13 ⟨rfl, hg⟩
    have Z13 : Hid (w8.grownBy w13 none) := Lib.hid (Z12.out.trans hg)
    clear hg
    refine hK.out _ _ Z13 (fun hHeld => ?_)
    clear hK K'
    refine TKB (i := 28) (v := ?vbnz) rfl ?ybnz ?rbnz
    case ybnz => (intro w hSw; (try dsimp only at hSw); go_simp; try with_reducible rfl)
    refine TKB (i := 29) (v := ?vboz) rfl ?yboz ?rboz
    case yboz => (intro w hSw; (try dsimp only at hSw); go_simp; try with_reducible rfl)
    go_simp
    refine TKB (i := 30) (v := ?vbpz) rfl ?ybpz ?rbpz
    case ybpz => (intro w hSw; (try dsimp only at hSw); go_simp; try with_reducible rfl)
    go_simp
    refine wpAnyH_done (by kernel_rfl) ?_ _
    go_wp2_with fail
    go_ret
    exact ⟨rfl, G8.out.trans Z13.out⟩
   ·have HPq : Hid (∀ W, w8.grownBy W none → Calls Try.prog 11 #[.agg #[.string tn, .slice ta ln tcap, .int .i64 tk], .agg y.cond.c.toArray, .slice ra rn rcap] W fun e w' => e = .returned (.bool false) ∧ W.grownBy w' none) := Lib.hid (fun W hW => HP8.out W hW)
    have HPn : Hid (∀ W, w8.grownBy W none → Calls Try.prog 11 #[.agg #[.string tn, .slice ta ln tcap, .int .i64 tk], .agg #[.int .i64 10, .string ⟨#[]⟩, .int .i64 0, .int .i64 0, .int .i64 0, .string ⟨#[]⟩, .string ⟨#[]⟩, .slice none 0 0, .slice (some ⟨g8, 0, none⟩) 1 1, .int .i64 0], .slice ra rn rcap] W fun e w' => e = .returned (.bool false) ∧ W.grownBy w' none) := Lib.hid (fun W hW => HN8.out W hW)
    have HTq : Hid (∀ W, w8.grownBy W none → Calls Try.prog 10 #[.agg #[.string tn, .slice ta ln tcap, .int .i64 tk], .agg y.cond.c.toArray, .slice ra rn rcap] W fun e w' => e = .returned (.int .i64 2) ∧ W.grownBy w' none) := Lib.hid (fun W hW => HT8.out W hW)
    have HTb : Hid (∀ W, w8.grownBy W none → Calls Try.prog 10 #[.agg #[.string tn, .slice ta ln tcap, .int .i64 tk], .agg #[.int .i64 10, .string ⟨#[]⟩, .int .i64 0, .int .i64 0, .int .i64 0, .string ⟨#[]⟩, .string ⟨#[]⟩, .slice none 0 0, .slice (some ⟨(g8 + 1 + 1), 0, none⟩) 1 1, .int .i64 0], .slice ra rn rcap] W fun e w' => e = .returned (.int .i64 2) ∧ W.grownBy w' none) := Lib.hid (fun W hW => HB8.out W hW)
    clear HP8 HN8 HT8 HB8
    refine wp_region_held_drew (S := (fun W => Hid (w8.grownBy W none))) (by kernel_rfl) (Lib.hid (grown_drewT (grown_reflX w8 none))) (fun hHeld => ?_)
    refine TKA (i := 0) (v := .agg #[.string tn, .slice ta ln tcap, .int .i64 tk]) rfl (yieldsIf_load_mid (by rfl) _ _ rfl w.heap.size 0 rfl _ _ (fun W hS => range_rowD (blkD hS.out T8.out)) Try.underlying24 rfl tab_size) ?_
    refine TKA (i := 5) (v := .agg #[.string tn, .slice ta ln tcap, .int .i64 tk]) rfl (yieldsIf_load_mid (by rfl) _ _ rfl w.heap.size 0 rfl _ _ (fun W hS => range_rowD (blkD hS.out T8.out)) Try.underlying24 rfl tab_size) ?_
    refine TKA (i := 6) (v := .agg #[.int .i64 10, .string ⟨#[]⟩, .int .i64 0, .int .i64 0, .int .i64 0, .string ⟨#[]⟩, .string ⟨#[]⟩, .slice none 0 0, .slice (some ⟨g8, 0, none⟩) 1 1, .int .i64 0]) rfl (yieldsIf_load_mid (by rfl) _ _ rfl (g8 + 1) 0 rfl _ _ (fun W hS => range_rowD (blkD hS.out N8.out)) Try.underlying34 rfl pred_size) ?_
    go_simp
    refine TKB (i := 1) (v := ?vbqz) rfl ?ybqz ?rbqz
    case ybqz => (intro w hSw; (try dsimp only at hSw); go_simp; try with_reducible rfl)
    refine TKA (i := 2) (v := .agg y.cond.c.toArray) rfl (yieldsIf_load_mid (by rfl) _ _ rfl bq 3 rfl y.cond.c _ (fun W hS => fun j u hj => hS.out.cell (R8.out j u hj) (by simp)) Try.underlying34 rfl (by rw [Pm.c_len]; exact pred_size)) ?_
    refine TKB (i := 3) (v := ?vbrz) rfl ?ybrz ?rbrz
    case ybrz => (intro w hSw; (try dsimp only at hSw); go_simp; try with_reducible rfl)
    go_simp
    refine TKB (i := 7) (v := ?vbsz) rfl ?ybsz ?rbsz
    case ybsz => (intro w hSw; (try dsimp only at hSw); go_simp; try with_reducible rfl)
    go_simp
    refine RD1 (i := 4) rfl (fun K' hK => ?_)
    go_simp
    go_at_call 11
    refine (HPq.out _ (grown_drewT (grown_reflX w8 none))).mono ?_
    rintro e w9 ⟨rfl, hg⟩
    have Z9 : Hid (w8.grownBy w9 none) := Lib.hid ((grown_drewT (grown_reflX w8 none)).trans hg)
    clear hg
    refine hK.out _ _ Z9 (fun hHeld => ?_)
    clear hK K'
    go_simp
    refine RD1 (i := 8) rfl (fun K' hK => ?_)
    go_simp
    go_at_call 11
    refine (HPn.out _ Z9.out).mono ?_
    rintro e w10 ⟨rfl, hg⟩
    have Z10 : Hid (w8.grownBy w10 none) := Lib.hid (Z9.out.trans hg)
    clear hg
    refine hK.out _ _ Z10 (fun hHeld => ?_)
    clear hK K'
    refine TKB (i := 9) (v := ?vbtz) rfl ?ybtz ?rbtz
    case ybtz => (intro w hSw; (try dsimp only at hSw); go_simp; try with_reducible rfl)
    refine TKB (i := 10) (v := ?vbuz) rfl ?ybuz ?rbuz
    case ybuz => (intro w hSw; (try dsimp only at hSw); go_simp; try with_reducible rfl)
    go_simp
    refine wpAnyH_done (by kernel_rfl) ?_ _
    go_upto_region 7 with fail
    refine wp_region_held_drew (S := (fun W => Hid (w8.grownBy W none))) (by kernel_rfl) (Lib.hid (grown_drewT Z10.out)) (fun hHeld => ?_)
    refine TKB (i := 0) (v := ?vbvz) rfl ?ybvz ?rbvz
    case ybvz => (intro w hSw; (try dsimp only at hSw); go_simp; try with_reducible rfl)
    go_simp
    refine TKB (i := 1) (v := ?vbwz) rfl ?ybwz ?rbwz
    case ybwz => (intro w hSw; (try dsimp only at hSw); go_simp; try with_reducible rfl)
    refine TKU (i := 2) rfl ?_
    refine TKB (i := 3) (v := ?vbxz) rfl ?ybxz ?rbxz
    case ybxz => (intro w hSw; (try dsimp only at hSw); go_simp; try with_reducible rfl)
    go_simp
    refine TKB (i := 4) (v := ?vbyz) rfl ?ybyz ?rbyz
    case ybyz => (intro w hSw; (try dsimp only at hSw); go_simp; try with_reducible rfl)
    refine TKB (i := 5) (v := ?vbzz) rfl ?ybzz ?rbzz
    case ybzz => (intro w hSw; (try dsimp only at hSw); go_simp; try with_reducible rfl)
    refine TKA (i := 10) (v := .agg #[.string tn, .slice ta ln tcap, .int .i64 tk]) rfl (yieldsIf_load_mid (by rfl) _ _ rfl w.heap.size 0 rfl _ _ (fun W hS => range_rowD (blkD hS.out T8.out)) Try.underlying24 rfl tab_size) ?_
    go_simp
    refine TKB (i := 6) (v := ?vb0z) rfl ?yb0z ?rb0z
    case yb0z => (intro w hSw; (try dsimp only at hSw); go_simp; try with_reducible rfl)
    refine TKB (i := 7) (v := ?vb1z) rfl ?yb1z ?rb1z
    case yb1z => (intro w hSw; (try dsimp only at hSw); go_simp; try with_reducible rfl)
    refine TKB (i := 8) (v := ?vb2z) rfl ?yb2z ?rb2z
    case yb2z => (intro w hSw; (try dsimp only at hSw); go_simp; try with_reducible rfl)
    go_simp
    refine TKB (i := 9) (v := ?vb3z) rfl ?yb3z ?rb3z
    case yb3z => (intro w hSw; (try dsimp only at hSw); go_simp; try with_reducible rfl)
    refine TKB (i := 11) (v := ?vb4z) rfl ?yb4z ?rb4z
    case yb4z => (intro w hSw; (try dsimp only at hSw); go_simp; try with_reducible rfl)
    refine TKA (i := 12) (v := .agg y.cond.c.toArray) rfl (yieldsIf_load_mid (by rfl) _ _ rfl bq 3 rfl y.cond.c _ (fun W hS => fun j u hj => hS.out.cell (R8.out j u hj) (by simp)) Try.underlying34 rfl (by rw [Pm.c_len]; exact pred_size)) ?_
    go_simp
    refine TKB (i := 13) (v := ?vb5z) rfl ?yb5z ?rb5z
    case yb5z => (intro w hSw; (try dsimp only at hSw); go_simp; try with_reducible rfl)
    go_simp
    refine RD1 (i := 14) rfl (fun K' hK => ?_)
    go_simp
    go_at_call 10
    refine (HTq.out _ (grown_drewT Z10.out)).mono ?_
    rintro e w11 ⟨rfl, hg⟩
    have Z11 : Hid (w8.grownBy w11 none) := Lib.hid ((grown_drewT Z10.out).trans hg)
    clear hg
    refine hK.out _ _ Z11 (fun hHeld => ?_)
    clear hK K'
    refine TKB (i := 15) (v := ?vb6z) rfl ?yb6z ?rb6z
    case yb6z => (intro w hSw; (try dsimp only at hSw); go_simp; try with_reducible rfl)
    refine TKB (i := 16) (v := ?vb7z) rfl ?yb7z ?rb7z
    case yb7z => (intro w hSw; (try dsimp only at hSw); go_simp; try with_reducible rfl)
    go_simp
    refine TKB (i := 17) (v := ?vb8z) rfl ?yb8z ?rb8z
    case yb8z => (intro w hSw; (try dsimp only at hSw); go_simp; try with_reducible rfl)
    refine TKB (i := 18) (v := ?vb9z) rfl ?yb9z ?rb9z
    case yb9z => (intro w hSw; (try dsimp only at hSw); go_simp; try with_reducible rfl)
    refine TKA (i := 19) (v := .agg #[.string tn, .slice ta ln tcap, .int .i64 tk]) rfl (yieldsIf_load_mid (by rfl) _ _ rfl w.heap.size 0 rfl _ _ (fun W hS => range_rowD (blkD hS.out T8.out)) Try.underlying24 rfl tab_size) ?_
    go_simp
    refine TKA (i := 20) (v := .agg #[.int .i64 10, .string ⟨#[]⟩, .int .i64 0, .int .i64 0, .int .i64 0, .string ⟨#[]⟩, .string ⟨#[]⟩, .slice none 0 0, .slice (some ⟨(g8 + 1 + 1), 0, none⟩) 1 1, .int .i64 0]) rfl (yieldsIf_load_mid (by rfl) _ _ rfl (g8 + 1 + 1 + 1) 0 rfl _ _ (fun W hS => range_rowD (blkD hS.out M8.out)) Try.underlying34 rfl pred_size) ?_
    refine TKA (i := 23) (v := .agg #[.string tn, .slice ta ln tcap, .int .i64 tk]) rfl (yieldsIf_load_mid (by rfl) _ _ rfl w.heap.size 0 rfl _ _ (fun W hS => range_rowD (blkD hS.out T8.out)) Try.underlying24 rfl tab_size) ?_
    refine TKB (i := 21) (v := ?vcaz) rfl ?ycaz ?rcaz
    case ycaz => (intro w hSw; (try dsimp only at hSw); go_simp; try with_reducible rfl)
    go_simp
    refine TKB (i := 24) (v := ?vcbz) rfl ?ycbz ?rcbz
    case ycbz => (intro w hSw; (try dsimp only at hSw); go_simp; try with_reducible rfl)
    refine TKA (i := 25) (v := .agg y.cond.c.toArray) rfl (yieldsIf_load_mid (by rfl) _ _ rfl bq 3 rfl y.cond.c _ (fun W hS => fun j u hj => hS.out.cell (R8.out j u hj) (by simp)) Try.underlying34 rfl (by rw [Pm.c_len]; exact pred_size)) ?_
    refine TKB (i := 26) (v := ?vccz) rfl ?yccz ?rccz
    case yccz => (intro w hSw; (try dsimp only at hSw); go_simp; try with_reducible rfl)
    go_simp
    refine RD1 (i := 22) rfl (fun K' hK => ?_)
    go_simp
    go_at_call 10
    refine (HTb.out _ Z11.out).mono ?_
    rintro e w12 ⟨rfl, hg⟩
    have Z12 : Hid (w8.grownBy w12 none) := Lib.hid (Z11.out.trans hg)
    clear hg
    refine hK.out _ _ Z12 (fun hHeld => ?_)
    clear hK K'
    go_simp
    refine RD1 (i := 27) rfl (fun K' hK => ?_)
    go_simp
    go_at_call 10
    refine (HTq.out _ Z12.out).mono ?_
    rintro e w13 ⟨rfl, hg⟩
    have Z13 : Hid (w8.grownBy w13 none) := Lib.hid (Z12.out.trans hg)
    clear hg
    refine hK.out _ _ Z13 (fun hHeld => ?_)
    clear hK K'
    refine TKB (i := 28) (v := ?vcdz) rfl ?ycdz ?rcdz
    case ycdz => (intro w hSw; (try dsimp only at hSw); go_simp; try with_reducible rfl)
    refine TKB (i := 29) (v := ?vcez) rfl ?ycez ?rcez
    case ycez => (intro w hSw; (try dsimp only at hSw); go_simp; try with_reducible rfl)
    go_simp
    refine TKB (i := 30) (v := ?vcfz) rfl ?ycfz ?rcfz
    case ycfz => (intro w hSw; (try dsimp only at hSw); go_simp; try with_reducible rfl)
    go_simp
    refine wpAnyH_done (by kernel_rfl) ?_ _
    go_wp2_with fail
    go_ret
    exact ⟨rfl, G8.out.trans Z13.out⟩
end Go.Proofs.Ytfambadamebjjaa
namespace Go.Proofs.Ytfambadamebjjaa
open Go.ChangeShapes Go.WideShapes Go.ChangeAt Go.RowKit Go.Joins
open Go.ChangeMaps (open_string shut_string)
open Go.Deep
set_option maxRecDepth 100000 in
theorem sieveNots_lifted (os : Os) (started : os.Started) (H : Type) (enc : TypeId × Value → H) :
  ReturnsInHanded {} Try.checked os 4 .any (Rows.sieveNotsSpec.pre6 enc Try.prog Try.f4 Rows.sieveNotsRow.domain false) (Rows.sieveNotsSpec.post enc Try.prog Try.f4 false true false false) := by
 refine returnsInHanded_of_change (C := Try.checked) own started (by kernel_rfl) Try.func4
  (ChangeSpec.witness6 (enc := enc) (C := Try.checked) false ⟨#[], #[.string ⟨#[]⟩, .agg #[.string ⟨#[]⟩, .slice none 0 0, .int .i64 0], .slice none 0 0], []⟩ 8 (by kernel_rfl) (by kernel_rfl) (by kernel_rfl) (by kernel_rfl)) ?_
 intro W base args ds gs before hval0 hW _ _
 have hval : ∀ (j : Nat) t v, Try.f4.params[j]? = some t → args[j]? = some v → Value.okWide Try.prog W .any base t v := hval0
 have hW' := hW
 obtain ⟨p, q, hA0, hV, rfl, hfz, hnd⟩ := hW
 have hA : DataW.TrodAll enc Try.prog W 0 (fun _ => true) true Try.f4.params.toList args.toList ds p := hA0
 rw [Try.params4] at hA hval
 obtain ⟨v0, v1, v2, d0, d1, d2, p0, p1, p2, rfl, rfl, rfl, h0, h1, h2⟩ := trodAll_three hA
 obtain ⟨rfl, rfl⟩ := trodVars_none hV
 have kk1 := h1
 have lt1 : ∀ x ∈ p1, x.block < W.heap.size := by obtain ⟨m, hm⟩ := kk1; exact DataW.trod_lt m _ _ _ hm
 have kk2 := h2
 have lt2 : ∀ x ∈ p2, x.block < W.heap.size := by obtain ⟨m, hm⟩ := kk2; exact DataW.trod_lt m _ _ _ hm
 obtain ⟨s0, rfl, rfl, rfl, hs0⟩ := open_string Try.underlying9 (hval 0 9 v0 rfl rfl) h0
 obtain ⟨N1, a1, cap1, l1, K1, rfl, hN1, row1, hc1, hn1⟩ := open_table6 (hval 1 24 v1 rfl rfl) h1
 obtain ⟨a2, cap2, l2, rfl, row2, hc2⟩ := open_row6 (hval 2 26 v2 rfl rfl) h2
 clear hA0 hval0
 simp only [List.append_nil] at hW'
 refine (SieveNots_any s0 ⟨N1, a1, cap1, l1, K1⟩ a2 cap2 l2 W row1 hc1 ⟨hN1, hn1⟩ row2 hc2).mono fun e W' ⟨he, hg⟩ => ?_
 have hb := below_of hg
 subst he
 exact ⟨_, rfl, _, _, _, [], _, [], hW', trodAll_mk1 (shut_bool Try.underlying4 _), trodAll_mk3 (shut_string Try.underlying9 hs0) (Below.trod laidOut (by kernel_rfl) (of_decide_eq_true (by kernel_rfl)) kk1 hb lt1) (Below.trod laidOut (by kernel_rfl) (of_decide_eq_true (by kernel_rfl)) kk2 hb lt2), rfl, hb.frame _, fun h => by cases h⟩

theorem sieveNots_said : Rows.SieveNotsSaid :=
 OpenClaim.holds_of_wide 4 Try.f4 rfl rfl rfl rfl rfl rfl rfl ⟨rfl, rfl, rfl, rfl, rfl⟩ rfl rfl rfl rfl rfl (by kernel_rfl) Try.func4 (by kernel_rfl)
  (of_decide_eq_true (by kernel_rfl)) (by unfold Func.isWrapper; first | (rw [if_pos (by decide +kernel)]; kernel_rfl) | (rw [if_neg (by decide +kernel)]; exact ⟨rfl, rfl⟩))
  (fun os started H enc _ => sieveNots_lifted os started H enc)
#print axioms sieveNots_said
end Go.Proofs.Ytfambadamebjjaa
