import Derived.Test.YtfambadamebjjaaZs19
import Derived.Test.YtfambadamebjjaaZs38
import Derived.Test.YtfambadamebjjaaZs29
import Derived.Test.YtfambadamebjjaaZs22
import Derived.Test.YtfambadamebjjaaZs35
import Derived.Test.YtfambadamebjjaaZs34
set_option linter.unusedSimpArgs false
set_option linter.unusedVariables false
namespace Go.Proofs.Ytfambadamebjjaa
open Go.RowKit
set_option linter.unusedVariables false
theorem ns_memS : ∀ {l : List Pm} {i : Nat}, i < l.length → (l.getD i default).n ≤ Pm.ns l
 | x :: r, 0, _ => by rw [Pm.ns]; simp [List.getD]
 | x :: r, i + 1, h => by
  have := ns_memS (l := r) (i := i) (by simpa using h)
  rw [Pm.ns]
  simp only [List.getD, List.getElem?_cons_succ] at this ⊢
  omega
theorem es_takeS (l : List Pm) (k : Nat) (h : k < l.length) : Pm.es (l.take (k + 1)) = Pm.es (l.take k) ++ [(l.getD k default).e] := by
 rw [Pm.es_map, Pm.es_map, List.take_add_one, List.map_append, List.getD_eq_getElem?_getD, List.getElem?_eq_getElem h]
 simp
theorem n_posS : ∀ x : Pm, 1 ≤ x.n | .mk .. => by simp [Pm.n]
theorem len_nsS : ∀ l : List Pm, l.length ≤ Pm.ns l
 | [] => Nat.zero_le _
 | x :: r => by
  have := len_nsS r
  have := n_posS x
  rw [Pm.ns, List.length_cons]
  omega
theorem tab_size : (Try.prog.info? 24).map (·.size) = some 3 := by kernel_rfl
def othC (kk : Int) : Option Int → Int
 | none => 15
 | some ok => oneC kk ok
def inK (kk : Int) (ls : List Vl) : Int := if (ls.any fun x => decide (oneC kk x.k ≠ 0)) = true then 16 else 0
def kndC (l : List Cl) (kk : Int) (k : Nat) (v : Vl) (o : ByteArray) (ls : List Vl) : Int :=
 if k = 3 then oneC kk v.k else if k = 4 then othC kk (kdS o l) else if k = 5 then inK kk ls else 0
def midC (l : List Cl) (k : Nat) (v : Vl) (o : ByteArray) (ls : List Vl) : Option Int → Int
 | none => 15
 | some kk => kndC l kk k v o ls
def leafC (l : List Cl) (k : Nat) (c : ByteArray) (v : Vl) (o : ByteArray) (ls : List Vl) : Int :=
 if k = 11 then oneC v.k (ls.getD 0 default).k else if k < 3 ∨ 7 < k then 0 else midC l k v o ls (kdS c l)
mutual
def predC (l : List Cl) : Prd → Int
 | .mk k c _ v o ls ks _ => if predCs l ks ≠ 0 then predCs l ks else leafC l k c v o ls
def predCs (l : List Cl) : List Prd → Int
 | [] => 0
 | x :: r => if predC l x ≠ 0 then predC l x else predCs l r
end
theorem predCs_app (l : List Cl) (x y : List Prd) (h : predCs l x = 0) : predCs l (x ++ y) = predCs l y := by
 induction x with
 | nil => rfl
 | cons a x ih =>
  simp only [predCs] at h ⊢
  by_cases e : predC l a = 0
  ·rw [if_neg (by simp [e])] at h
   rw [List.cons_append, predCs, if_neg (by simp [e])]
   exact ih h
  ·rw [if_pos e] at h
   exact absurd h e
theorem predCs_stop (l : List Cl) (x : List Prd) (a : Prd) (y : List Prd) (h : predCs l x = 0) (ha : predC l a ≠ 0) : predCs l (x ++ a :: y) = predC l a := by
 rw [predCs_app l x _ h, predCs, if_pos ha]
theorem predCs_go (l : List Cl) (x : List Prd) (a : Prd) (h : predCs l x = 0) (ha : predC l a = 0) : predCs l (x ++ [a]) = 0 := by
 rw [predCs_app l x _ h, predCs, if_neg (by simp [ha]), predCs]
mutual
def Prd.w1 : Prd → Prop
 | .mk k _ _ _ _ ls ks _ => (k = 11 → ls ≠ []) ∧ Prd.w1s ks
def Prd.w1s : List Prd → Prop
 | [] => True
 | x :: r => x.w1 ∧ Prd.w1s r
end
theorem Prd.w1s_iff (l : List Prd) : Prd.w1s l ↔ ∀ x ∈ l, x.w1 := by
 induction l with
 | nil => simp [Prd.w1s]
 | cons x r ih => simp [Prd.w1s, ih]
theorem es_split (l : List Pm) (k : Nat) (h : k < l.length) : Pm.es l = Pm.es (l.take k) ++ (l.getD k default).e :: Pm.es (l.drop (k + 1)) := by
 rw [Pm.es_map, Pm.es_map, Pm.es_map, ← List.map_cons, ← List.map_append, List.getD, List.getElem?_eq_getElem h, Option.getD_some, List.getElem_cons_drop, List.take_append_drop]
set_option linter.unusedSimpArgs false in
set_option maxRecDepth 100000 in
set_option maxHeartbeats 6400000 in
theorem refPred_any (TN : ByteArray) (ta : Option Addr) (tcap : Nat) (l : List Cl) (TK : Int) (S : Nat → Prop) : ∀ (M : Nat) (x : Pm) (w : World), M ≤ 100000 → x.n ≤ M → PmS S w x → x.e.w1 → ColsAt w.heap.size w ta l →
  Calls Try.prog 56 #[.agg #[.string TN, .slice ta l.length tcap, .int .i64 TK], x.v] w fun e w' => (∃ at' : Int, e = .returned (.tuple #[.int .i64 at', .int .i64 (predC l x.e)])) ∧ w.grownBy w' none
 | 0, .mk _ _ _ _ _ _ _ _ _ _ _ _, _, _, hN, _, _, _ => by simp [Pm.n] at hN
 | M + 1, x, w, hM, hN, hx, hw1, hC => by
  have HIH := Lib.hid (fun i (hi : i < x.kids.length) W (hW : w.grownBy W none) => refPred_any TN ta tcap l TK S M (x.kids.getD i default) W (by omega) (by
   have := ns_memS hi
   rw [Pm.n_eq] at hN
   omega) (((PmSs_iff x.kids).1 (by cases x; exact hx.2.2.2.2) _ (by rw [List.getD, List.getElem?_eq_getElem hi]; exact List.getElem_mem hi)).keep (.of hW)) (by
    obtain ⟨k1, c1, r1, v1, o1, la1, lc1, l1, ka1, kc1, ks1, p1⟩ := x
    have h2 := hw1.2
    rw [Prd.w1s_iff] at h2
    exact h2 _ (by rw [Pm.es_map]; exact List.mem_map_of_mem (by show ks1.getD i default ∈ ks1; rw [List.getD, List.getElem?_eq_getElem (show i < ks1.length from hi)]; exact List.getElem_mem _))) ((hC.keep hW (by simp)).mono hW.size))
  obtain ⟨k1, c1, r1, ⟨vk1, vn1, vs1⟩, o1, la1, lc1, l1, ka1, kc1, ks1, p1⟩ := x
  obtain ⟨hRw, hlc, hKs, hkc, _⟩ := hx
  have HW1 := Lib.hid hw1.1
  obtain ⟨r, hr⟩ : ∃ r, r = predC l (Pm.e (.mk k1 c1 r1 ⟨vk1, vn1, vs1⟩ o1 la1 lc1 l1 ka1 kc1 ks1 p1)) := ⟨_, rfl⟩
  rw [← hr]
  have hr2 : r = if predCs l (Pm.es ks1) ≠ 0 then predCs l (Pm.es ks1) else leafC l k1 c1 ⟨vk1, vn1, vs1⟩ o1 l1 := hr
  have HR := Lib.hid hr2
  show Calls Try.prog 56 #[.agg #[.string TN, .slice ta l.length tcap, .int .i64 TK], .agg #[.int .i64 (k1 : Nat), .string c1, .int .i64 (r1 : Nat), .int .i64 vk1, .int .i64 vn1, .string vs1, .string o1, .slice la1 l1.length lc1, .slice ka1 ks1.length kc1, .int .i64 (p1 : Nat)]] w _
  have g1 := gq_al (gq_al (grown_reflT w none) (.cells #[.string TN, .slice ta l.length tcap, .int .i64 TK] 24)) (.cells #[.int .i64 (k1 : Nat), .string c1, .int .i64 (r1 : Nat), .int .i64 vk1, .int .i64 vn1, .string vs1, .string o1, .slice la1 l1.length lc1, .slice ka1 ks1.length kc1, .int .i64 (p1 : Nat)] 34)
  have TA := Lib.hid (alc2a w (.cells #[.string TN, .slice ta l.length tcap, .int .i64 TK] 24) (.cells #[.int .i64 (k1 : Nat), .string c1, .int .i64 (r1 : Nat), .int .i64 vk1, .int .i64 vn1, .string vs1, .string o1, .slice la1 l1.length lc1, .slice ka1 ks1.length kc1, .int .i64 (p1 : Nat)] 34))
  have TP := Lib.hid (alc2b w (.cells #[.string TN, .slice ta l.length tcap, .int .i64 TK] 24) (.cells #[.int .i64 (k1 : Nat), .string c1, .int .i64 (r1 : Nat), .int .i64 vk1, .int .i64 vn1, .string vs1, .string o1, .slice la1 l1.length lc1, .slice ka1 ks1.length kc1, .int .i64 (p1 : Nat)] 34))
  have G1 := Lib.hid g1
  have HKd := Lib.hid (fun (c : ByteArray) W (hW : w.grownBy W none) => refKind_any TN ta tcap l TK c W ((hC.keep hW (by simp)).mono hW.size))
  have HRw := Lib.hid (fun W (hW : w.grownBy W none) => hRw.keep (w' := W) (.of hW))
  have HKs := Lib.hid (fun W (hW : w.grownBy W none) => hKs.keep (w' := W) (.of hW))
  have HOne := Lib.hid refOne_any
  simp only [Pm.kids] at HIH
  generalize hn : ks1.length = n at *
  generalize hln : l1.length = ln at *
  generalize htn : l.length = tn at *
  have Hn := Lib.hid hn
  have hn5 : n ≤ 100000 := by rw [← hn]; have := len_nsS ks1; have h2 : (Pm.mk k1 c1 r1 ⟨vk1, vn1, vs1⟩ o1 la1 lc1 l1 ka1 kc1 ks1 p1).n = 1 + Pm.ns ks1 := Pm.n_eq _; omega
  have Hln := Lib.hid hln
  clear hM hN hw1 hC hRw hKs hr hr2 g1 hn hln htn
  go_enter Try.func56, Try.ntmps56
  go_upto_region 1 with fail
  change Code.wp _ _ _ _ ((w.alloc (.cells #[.string TN, .slice ta tn tcap, .int .i64 TK] 24)).alloc (.cells #[.int .i64 (k1 : Nat), .string c1, .int .i64 (r1 : Nat), .int .i64 vk1, .int .i64 vn1, .string vs1, .string o1, .slice la1 ln lc1, .slice ka1 n kc1, .int .i64 (p1 : Nat)] 34))
  generalize (w.alloc (.cells #[.string TN, .slice ta tn tcap, .int .i64 TK] 24)).alloc (.cells #[.int .i64 (k1 : Nat), .string c1, .int .i64 (r1 : Nat), .int .i64 vk1, .int .i64 vn1, .string vs1, .string o1, .slice la1 ln lc1, .slice ka1 n kc1, .int .i64 (p1 : Nat)] 34) = w1 at *
  obtain ⟨⟨p0, p1x, p2, p3, p4⟩, p5, p6, p7, p8, p9⟩ := ten_of TP.out
  go_wp2_with fail
  clear p0 p1x p2 p3 p4 p5 p6 p7 p8 p9
  go_loopw [17] (fun s17 wr => ∃ k : Nat, s17 = .int .i64 k ∧ k ≤ n ∧ Hid (predCs l (Pm.es (ks1.take k)) = 0) ∧ Hid (w1.grownBy wr none)) (fun s17 _ => n - (intOf s17).toNat)
  case atStart => exact ⟨0, rfl, Nat.zero_le _, Lib.hid rfl, Lib.hid (grown_reflT _ _)⟩
  case round =>
   obtain ⟨k, rfl, hk, HZ, KG⟩ := hrel
   have TAr := Lib.hid (blkD KG.out TA.out)
   have TPr := Lib.hid (blkD KG.out TP.out)
   have GR := Lib.hid (G1.out.trans KG.out)
   by_cases hlt : k < n
   ·obtain ⟨b, off, rfl, _, _, hc⟩ := (HKs.out _ GR.out).elem Pm.c_len (by decide) (i := k) (by rw [Hn.out]; exact hlt)
    have RX : Hid (wr.rangeAt b (off + k * 10) (ks1.getD k default).c) := Lib.hid fun j u hj => hc j u hj
    have HI := Lib.hid (fun W (hW : wr.grownBy W none) => HIH.out k (by first | exact hlt | (rw [Hn.out]; exact hlt)) W (GR.out.trans hW))
    have HSt := Lib.hid (fun hz => predCs_stop l (Pm.es (ks1.take k)) (ks1.getD k default).e (Pm.es (ks1.drop (k + 1))) HZ.out hz)
    have HSp := Lib.hid (es_split ks1 k (by rw [Hn.out]; exact hlt))
    have HGo : Hid (predC l (ks1.getD k default).e = 0 → predCs l (Pm.es (ks1.take (k + 1))) = 0) := Lib.hid (fun hz => by rw [es_takeS ks1 k (by rw [Hn.out]; exact hlt)]; exact predCs_go l _ _ HZ.out hz)
    rw [← HSp.out] at HSt
    generalize ks1.getD k default = x at *
    have i0 : (0 : Int) ≤ k := by omega
    have i1 : (k : Int) < n := by omega
    have i2 : (k : Int) < kc1 := by omega
    clear hc HSp
    go_upto_region 4 with fail
    refine wp_region_held_drew (S := (fun W => Hid (wr.grownBy W none))) (by kernel_rfl) (Lib.hid (grown_drewT (grown_reflX _ _))) (fun hHeld => ?_)
    refine TKA (i := 0) (v := .agg #[.string TN, .slice ta tn tcap, .int .i64 TK]) rfl (yieldsIf_load_mid (by rfl) _ _ rfl w.heap.size 0 rfl _ _ (fun W hS => range_rowD (blkD hS.out TAr.out)) Try.underlying24 rfl tab_size) ?_
    simp only [Act.put, List.getElem_toArray, List.getElem_cons_zero, List.size_toArray, List.length_cons, List.length_nil, Nat.reduceAdd, Array.replicate, List.replicate, List.setIfInBounds_toArray, List.set_cons_zero, List.set_cons_succ]
    refine TKB (i := 1) (v := ?vaz) rfl ?yaz ?raz
    case yaz => (intro w hSw; (try dsimp only at hSw); go_simp; try with_reducible rfl)
    simp only [Act.put, List.getElem_toArray, List.getElem_cons_succ, List.getElem_cons_zero, List.setIfInBounds_toArray, List.set_cons_zero, List.set_cons_succ]
    refine TKB (i := 2) (v := ?vbz) rfl ?ybz ?rbz
    case ybz => (intro w hSw; obtain ⟨⟨p0, p1x, p2, p3, p4⟩, p5, p6, p7, p8, p9⟩ := ten_of (blkD hSw.out TPr.out); clear hSw; go_simp; try with_reducible rfl)
    simp only [Act.put, List.getElem_toArray, List.getElem_cons_succ, List.getElem_cons_zero, List.setIfInBounds_toArray, List.set_cons_zero, List.set_cons_succ]
    refine TKB (i := 3) (v := ?vcz) rfl ?ycz ?rcz
    case ycz => (intro w hSw; (try dsimp only at hSw); go_simp; try with_reducible rfl)
    simp only [Act.put, List.getElem_toArray, List.getElem_cons_succ, List.getElem_cons_zero, List.setIfInBounds_toArray, List.set_cons_zero, List.set_cons_succ]
    refine TKB (i := 4) (v := ?vdz) rfl ?ydz ?rdz
    case ydz => (intro w hSw; (try dsimp only at hSw); go_simp; (try rw [if_pos ⟨i0, i1⟩]); try with_reducible rfl)
    simp only [Act.put, List.getElem_toArray, List.getElem_cons_succ, List.getElem_cons_zero, List.setIfInBounds_toArray, List.set_cons_zero, List.set_cons_succ]
    refine TKA (i := 5) (v := .agg x.c.toArray) rfl (yieldsIf_load_mid (by rfl) _ _ rfl b (off + k * 10) rfl x.c _ (fun W hS j u hj => hS.out.cell (RX.out j u hj) (by simp)) Try.underlying34 rfl (by rw [Pm.c_len]; exact pred_size)) ?_
    simp only [Act.put, List.getElem_toArray, List.getElem_cons_succ, List.getElem_cons_zero, List.setIfInBounds_toArray, List.set_cons_zero, List.set_cons_succ]
    refine RD1 (i := 6) rfl (fun K' hK => ?_)
    go_simp
    go_at_call 56
    refine (HI.out _ (grown_drewT (grown_reflX _ _))).mono ?_
    rintro e w5 ⟨⟨at', rfl⟩, hg⟩
    have Z5 : Hid (wr.grownBy w5 none) := Lib.hid ((grown_drewT (grown_reflX _ _)).trans hg)
    clear hg
    refine hK.out _ _ Z5 (fun hHeld => ?_)
    clear hK K'
    simp only [List.setIfInBounds_toArray, List.set_cons_zero, List.set_cons_succ]
    refine TKB (i := 7) (v := ?vez) rfl ?yez ?rez
    case yez => (intro w hSw; (try dsimp only at hSw); go_simp; try with_reducible rfl)
    simp only [Act.put, List.getElem_toArray, List.getElem_cons_succ, List.getElem_cons_zero, List.setIfInBounds_toArray, List.set_cons_zero, List.set_cons_succ]
    refine TKB (i := 8) (v := ?vfz) rfl ?yfz ?rfz
    case yfz => (intro w hSw; (try dsimp only at hSw); go_simp; try with_reducible rfl)
    simp only [Act.put, List.getElem_toArray, List.getElem_cons_succ, List.getElem_cons_zero, List.setIfInBounds_toArray, List.set_cons_zero, List.set_cons_succ]
    refine TKB (i := 9) (v := ?vgz) rfl ?ygz ?rgz
    case ygz => (intro w hSw; (try dsimp only at hSw); go_simp; try with_reducible rfl)
    simp only [Act.put, List.getElem_toArray, List.getElem_cons_succ, List.getElem_cons_zero, List.setIfInBounds_toArray, List.set_cons_zero, List.set_cons_succ]
    refine TKB (i := 10) (v := ?vhz) rfl ?yhz ?rhz
    case yhz => (intro w hSw; (try dsimp only at hSw); go_simp; try with_reducible rfl)
    simp only [Act.put, List.getElem_toArray, List.getElem_cons_succ, List.getElem_cons_zero, List.setIfInBounds_toArray, List.set_cons_zero, List.set_cons_succ]
    refine TKB (i := 11) (v := ?viz) rfl ?yiz ?riz
    case yiz => (intro w hSw; (try dsimp only at hSw); go_simp; try with_reducible rfl)
    simp only [Act.put, List.getElem_toArray, List.getElem_cons_succ, List.getElem_cons_zero, List.setIfInBounds_toArray, List.set_cons_zero, List.set_cons_succ]
    refine wpAnyH_done (by kernel_rfl) ?_ _
    have KG5 := Lib.hid (KG.out.trans Z5.out)
    have G5 := Lib.hid (GR.out.trans Z5.out)
    generalize predC l x.e = z at *
    by_cases hz : z = 0
    ·have hgo := Lib.hid (HGo.out hz)
     have kz : (z != 0) = false := by rw [hz]; rfl
     clear hz
     go_wp2_with fail
     go_roundw
     case rel => exact ⟨k + 1, by go_num, by omega, hgo, KG5⟩
     case measure => simp [intOf]; omega
    ·have kz : (z != 0) = true := by rw [bne_iff_ne]; exact hz
     obtain rfl : r = z := by rw [HR.out, HSt.out hz, if_pos hz]
     clear hz
     go_wp2_with fail
     go_ret2
     exact ⟨⟨_, rfl⟩, G5.out⟩
   ·obtain rfl : k = n := by omega
    have HL : Hid (r = leafC l k1 c1 ⟨vk1, vn1, vs1⟩ o1 l1) := Lib.hid (by
     have h2 := HZ.out
     rw [List.take_of_length_le (Nat.le_of_eq Hn.out)] at h2
     rw [HR.out, if_neg (by simp [h2])])
    clear HR HZ HIH HKs hlt KG TA TP G1
    by_cases h11 : k1 = 11
    ·skip
     have e11 : ((k1 : Int) == 11) = true := by rw [h11]; rfl
     have hne := HW1.out h11
     have hlp : 0 < ln := by rw [← Hln.out]; exact List.length_pos_iff.2 hne
     obtain ⟨b, off, rfl, _, _, hc⟩ := (HRw.out _ GR.out).2.2.resolve_left hne
     have hc0 := (hc 0 (by rw [Hln.out]; exact hlp)).1
     rw [Nat.zero_mul, Nat.add_zero] at hc0
     have HC0 := Lib.hid hc0
     have hr : r = oneC vk1 (l1.getD 0 default).k := by rw [HL.out]; unfold leafC; rw [if_pos h11]
     generalize (l1.getD 0 default).k = uk at *
     clear hc hc0 h11 HL hne
     subst hr
     obtain ⟨⟨p0, p1x, p2, p3, p4⟩, p5, p6, p7, p8, p9⟩ := ten_of TPr.out
     go_upto_region 9 with fail
     clear e11 p0 p1x p2 p3 p4 p5 p6 p7 p8 p9
     refine wp_region_held_drew (S := (fun W => Hid (wr.grownBy W none))) (by kernel_rfl) (Lib.hid (grown_drewT (grown_reflX _ _))) (fun hHeld => ?_)
     refine TKB (i := 0) (v := ?vjz) rfl ?yjz ?rjz
     case yjz => (intro w hSw; (try dsimp only at hSw); go_simp; try with_reducible rfl)
     simp only [Act.put, List.getElem_toArray, List.getElem_cons_zero, List.size_toArray, List.length_cons, List.length_nil, Nat.reduceAdd, Array.replicate, List.replicate, List.setIfInBounds_toArray, List.set_cons_zero, List.set_cons_succ]
     refine TKB (i := 1) (v := ?vkz) rfl ?ykz ?rkz
     case ykz => (intro w hSw; obtain ⟨⟨p0, p1x, p2, p3, p4⟩, p5, p6, p7, p8, p9⟩ := ten_of (blkD hSw.out TPr.out); clear hSw; go_simp; try with_reducible rfl)
     simp only [Act.put, List.getElem_toArray, List.getElem_cons_succ, List.getElem_cons_zero, List.setIfInBounds_toArray, List.set_cons_zero, List.set_cons_succ]
     refine TKB (i := 2) (v := ?vlz) rfl ?ylz ?rlz
     case ylz => (intro w hSw; (try dsimp only at hSw); go_simp; try with_reducible rfl)
     simp only [Act.put, List.getElem_toArray, List.getElem_cons_succ, List.getElem_cons_zero, List.setIfInBounds_toArray, List.set_cons_zero, List.set_cons_succ]
     refine TKB (i := 3) (v := ?vmz) rfl ?ymz ?rmz
     case ymz => (intro w hSw; (try dsimp only at hSw); go_simp; try with_reducible rfl)
     simp only [Act.put, List.getElem_toArray, List.getElem_cons_succ, List.getElem_cons_zero, List.setIfInBounds_toArray, List.set_cons_zero, List.set_cons_succ]
     refine TKB (i := 4) (v := ?vnz) rfl ?ynz ?rnz
     case ynz => (intro w hSw; obtain ⟨⟨p0, p1x, p2, p3, p4⟩, p5, p6, p7, p8, p9⟩ := ten_of (blkD hSw.out TPr.out); clear hSw; go_simp; try with_reducible rfl)
     simp only [Act.put, List.getElem_toArray, List.getElem_cons_succ, List.getElem_cons_zero, List.setIfInBounds_toArray, List.set_cons_zero, List.set_cons_succ]
     refine TKB (i := 5) (v := ?voz) rfl ?yoz ?roz
     case yoz => (intro w hSw; (try dsimp only at hSw); go_simp; try with_reducible rfl)
     simp only [Act.put, List.getElem_toArray, List.getElem_cons_succ, List.getElem_cons_zero, List.setIfInBounds_toArray, List.set_cons_zero, List.set_cons_succ]
     refine TKB (i := 6) (v := ?vpz) rfl ?ypz ?rpz
     case ypz => (intro w hSw; obtain ⟨⟨p0, p1x, p2, p3, p4⟩, p5, p6, p7, p8, p9⟩ := ten_of (blkD hSw.out TPr.out); clear hSw; go_simp; try with_reducible rfl)
     simp only [Act.put, List.getElem_toArray, List.getElem_cons_succ, List.getElem_cons_zero, List.setIfInBounds_toArray, List.set_cons_zero, List.set_cons_succ]
     refine TKB (i := 7) (v := ?vqz) rfl ?yqz ?rqz
     case yqz => (intro w hSw; (try dsimp only at hSw); go_simp; (try rw [if_pos hlp]); try with_reducible rfl)
     simp only [Act.put, List.getElem_toArray, List.getElem_cons_succ, List.getElem_cons_zero, List.setIfInBounds_toArray, List.set_cons_zero, List.set_cons_succ]
     refine TKB (i := 8) (v := ?vrz) rfl ?yrz ?rrz
     case yrz => (intro w hSw; (try dsimp only at hSw); go_simp; try with_reducible rfl)
     simp only [Act.put, List.getElem_toArray, List.getElem_cons_succ, List.getElem_cons_zero, List.setIfInBounds_toArray, List.set_cons_zero, List.set_cons_succ]
     refine TKB (i := 9) (v := ?vsz) rfl ?ysz ?rsz
     case ysz => (intro w hSw; have q9 := hSw.out.cell HC0.out (by simp); clear hSw; go_simp; try with_reducible rfl)
     simp only [Act.put, List.getElem_toArray, List.getElem_cons_succ, List.getElem_cons_zero, List.setIfInBounds_toArray, List.set_cons_zero, List.set_cons_succ]
     refine RD1 (i := 10) rfl (fun K' hK => ?_)
     go_simp
     go_at_call 77
     refine (HOne.out _ _ _).mono ?_
     rintro e w7 ⟨rfl, hg⟩
     have Z7 : Hid (wr.grownBy w7 none) := Lib.hid ((grown_drewT (grown_reflX _ _)).trans hg)
     have G7 := Lib.hid (GR.out.trans Z7.out)
     clear hg
     refine hK.out _ _ Z7 (fun hHeld => ?_)
     clear hK K'
     simp only [List.setIfInBounds_toArray, List.set_cons_zero, List.set_cons_succ]
     refine TKB (i := 11) (v := ?vtz) rfl ?ytz ?rtz
     case ytz => (intro w hSw; (try dsimp only at hSw); go_simp; try with_reducible rfl)
     simp only [Act.put, List.getElem_toArray, List.getElem_cons_succ, List.getElem_cons_zero, List.setIfInBounds_toArray, List.set_cons_zero, List.set_cons_succ]
     refine TKB (i := 12) (v := ?vuz) rfl ?yuz ?ruz
     case yuz => (intro w hSw; (try dsimp only at hSw); go_simp; try with_reducible rfl)
     simp only [Act.put, List.getElem_toArray, List.getElem_cons_succ, List.getElem_cons_zero, List.setIfInBounds_toArray, List.set_cons_zero, List.set_cons_succ]
     refine wpAnyH_done (by kernel_rfl) ?_ _
     go_wp2_with fail
     go_ret2
     exact ⟨⟨_, rfl⟩, G7.out⟩
    ·skip
     have e11 : ((k1 : Int) == 11) = false := by rw [beq_eq_false_iff_ne]; omega
     have HL2 : Hid (r = if k1 < 3 ∨ 7 < k1 then 0 else midC l k1 ⟨vk1, vn1, vs1⟩ o1 l1 (kdS c1 l)) := Lib.hid (by rw [HL.out]; unfold leafC; rw [if_neg h11])
     clear h11 HL
     obtain ⟨⟨p0, p1x, p2, p3, p4⟩, p5, p6, p7, p8, p9⟩ := ten_of TPr.out
     go_upto_region 10 with fail
     clear e11
     by_cases h3 : k1 < 3
     ·skip
      obtain rfl : r = 0 := by rw [HL2.out, if_pos (.inl h3)]
      have i3 : (k1 : Int) < 3 := by omega
      clear h3
      go_wp2_with fail
      go_ret2
      exact ⟨⟨_, rfl⟩, GR.out⟩
     ·skip
      have i3 : ¬ (k1 : Int) < 3 := by omega
      by_cases h7 : 7 < k1
      ·skip
       obtain rfl : r = 0 := by rw [HL2.out, if_pos (.inr h7)]
       have i7 : (7 : Int) < k1 := by omega
       clear h7 h3
       go_wp2_with fail
       go_ret2
       exact ⟨⟨_, rfl⟩, GR.out⟩
      ·skip
       have i7 : ¬ (7 : Int) < k1 := by omega
       have HL3 : Hid (r = midC l k1 ⟨vk1, vn1, vs1⟩ o1 l1 (kdS c1 l)) := Lib.hid (by rw [HL2.out, if_neg (by omega)])
       have HK1 := Lib.hid (HKd.out c1)
       clear HL2
       have h37 : k1 = 3 ∨ k1 = 4 ∨ k1 = 5 ∨ k1 = 6 ∨ k1 = 7 := by omega
       have H37 := Lib.hid h37
       clear h3 h7 h37
       generalize kdS c1 l = ok at *
       obtain ⟨⟨v0, v1, v2⟩, e0, e1, e2⟩ := boxD3 TAr.out
       go_upto_region 12 with fail
       clear i3 i7
       go_wp2_with fail
       refine (HK1.out _ GR.out).mono ?_
       rintro e w5 ⟨rfl, hg⟩
       have TA5 := Lib.hid (blkD hg TAr.out)
       have TP5 := Lib.hid (blkD hg TPr.out)
       have G5 := Lib.hid (GR.out.trans hg)
       clear hg v0 v1 v2 e0 e1 e2 p0 p1x p2 p3 p4 p5 p6 p7 p8 p9 TAr TPr GR HK1
       cases ok with
       | none =>
        obtain rfl : r = 15 := HL3.out
        obtain ⟨⟨p0, p1x, p2, p3, p4⟩, p5, p6, p7, p8, p9⟩ := ten_of TP5.out
        go_wp2_with fail
        go_ret2
        exact ⟨⟨_, rfl⟩, G5.out⟩
       | some kk =>
        have HL4 : Hid (r = kndC l kk k1 ⟨vk1, vn1, vs1⟩ o1 l1) := HL3
        simp only [kdV, Option.getD_some, Option.isSome_some]
        clear HL3
        go_upto_region 15 with fail
        rcases H37.out with h | h | h | h | h
        ·skip
         have hr : r = oneC kk vk1 := by rw [HL4.out]; unfold kndC; rw [if_pos h]
         subst hr
         have e3 : ((k1 : Int) == 3) = true := by rw [h]; rfl
         clear h HL4 H37
         obtain ⟨⟨p0, p1x, p2, p3, p4⟩, p5, p6, p7, p8, p9⟩ := ten_of TP5.out
         go_upto_region 17 with fail
         clear e3 p0 p1x p2 p3 p4 p5 p6 p7 p8 p9
         refine wp_region_held_drew (S := (fun W => Hid (w5.grownBy W none))) (by kernel_rfl) (Lib.hid (grown_drewT (grown_reflX _ _))) (fun hHeld => ?_)
         refine TKB (i := 0) (v := ?vvz) rfl ?yvz ?rvz
         case yvz => (intro w hSw; (try dsimp only at hSw); go_simp; try with_reducible rfl)
         simp only [Act.put, List.getElem_toArray, List.getElem_cons_zero, List.size_toArray, List.length_cons, List.length_nil, Nat.reduceAdd, Array.replicate, List.replicate, List.setIfInBounds_toArray, List.set_cons_zero, List.set_cons_succ]
         refine TKB (i := 1) (v := ?vwz) rfl ?ywz ?rwz
         case ywz => (intro w hSw; obtain ⟨⟨p0, p1x, p2, p3, p4⟩, p5, p6, p7, p8, p9⟩ := ten_of (blkD hSw.out TP5.out); clear hSw; go_simp; try with_reducible rfl)
         simp only [Act.put, List.getElem_toArray, List.getElem_cons_succ, List.getElem_cons_zero, List.setIfInBounds_toArray, List.set_cons_zero, List.set_cons_succ]
         refine TKB (i := 2) (v := ?vxz) rfl ?yxz ?rxz
         case yxz => (intro w hSw; (try dsimp only at hSw); go_simp; try with_reducible rfl)
         simp only [Act.put, List.getElem_toArray, List.getElem_cons_succ, List.getElem_cons_zero, List.setIfInBounds_toArray, List.set_cons_zero, List.set_cons_succ]
         refine TKB (i := 3) (v := ?vyz) rfl ?yyz ?ryz
         case yyz => (intro w hSw; (try dsimp only at hSw); go_simp; try with_reducible rfl)
         simp only [Act.put, List.getElem_toArray, List.getElem_cons_succ, List.getElem_cons_zero, List.setIfInBounds_toArray, List.set_cons_zero, List.set_cons_succ]
         refine TKB (i := 4) (v := ?vzz) rfl ?yzz ?rzz
         case yzz => (intro w hSw; (try dsimp only at hSw); go_simp; try with_reducible rfl)
         simp only [Act.put, List.getElem_toArray, List.getElem_cons_succ, List.getElem_cons_zero, List.setIfInBounds_toArray, List.set_cons_zero, List.set_cons_succ]
         refine TKB (i := 5) (v := ?v0z) rfl ?y0z ?r0z
         case y0z => (intro w hSw; obtain ⟨⟨p0, p1x, p2, p3, p4⟩, p5, p6, p7, p8, p9⟩ := ten_of (blkD hSw.out TP5.out); clear hSw; go_simp; try with_reducible rfl)
         simp only [Act.put, List.getElem_toArray, List.getElem_cons_succ, List.getElem_cons_zero, List.setIfInBounds_toArray, List.set_cons_zero, List.set_cons_succ]
         refine RD1 (i := 6) rfl (fun K' hK => ?_)
         go_simp
         go_at_call 77
         refine (HOne.out _ _ _).mono ?_
         rintro e w7 ⟨rfl, hg⟩
         have Z7 : Hid (w5.grownBy w7 none) := Lib.hid ((grown_drewT (grown_reflX _ _)).trans hg)
         have G7 := Lib.hid (G5.out.trans Z7.out)
         clear hg
         refine hK.out _ _ Z7 (fun hHeld => ?_)
         clear hK K'
         simp only [List.setIfInBounds_toArray, List.set_cons_zero, List.set_cons_succ]
         refine TKB (i := 7) (v := ?v1z) rfl ?y1z ?r1z
         case y1z => (intro w hSw; (try dsimp only at hSw); go_simp; try with_reducible rfl)
         simp only [Act.put, List.getElem_toArray, List.getElem_cons_succ, List.getElem_cons_zero, List.setIfInBounds_toArray, List.set_cons_zero, List.set_cons_succ]
         refine TKB (i := 8) (v := ?v2z) rfl ?y2z ?r2z
         case y2z => (intro w hSw; (try dsimp only at hSw); go_simp; try with_reducible rfl)
         simp only [Act.put, List.getElem_toArray, List.getElem_cons_succ, List.getElem_cons_zero, List.setIfInBounds_toArray, List.set_cons_zero, List.set_cons_succ]
         refine wpAnyH_done (by kernel_rfl) ?_ _
         go_wp2_with fail
         go_ret2
         exact ⟨⟨_, rfl⟩, G7.out⟩
        ·skip
         have hr : r = othC kk (kdS o1 l) := by rw [HL4.out]; unfold kndC; rw [if_neg (by omega), if_pos h]
         have HR4 := Lib.hid hr
         have HK2 := Lib.hid (HKd.out o1)
         have e3 : ((k1 : Int) == 3) = false := by rw [h]; rfl
         have e4 : ((k1 : Int) == 4) = true := by rw [h]; rfl
         clear h HL4 H37 hr
         generalize kdS o1 l = ok at *
         obtain ⟨⟨p0, p1x, p2, p3, p4⟩, p5, p6, p7, p8, p9⟩ := ten_of TP5.out
         go_upto_region 19 with fail
         clear e3 e4
         obtain ⟨⟨v0, v1, v2⟩, e0, e1, e2⟩ := boxD3 TA5.out
         go_wp2_with fail
         refine (HK2.out _ G5.out).mono ?_
         rintro e w6 ⟨rfl, hg⟩
         have TP6 := Lib.hid (blkD hg TP5.out)
         have G6 := Lib.hid (G5.out.trans hg)
         clear hg v0 v1 v2 e0 e1 e2 p0 p1x p2 p3 p4 p5 p6 p7 p8 p9 HK2
         cases ok with
         | none =>
          obtain rfl : r = 15 := HR4.out
          obtain ⟨⟨p0, p1x, p2, p3, p4⟩, p5, p6, p7, p8, p9⟩ := ten_of TP6.out
          go_wp2_with fail
          go_ret2
          exact ⟨⟨_, rfl⟩, G6.out⟩
         | some ok =>
          have hr : r = oneC kk ok := HR4.out
          subst hr
          simp only [kdV, Option.getD_some, Option.isSome_some]
          clear HR4
          go_upto_region 22 with fail
          refine wp_region_held_drew (S := (fun W => Hid (w6.grownBy W none))) (by kernel_rfl) (Lib.hid (grown_drewT (grown_reflX _ _))) (fun hHeld => ?_)
          refine TKB (i := 0) (v := ?v3z) rfl ?y3z ?r3z
          case y3z => (intro w hSw; (try dsimp only at hSw); go_simp; try with_reducible rfl)
          simp only [Act.put, List.getElem_toArray, List.getElem_cons_zero, List.size_toArray, List.length_cons, List.length_nil, Nat.reduceAdd, Array.replicate, List.replicate, List.setIfInBounds_toArray, List.set_cons_zero, List.set_cons_succ]
          refine TKB (i := 1) (v := ?v4z) rfl ?y4z ?r4z
          case y4z => (intro w hSw; obtain ⟨⟨p0, p1x, p2, p3, p4⟩, p5, p6, p7, p8, p9⟩ := ten_of (blkD hSw.out TP6.out); clear hSw; go_simp; try with_reducible rfl)
          simp only [Act.put, List.getElem_toArray, List.getElem_cons_succ, List.getElem_cons_zero, List.setIfInBounds_toArray, List.set_cons_zero, List.set_cons_succ]
          refine TKB (i := 2) (v := ?v5z) rfl ?y5z ?r5z
          case y5z => (intro w hSw; (try dsimp only at hSw); go_simp; try with_reducible rfl)
          simp only [Act.put, List.getElem_toArray, List.getElem_cons_succ, List.getElem_cons_zero, List.setIfInBounds_toArray, List.set_cons_zero, List.set_cons_succ]
          refine TKB (i := 3) (v := ?v6z) rfl ?y6z ?r6z
          case y6z => (intro w hSw; (try dsimp only at hSw); go_simp; try with_reducible rfl)
          simp only [Act.put, List.getElem_toArray, List.getElem_cons_succ, List.getElem_cons_zero, List.setIfInBounds_toArray, List.set_cons_zero, List.set_cons_succ]
          refine RD1 (i := 4) rfl (fun K' hK => ?_)
          go_simp
          go_at_call 77
          refine (HOne.out _ _ _).mono ?_
          rintro e w7 ⟨rfl, hg⟩
          have Z7 : Hid (w6.grownBy w7 none) := Lib.hid ((grown_drewT (grown_reflX _ _)).trans hg)
          have G7 := Lib.hid (G6.out.trans Z7.out)
          clear hg
          refine hK.out _ _ Z7 (fun hHeld => ?_)
          clear hK K'
          simp only [List.setIfInBounds_toArray, List.set_cons_zero, List.set_cons_succ]
          refine TKB (i := 5) (v := ?v7z) rfl ?y7z ?r7z
          case y7z => (intro w hSw; (try dsimp only at hSw); go_simp; try with_reducible rfl)
          simp only [Act.put, List.getElem_toArray, List.getElem_cons_succ, List.getElem_cons_zero, List.setIfInBounds_toArray, List.set_cons_zero, List.set_cons_succ]
          refine TKB (i := 6) (v := ?v8z) rfl ?y8z ?r8z
          case y8z => (intro w hSw; (try dsimp only at hSw); go_simp; try with_reducible rfl)
          simp only [Act.put, List.getElem_toArray, List.getElem_cons_succ, List.getElem_cons_zero, List.setIfInBounds_toArray, List.set_cons_zero, List.set_cons_succ]
          refine wpAnyH_done (by kernel_rfl) ?_ _
          go_wp2_with fail
          go_ret2
          exact ⟨⟨_, rfl⟩, G7.out⟩
        ·skip
         have hr : r = inK kk l1 := by rw [HL4.out]; unfold kndC; rw [if_neg (by omega), if_neg (by omega), if_pos h]
         have HR5 := Lib.hid hr
         have e3 : ((k1 : Int) == 3) = false := by rw [h]; rfl
         have e4 : ((k1 : Int) == 4) = false := by rw [h]; rfl
         have e5 : ((k1 : Int) == 5) = true := by rw [h]; rfl
         have hl5 : ln ≤ 4294967296 := by rw [← Hln.out]; exact (HRw.out _ G5.out).1
         clear h HL4 H37 hr
         obtain ⟨⟨p0, p1x, p2, p3, p4⟩, p5, p6, p7, p8, p9⟩ := ten_of TP5.out
         go_upto_region 24 with fail
         clear e3 e4 e5
         go_wp2_with fail
         clear p0 p1x p2 p3 p4 p5 p6 p7 p8 p9
         go_loopw [102] (fun s102 wz => ∃ q : Nat, s102 = .int .i64 q ∧ q ≤ ln ∧ Hid (∀ j, j < q → oneC kk (l1.getD j default).k = 0) ∧ Hid (w5.grownBy wz none)) (fun s102 _ => ln - (intOf s102).toNat)
         case atStart => exact ⟨0, rfl, Nat.zero_le _, Lib.hid (fun j hj => by omega), Lib.hid (grown_reflT _ _)⟩
         case round =>
          obtain ⟨q, rfl, hq, HJ, KZ⟩ := hrel
          have TPz := Lib.hid (blkD KZ.out TP5.out)
          have GZ := Lib.hid (G5.out.trans KZ.out)
          obtain ⟨⟨p0, p1x, p2, p3, p4⟩, p5, p6, p7, p8, p9⟩ := ten_of TPz.out
          by_cases hlt2 : q < ln
          ·have hne : l1 ≠ [] := by have := Hln.out; intro e; rw [e] at this; simp at this; omega
           obtain ⟨b, off, rfl, _, _, hc⟩ := (HRw.out _ GZ.out).2.2.resolve_left hne
           have hc0 := (hc q (by rw [Hln.out]; exact hlt2)).1
           have j0 : (0 : Int) ≤ q := by omega
           have j1 : (q : Int) < ln := by omega
           have HHt : Hid (oneC kk (l1.getD q default).k ≠ 0 → r = 16) := Lib.hid (fun hz => by
            rw [HR5.out]; unfold inK; rw [if_pos]
            rw [List.any_eq_true]
            exact ⟨l1.getD q default, by rw [List.getD, List.getElem?_eq_getElem (by rw [Hln.out]; exact hlt2)]; exact List.getElem_mem _, decide_eq_true hz⟩)
           have HJn : Hid (oneC kk (l1.getD q default).k = 0 → ∀ j, j < q + 1 → oneC kk (l1.getD j default).k = 0) := Lib.hid (fun hz j hj => by
            by_cases e : j = q
            ·rw [e]; exact hz
            ·exact HJ.out j (by omega))
           generalize (l1.getD q default).k = uk at *
           clear hc hne
           go_wp2_with fail
           refine (HOne.out _ _ _).mono ?_
           rintro e w7 ⟨rfl, hg⟩
           have KZ7 := Lib.hid (KZ.out.trans hg)
           have TP7 := Lib.hid (blkD hg TPz.out)
           have G7 := Lib.hid (GZ.out.trans hg)
           clear hg p0 p1x p2 p3 p4 p5 p6 p7 p8 p9 hc0
           generalize oneC kk uk = z at *
           obtain ⟨⟨p0, p1x, p2, p3, p4⟩, p5, p6, p7, p8, p9⟩ := ten_of TP7.out
           by_cases hz : z = 0
           ·have hj := Lib.hid (HJn.out hz)
            have kz : (z != 0) = false := by rw [hz]; rfl
            clear hz
            go_wp2_with fail
            go_roundw
            case rel => exact ⟨q + 1, by go_num, by omega, hj, KZ7⟩
            case measure => simp [intOf]; omega
           ·have kz : (z != 0) = true := by rw [bne_iff_ne]; exact hz
            obtain rfl := HHt.out hz
            clear hz
            go_wp2_with fail
            go_ret2
            exact ⟨⟨_, rfl⟩, G7.out⟩
          ·obtain rfl : q = ln := by omega
           obtain rfl : r = 0 := by
            rw [HR5.out]; unfold inK; rw [if_neg]
            rw [List.any_eq_true]
            rintro ⟨x, hx, hd⟩
            obtain ⟨j, hj, rfl⟩ := List.getElem_of_mem hx
            have := HJ.out j (by rw [← Hln.out]; exact hj)
            rw [List.getD, List.getElem?_eq_getElem hj] at this
            exact absurd this (of_decide_eq_true hd)
           go_wp2_with fail
           go_ret2
           exact ⟨⟨_, rfl⟩, GZ.out⟩
        ·skip
         obtain rfl : r = 0 := by rw [HL4.out]; unfold kndC; rw [if_neg (by omega), if_neg (by omega), if_neg (by omega)]
         have e3 : ((k1 : Int) == 3) = false := by rw [h]; rfl
         have e4 : ((k1 : Int) == 4) = false := by rw [h]; rfl
         have e5 : ((k1 : Int) == 5) = false := by rw [h]; rfl
         clear h HL4 H37
         obtain ⟨⟨p0, p1x, p2, p3, p4⟩, p5, p6, p7, p8, p9⟩ := ten_of TP5.out
         go_wp2_with fail
         go_ret2
         exact ⟨⟨_, rfl⟩, G5.out⟩
        ·skip
         obtain rfl : r = 0 := by rw [HL4.out]; unfold kndC; rw [if_neg (by omega), if_neg (by omega), if_neg (by omega)]
         have e3 : ((k1 : Int) == 3) = false := by rw [h]; rfl
         have e4 : ((k1 : Int) == 4) = false := by rw [h]; rfl
         have e5 : ((k1 : Int) == 5) = false := by rw [h]; rfl
         clear h HL4 H37
         obtain ⟨⟨p0, p1x, p2, p3, p4⟩, p5, p6, p7, p8, p9⟩ := ten_of TP5.out
         go_wp2_with fail
         go_ret2
         exact ⟨⟨_, rfl⟩, G5.out⟩
end Go.Proofs.Ytfambadamebjjaa
namespace Go.Proofs.Ytfambadamebjjaa
open Go.RowKit
set_option linter.unusedVariables false
theorem blkNS {w w' : World} {g : Nat} {o : Obj} (hg : w.heap[g]? = some o) (h : w.grownBy w' none) : w'.heap[g]? = some o :=
 (h.block g (Array.getElem?_eq_some_iff.1 hg).1 (by simp)).trans hg

set_option maxHeartbeats 3200000 in
theorem refKeysS_any (S : Nat → Prop) (y : Qm) (w : World) (h : CellsS S w y.oa (y.order.flatMap Kyo.c)) (hl : y.order.length ≤ 1000) (hc : y.order.length ≤ y.oc) :
  Calls Try.prog 58 #[.agg y.c] w fun e w' => ∃ a cap, e = .returned (.slice a y.order.length cap) ∧ Win 3 w' a cap y.order.length (y.order.flatMap fun k => k.item.c) ∧ (∀ k, bk a k → w.heap.size ≤ k) ∧ w.grownBy w' none := by
 obtain ⟨ia1, ic1, its1, al1, ta1, ⟨k1, c1, rr1, v1, o1, la1, lc1, li1, ka1, kc1, ks1, pp1⟩, ga1, gc1, gr1, oa1, oc1, od1, lim1⟩ := y
 show Calls Try.prog 58 #[.agg #[.slice ia1 its1.length ic1, .bool al1, .string ta1, .int .i64 (k1 : Nat), .string c1, .int .i64 (rr1 : Nat), .int .i64 v1.k, .int .i64 v1.n, .string v1.s, .string o1, .slice la1 li1.length lc1, .slice ka1 ks1.length kc1, .int .i64 (pp1 : Nat), .slice ga1 gr1.length gc1, .slice oa1 od1.length oc1, .int .i64 lim1, .int .i64 0]] w _
 dsimp only at h hl hc ⊢
 generalize its1.length = n0 at *
 generalize li1.length = n2 at *
 generalize ks1.length = n4 at *
 generalize gr1.length = n6 at *
 obtain ⟨n, hn⟩ : ∃ n, n = od1.length := ⟨_, rfl⟩
 have Hn := Lib.hid hn
 rw [← hn] at hl hc ⊢
 have H := Lib.hid h
 obtain ⟨cq, hcq⟩ : ∃ cq : Obj, cq = .cells #[.slice ia1 n0 ic1, .bool al1, .string ta1, .int .i64 (k1 : Nat), .string c1, .int .i64 (rr1 : Nat), .int .i64 v1.k, .int .i64 v1.n, .string v1.s, .string o1, .slice la1 n2 lc1, .slice ka1 n4 kc1, .int .i64 (pp1 : Nat), .slice ga1 n6 gc1, .slice oa1 n oc1, .int .i64 lim1, .int .i64 0] 37 (0, 0) := ⟨_, rfl⟩
 have K0 := Lib.hid (World.grownBy_alloc w cq none)
 have B0 := Lib.hid (heap_alloc_new w cq)
 have HB : Hid (∀ W : World, W.heap[w.heap.size]? = some cq → W.cell? ⟨w.heap.size, 14, none⟩ = some (.slice oa1 n oc1) ∧ W.frozen? ⟨w.heap.size, 14, none⟩ = false) := Lib.hid fun W hW => by
  rw [hcq] at hW
  obtain ⟨a0, a1, a2, a3, a4, a5, a6, a7, a8, a9, a10, a11, a12, a13, a14, a15, a16⟩ := cells17 hW
  exact ⟨a14, frozen_of_row _ _ 14 _ _ hW⟩
 have HC := Lib.hid hcq
 rw [hcq] at K0 B0
 clear h hn hcq
 go_enter Try.func58, Try.ntmps58
 go_wp2_with fail
 rw [← HC.out] at K0 B0
 go_loopw [3, 8] (fun s3 s8 wr => ∃ (k cap : Nat) (a : Ptr), s3 = .slice a k cap ∧ s8 = .int .i64 k ∧ k ≤ n ∧ Hid (wr.heap[w.heap.size]? = some cq) ∧ Hid (Win 3 wr a cap k ((od1.take k).flatMap fun k => k.item.c) ∧ (∀ k, bk a k → w.heap.size < k) ∧ w.grownBy wr none)) (fun _ s8 _ => n - (intOf s8).toNat)
 case atStart => exact ⟨0, 0, none, rfl, rfl, by omega, Lib.hid (by rw [HC.out]; rw [HC.out] at B0; exact B0.out), Lib.hid ⟨Win.nil 3 _, fun k h => by simp [bk] at h, by rw [HC.out] at K0; exact K0.out⟩⟩
 case round =>
  obtain ⟨k, cap, a, rfl, rfl, hk, B, K⟩ := hrel
  clear K0 B0
  by_cases hlt : k < n
  ·obtain ⟨b, off, rfl, _, hb, hce⟩ := (H.out.keep (.of K.out.2.2)).elem Kyo.c_len (by decide) (i := k) (by rw [← Hn.out]; exact hlt)
   obtain ⟨x, hx⟩ : ∃ x, x = od1.getD k default := ⟨_, rfl⟩
   have hT := flat_take (fun k : Kyo => k.item.c) od1 k (by rw [← Hn.out]; exact hlt)
   rw [← hx] at hce hT
   have HT := Lib.hid hT
   clear hx hT
   obtain ⟨⟨xa, xc, xp⟩, xd⟩ := x
   have c0 := hce 0 _ rfl
   have c1 := hce 1 _ rfl
   have c2 := hce 2 _ rfl
   clear hce
   rw [Nat.add_zero] at c0
   obtain ⟨b0, b1⟩ := HB.out wr B.out
   have i0 : (0 : Int) ≤ k := by omega
   have i1 : (k : Int) < n := by omega
   have i2 : (k : Int) < oc1 := by omega
   go_wp2_with (refine wpList_append_win (by rfl) (.tmp 11) (.tmp 18) itm_el (by rfl) (K.out.1.keepG (World.grownBy_alloc wr (.cells #[.int .i64 (xa : Int), .string xc, .int .i64 (xp : Int)] 106) none)) (by omega) (by rfl) ⟨wr.heap.size, 0, none⟩ 1 (by rfl) [.int .i64 (xa : Int), .string xc, .int .i64 (xp : Int)] rfl (by
    have := World.news_of_block (heap_alloc_new wr (.cells #[.int .i64 (xa : Int), .string xc, .int .i64 (xp : Int)] 106))
    simpa using this) (by intro u hu; simp only [List.mem_cons, List.not_mem_nil, or_false] at hu; rcases hu with rfl | rfl | rfl <;> rfl) ?_)
   intro a' cap' w4 hw4 ho4 hb4
   have hlo := K.out.2.1
   have B4 := Lib.hid ((ho4.block w.heap.size (by have := (Array.getElem?_eq_some_iff.1 B.out).1; simp; omega) (fun e => by have := hlo _ e; omega)).trans (blkNS B.out (World.grownBy_alloc wr (.cells #[.int .i64 (xa : Int), .string xc, .int .i64 (xp : Int)] 106) none)))
   have G4 := Lib.hid (grown_onlyN ((K.out.2.2).trans (World.grownBy_alloc wr (.cells #[.int .i64 (xa : Int), .string xc, .int .i64 (xp : Int)] 106) none)) ho4 (fun k hk => by have := hlo k hk; omega))
   have W4 := Lib.hid hw4
   have L4 : Hid (∀ j, bk a' j → w.heap.size < j) := by
    refine Lib.hid fun j hj => ?_
    rcases hb4 j hj with h | h
    ·exact hlo j h
    ·have h1 := (Array.getElem?_eq_some_iff.1 B.out).1
     have h2 : wr.heap.size + 1 ≤ j := by simpa using h
     omega
   clear hw4 ho4 hb4 hlo
   go_wp2_with fail
   go_roundw
   case rel => exact ⟨k + 1, cap', a', rfl, by go_num, by omega, B4, Lib.hid ⟨by rw [HT.out]; exact W4.out, L4.out, G4.out⟩⟩
   case measure => simp [intOf]; omega
  ·obtain rfl : k = n := by omega
   go_wp2_with fail
   go_ret
   refine ⟨a, cap, rfl, ?_, fun j hj => Nat.le_of_lt (K.out.2.1 j hj), K.out.2.2⟩
   have := K.out.1
   rwa [List.take_of_length_le (by rw [← Hn.out]; exact Nat.le_refl _)] at this
theorem CellsS.atAnyS {S : Nat → Prop} {w : World} {a : Option Addr} {xs : List Value} (h : CellsS S w a xs) : ∀ ad, a = some ad → ∀ j u, xs[j]? = some u → w.cell? (ad.add j) = some u := fun ad e => by
 subst e; exact h.at
set_option maxRecDepth 100000 in
theorem refHas_any (S : Nat → Prop) (a : Ptr) (cap : Nat) (l : List Itm) (M : ByteArray) (w : World) (h : CellsS S w a (l.flatMap Itm.c)) (hl : l.length ≤ 3000) (hcap : l.length ≤ cap) :
  Calls Try.prog 57 #[.slice a l.length cap, .string M] w fun e w' => (∃ bb, e = .returned (.bool bb)) ∧ w.grownBy w' none := by
 have hE := Lib.hid (fun i (hi : i < l.length) => h.elem Itm.c_len (by decide) (i := i) hi)
 generalize hn : l.length = n at *
 clear h hn
 go_enter Try.func57, Try.ntmps57
 go_wp2_with fail
 go_loopw [8] (fun s8 wr => ∃ k : Nat, s8 = .int .i64 k ∧ k ≤ n ∧ Hid (w.grownBy wr none)) (fun s8 _ => n - (intOf s8).toNat)
 case atStart => exact ⟨0, rfl, Nat.zero_le _, Lib.hid (grown_reflT _ _)⟩
 case round =>
  obtain ⟨k, rfl, hk, KG⟩ := hrel
  by_cases hlt : k < n
  ·obtain ⟨b, off, rfl, _, _, hc⟩ := hE.out k hlt
   have c1 := KG.out.cell (hc 1 _ rfl) (by simp)
   obtain ⟨x, hx⟩ : ∃ x, x = (l.getD k default).col := ⟨_, rfl⟩
   rw [← hx] at c1
   have i0 : (0 : Int) ≤ k := by omega
   have i1 : (k : Int) < n := by omega
   have i2 : (k : Int) < cap := by omega
   clear hc hx
   by_cases he : (x.toList == M.toList) = true
   ·go_wp2_with fail
    go_ret
    exact ⟨⟨_, rfl⟩, KG.out⟩
   ·replace he : (x.toList == M.toList) = false := by simpa using he
    go_wp2_with fail
    go_roundw
    case rel => exact ⟨k + 1, by go_num, by omega, KG⟩
    case measure => simp [intOf]; omega
  ·obtain rfl : k = n := by omega
   go_wp2_with fail
   go_ret
   exact ⟨⟨_, rfl⟩, KG.out⟩
def GrpIs (La gr : List Itm) (e : Ending) : Prop := ∃ bb, e = .returned (.bool bb) ∧ ((∀ x ∈ La, x.agg = 0) → gr = [] → bb = false)
set_option linter.unusedSimpArgs false in
set_option maxRecDepth 100000 in
set_option maxHeartbeats 6400000 in
theorem refGrouped_any (S : Nat → Prop) (y : Qm) (w : World) (hS : QmS S w y) (li : y.items.length ≤ 1000) (lo : y.order.length ≤ 1000) :
  Calls Try.prog 59 #[.agg y.c] w fun e w' => GrpIs (y.items ++ y.order.map Kyo.item) y.group e ∧ w.grownBy w' none := by
 have HK := Lib.hid (fun W (hW : w.grownBy W none) => refKeysS_any S y W (hS.2.2.2.1.keep (.of hW)) lo hS.2.2.2.2)
 have HI := Lib.hid (fun W (hW : w.grownBy W none) => hS.1.1.keep (w' := W) (.of hW))
 obtain ⟨ia1, ic1, its1, al1, ta1, ⟨k1, c1, rr1, v1, o1, la1, lc1, li1, ka1, kc1, ks1, pp1⟩, ga1, gc1, gr1, oa1, oc1, od1, lim1⟩ := y
 show Calls Try.prog 59 #[.agg #[.slice ia1 its1.length ic1, .bool al1, .string ta1, .int .i64 (k1 : Nat), .string c1, .int .i64 (rr1 : Nat), .int .i64 v1.k, .int .i64 v1.n, .string v1.s, .string o1, .slice la1 li1.length lc1, .slice ka1 ks1.length kc1, .int .i64 (pp1 : Nat), .slice ga1 gr1.length gc1, .slice oa1 od1.length oc1, .int .i64 lim1, .int .i64 0]] w _
 replace HK : Hid (∀ W, w.grownBy W none → Calls Try.prog 58 #[.agg #[.slice ia1 its1.length ic1, .bool al1, .string ta1, .int .i64 (k1 : Nat), .string c1, .int .i64 (rr1 : Nat), .int .i64 v1.k, .int .i64 v1.n, .string v1.s, .string o1, .slice la1 li1.length lc1, .slice ka1 ks1.length kc1, .int .i64 (pp1 : Nat), .slice ga1 gr1.length gc1, .slice oa1 od1.length oc1, .int .i64 lim1, .int .i64 0]] W fun e w' => ∃ a cap, e = .returned (.slice a od1.length cap) ∧ Win 3 w' a cap od1.length (od1.flatMap fun k => k.item.c) ∧ (∀ k, bk a k → W.heap.size ≤ k) ∧ W.grownBy w' none) := HK
 dsimp only at li lo HI
 have HL1 := Lib.hid (flat_len Itm.c 3 Itm.c_len its1)
 have HL3 := Lib.hid (flat_len (fun k : Kyo => k.item.c) 3 (fun _ => rfl) od1)
 have H11 : Hid (∀ u ∈ its1.flatMap Itm.c, u.oneCell' = true) := Lib.hid (itm_ones its1)
 have H13 : Hid (∀ u ∈ od1.flatMap fun k => k.item.c, u.oneCell' = true) := Lib.hid (by
  have := itm_ones (od1.map Kyo.item)
  rwa [List.flatMap_map] at this)
 have HN1 := Lib.hid (fun W (hW : w.grownBy W none) => (HI.out W hW).atAnyS)
 have HA1 : Hid (ia1 = none → its1.length = 0) := Lib.hid (by
  intro e
  rcases HI.out w (grown_reflT _ _) with h | ⟨b, off, e', _⟩
  ·have := congrArg List.length h
   rw [flat_len Itm.c 3 Itm.c_len, List.length_nil] at this
   omega
  ·rw [e] at e'; cases e')
 obtain ⟨La, hLa⟩ : ∃ La, La = its1 ++ od1.map Kyo.item := ⟨_, rfl⟩
 have HX : Hid (([] ++ its1.flatMap Itm.c) ++ (od1.flatMap fun k => k.item.c) = La.flatMap Itm.c) := Lib.hid (by
  rw [hLa, List.flatMap_append, List.flatMap_map, List.nil_append])
 have HLL : Hid (La.length = its1.length + od1.length) := Lib.hid (by rw [hLa]; simp)
 have Hgr : Hid (gr1 = [] → gr1.length = 0) := Lib.hid (fun e => by rw [e]; rfl)
 rw [← hLa]
 clear hS HI hLa
 generalize its1.flatMap Itm.c = xs1 at *
 generalize (od1.flatMap fun k : Kyo => k.item.c) = xs3 at *
 generalize its1.length = n0 at *
 generalize li1.length = n2 at *
 generalize ks1.length = n4 at *
 generalize gr1.length = n6 at *
 generalize od1.length = n at *
 have B1 := Lib.hid (heap_alloc_new w (.cells #[.slice ia1 n0 ic1, .bool al1, .string ta1, .int .i64 (k1 : Nat), .string c1, .int .i64 (rr1 : Nat), .int .i64 v1.k, .int .i64 v1.n, .string v1.s, .string o1, .slice la1 n2 lc1, .slice ka1 n4 kc1, .int .i64 (pp1 : Nat), .slice ga1 n6 gc1, .slice oa1 n oc1, .int .i64 lim1, .int .i64 0] 37))
 have G1 := Lib.hid (World.grownBy_alloc w (.cells #[.slice ia1 n0 ic1, .bool al1, .string ta1, .int .i64 (k1 : Nat), .string c1, .int .i64 (rr1 : Nat), .int .i64 v1.k, .int .i64 v1.n, .string v1.s, .string o1, .slice la1 n2 lc1, .slice ka1 n4 kc1, .int .i64 (pp1 : Nat), .slice ga1 n6 gc1, .slice oa1 n oc1, .int .i64 lim1, .int .i64 0] 37) none)
 go_enter Try.func59, Try.ntmps59
 go_upto_region 1 with fail
 generalize w.alloc (.cells #[.slice ia1 n0 ic1, .bool al1, .string ta1, .int .i64 (k1 : Nat), .string c1, .int .i64 (rr1 : Nat), .int .i64 v1.k, .int .i64 v1.n, .string v1.s, .string o1, .slice la1 n2 lc1, .slice ka1 n4 kc1, .int .i64 (pp1 : Nat), .slice ga1 n6 gc1, .slice oa1 n oc1, .int .i64 lim1, .int .i64 0] 37) = w2 at *
 refine wp_region_held_drew (S := (fun W => Hid (w2.grownBy W none))) (by kernel_rfl) (Lib.hid (grown_drewT (grown_reflT _ _))) (fun hHeld => ?_)
 refine TKA (i := 4) (v := .agg #[.slice ia1 n0 ic1, .bool al1, .string ta1, .int .i64 (k1 : Nat), .string c1, .int .i64 (rr1 : Nat), .int .i64 v1.k, .int .i64 v1.n, .string v1.s, .string o1, .slice la1 n2 lc1, .slice ka1 n4 kc1, .int .i64 (pp1 : Nat), .slice ga1 n6 gc1, .slice oa1 n oc1, .int .i64 lim1, .int .i64 0]) rfl (yieldsIf_load_mid (by rfl) _ _ rfl w.heap.size 0 rfl _ _ (fun W hS => range_rowD (blkNS B1.out hS.out)) Try.underlying37 rfl query_size) ?_
 simp only [Act.put, List.getElem_toArray, List.getElem_cons_succ, List.getElem_cons_zero, List.size_toArray, List.length_cons, List.length_nil, Nat.reduceAdd, Array.replicate, List.replicate, List.setIfInBounds_toArray, List.set_cons_zero, List.set_cons_succ]
 refine TKB (i := 1) (v := ?vaz) rfl ?yaz ?raz
 case yaz => (intro w hSw; (try dsimp only at hSw); go_simp; try with_reducible rfl)
 simp only [Act.put, List.getElem_toArray, List.getElem_cons_succ, List.getElem_cons_zero, List.size_toArray, List.length_cons, List.length_nil, Nat.reduceAdd, Array.replicate, List.replicate, List.setIfInBounds_toArray, List.set_cons_zero, List.set_cons_succ]
 refine TKB (i := 2) (v := ?vbz) rfl ?ybz ?rbz
 case ybz => (intro w hSw; obtain ⟨d0, d1, d2, d3, d4, d5, d6, d7, d8, d9, d10, d11, d12, d13, d14, d15, d16⟩ := cells17 (blkNS B1.out hSw.out); clear hSw; go_simp; try with_reducible rfl)
 simp only [Act.put, List.getElem_toArray, List.getElem_cons_succ, List.getElem_cons_zero, List.size_toArray, List.length_cons, List.length_nil, Nat.reduceAdd, Array.replicate, List.replicate, List.setIfInBounds_toArray, List.set_cons_zero, List.set_cons_succ]
 refine RD1 (i := 0) rfl (fun K' hK => ?_)
 go_simp
 obtain ⟨wb, hwb⟩ : ∃ wb, wb = (w2.alloc (.cells #[] 106)).drew := ⟨_, rfl⟩
 have ZB : Hid (w2.grownBy wb none) := Lib.hid (by rw [hwb]; exact grown_drewT (World.grownBy_alloc _ _ none))
 have WB : Hid (Win 3 wb (some ⟨w2.heap.size, 0, none⟩) 0 0 []) := Lib.hid (by rw [hwb]; exact ⟨rfl, Nat.le_refl _, Nat.zero_le _, fun k hk => by rw [bk_some] at hk; subst hk; simp, .inl rfl⟩)
 rw [← hwb]
 clear hwb
 refine hK.out _ _ ZB (fun hHeld => ?_)
 clear hK K'
 simp only [Act.put, List.getElem_toArray, List.getElem_cons_succ, List.getElem_cons_zero, List.size_toArray, List.length_cons, List.length_nil, Nat.reduceAdd, Array.replicate, List.replicate, List.setIfInBounds_toArray, List.set_cons_zero, List.set_cons_succ]
 refine RD1 (i := 3) rfl (fun K' hK => ?_)
 refine wp_append_winA (.tmp 5) (.tmp 7) itm_el (by rfl) WB.out (by rfl) ia1 n0 ic1 (by rfl) _ HA1.out HL1.out (by omega) (HN1.out _ (G1.out.trans ZB.out)) H11.out ?_
 intro a5 c5 w5 z5 o5 b5 _
 have Z5 : Hid (w2.grownBy w5 none) := Lib.hid (grown_onlyN ZB.out o5 (fun k hk => by rw [bk_some] at hk; omega))
 rw [Nat.zero_add] at z5 ⊢
 have W5 := Lib.hid z5
 have L5 : Hid (∀ k, bk a5 k → w2.heap.size ≤ k) := Lib.hid (fun k hk => by exact (b5 k hk).elim (fun e => by rw [bk_some] at e; omega) (fun e => Nat.le_trans ZB.out.size e))
 clear z5 o5 b5
 refine hK.out _ _ Z5 (fun hHeld => ?_)
 clear hK K'
 simp only [Act.put, List.getElem_toArray, List.getElem_cons_succ, List.getElem_cons_zero, List.size_toArray, List.length_cons, List.length_nil, Nat.reduceAdd, Array.replicate, List.replicate, List.setIfInBounds_toArray, List.set_cons_zero, List.set_cons_succ]
 refine RD1 (i := 5) rfl (fun K' hK => ?_)
 go_simp
 go_at_call 58
 refine (HK.out _ (G1.out.trans Z5.out)).mono ?_
 rintro e w7 ⟨ak, ck, rfl, zk, lk, gk⟩
 have Z7 : Hid (w2.grownBy w7 none) := Lib.hid (Z5.out.trans gk)
 have W7 : Hid (Win 3 w7 a5 c5 n0 ([] ++ xs1)) := Lib.hid (W5.out.keepG gk)
 have WK := Lib.hid zk
 clear zk lk gk
 refine hK.out _ _ Z7 (fun hHeld => ?_)
 clear hK K'
 simp only [Act.put, List.getElem_toArray, List.getElem_cons_succ, List.getElem_cons_zero, List.size_toArray, List.length_cons, List.length_nil, Nat.reduceAdd, Array.replicate, List.replicate, List.setIfInBounds_toArray, List.set_cons_zero, List.set_cons_succ]
 refine RD1 (i := 6) rfl (fun K' hK => ?_)
 refine wp_append_winA (.tmp 8) (.tmp 10) itm_el (by rfl) W7.out (by rfl) ak n ck (by rfl) _ (fun e => (WK.out.nil_of e).1) HL3.out (by omega) WK.out.at H13.out ?_
 intro a8 c8 w8 z8 o8 b8 _
 have Z8 : Hid (w2.grownBy w8 none) := Lib.hid (grown_onlyN Z7.out o8 L5.out)
 have W8 := Lib.hid z8
 clear z8 o8 b8
 refine hK.out _ _ Z8 (fun hHeld => ?_)
 clear hK K'
 simp only [Act.put, List.getElem_toArray, List.getElem_cons_succ, List.getElem_cons_zero, List.size_toArray, List.length_cons, List.length_nil, Nat.reduceAdd, Array.replicate, List.replicate, List.setIfInBounds_toArray, List.set_cons_zero, List.set_cons_succ]
 refine TKB (i := 7) (v := ?vcz) rfl ?ycz ?rcz
 case ycz => (intro w hSw; (try dsimp only at hSw); go_simp; try with_reducible rfl)
 simp only [Act.put, List.getElem_toArray, List.getElem_cons_succ, List.getElem_cons_zero, List.size_toArray, List.length_cons, List.length_nil, Nat.reduceAdd, Array.replicate, List.replicate, List.setIfInBounds_toArray, List.set_cons_zero, List.set_cons_succ]
 refine wpAnyH_done (by kernel_rfl) ?_ _
 rw [HX.out] at W8
 have B8 := Lib.hid (blkNS B1.out Z8.out)
 have G8 := Lib.hid (G1.out.trans Z8.out)
 obtain ⟨N, hN⟩ : ∃ N, N = n0 + n := ⟨_, rfl⟩
 rw [← hN] at W8 HLL ⊢
 have hN3 : N ≤ 2000 := by omega
 have hcp := W8.out.le
 clear HX WK W7 L5 W5 WB HK HN1 H11 H13 HL1 HL3 HA1 hHeld hN
 go_wp2_with fail
 go_loopw [14] (fun s14 wr => ∃ k : Nat, s14 = .int .i64 k ∧ k ≤ N ∧ Hid (w8.grownBy wr none)) (fun s14 _ => N - (intOf s14).toNat)
 case atStart => exact ⟨0, rfl, Nat.zero_le _, Lib.hid (grown_reflT _ _)⟩
 case round =>
  obtain ⟨k, rfl, hk, KG⟩ := hrel
  have GR := Lib.hid (G8.out.trans KG.out)
  by_cases hlt : k < N
  ·obtain ⟨b, off, rfl, _, _, hc⟩ := (win_cells W8.out (S := fun _ => True) (fun _ _ => trivial)).elem Itm.c_len (by decide) (i := k) (by rw [HLL.out]; exact hlt)
   have c0 := KG.out.cell (hc 0 _ rfl) (by simp)
   simp only [Nat.add_zero] at c0
   have HM : Hid (La.getD k default ∈ La) := Lib.hid (by rw [List.getD, List.getElem?_eq_getElem (by rw [HLL.out]; exact hlt)]; exact List.getElem_mem _)
   generalize hx : La.getD k default = x at *
   clear hx hc
   have i0 : (0 : Int) ≤ k := by omega
   have i1 : (k : Int) < N := by omega
   have i2 : (k : Int) < c8 := by omega
   by_cases he : x.agg = 0
   ·have k0 : ((x.agg : Int) != 0) = false := by rw [he]; rfl
    clear he
    go_wp2_with fail
    go_roundw
    case rel => exact ⟨k + 1, by go_num, by omega, KG⟩
    case measure => simp [intOf]; omega
   ·have k0 : ((x.agg : Int) != 0) = true := ne_nat he
    have HE := Lib.hid he
    clear he
    go_wp2_with fail
    go_ret
    exact ⟨⟨_, rfl, fun hz _ => absurd (hz _ HM.out) HE.out⟩, GR.out⟩
  ·obtain rfl : k = N := by omega
   obtain ⟨d0, d1, d2, d3, d4, d5, d6, d7, d8, d9, d10, d11, d12, d13, d14, d15, d16⟩ := cells17 (blkNS B8.out KG.out)
   by_cases hg : n6 = 0
   ·have k6 : ¬ (0 : Int) < n6 := by omega
    go_wp2_with fail
    go_ret
    exact ⟨⟨_, rfl, fun _ _ => by simp [hg]⟩, GR.out⟩
   ·have k6 : (0 : Int) < n6 := by omega
    have HG := Lib.hid hg
    go_wp2_with fail
    go_ret
    exact ⟨⟨_, rfl, fun _ h => absurd (Hgr.out h) HG.out⟩, GR.out⟩
end Go.Proofs.Ytfambadamebjjaa
namespace Go.Proofs.Ytfambadamebjjaa
open Go.RowKit
set_option linter.unusedVariables false
def SmpQ (l : List Cl) (y : Qm) : Prop := (∀ x ∈ y.items, x.agg = 0 ∧ itemC l x.agg x.col = 0) ∧ predC l y.cond.e = 0 ∧ y.group = [] ∧ y.order = []
def WrgIs (P Z : Prop) (e : Ending) : Prop := ∃ at' c : Int, e = .returned (.tuple #[.int .i64 at', .int .i64 c]) ∧ (P → c = 0) ∧ (c = 0 → Z)
theorem elemR {S : Nat → Prop} {w : World} {a : Ptr} {l : List Itm} (h : CellsS S w a (l.flatMap Itm.c)) {i : Nat} (hi : i < l.length) : ∃ b off, a = some ⟨b, off, Option.none⟩ ∧ w.rangeAt b (off + i * 3) (l.getD i default).c :=
 (fun ⟨b, off, e, _, _, hc⟩ => ⟨b, off, e, fun j u hj => hc j u hj⟩) (h.elem Itm.c_len (by decide) hi)
theorem getD_memI {l : List Itm} {i : Nat} (h : i < l.length) : l.getD i default ∈ l := by
 rw [List.getD, List.getElem?_eq_getElem h]; exact List.getElem_mem _
theorem CellsS.take {S : Nat → Prop} {w : World} {a : Ptr} {l : List Itm} (h : CellsS S w a (l.flatMap Itm.c)) (k : Nat) : CellsS S w a ((l.take k).flatMap Itm.c) := by
 rcases h with h | ⟨b, off, e, hS, hlt, hc⟩
 ·have h1 := congrArg List.length h
  rw [flat_len Itm.c 3 Itm.c_len, List.length_nil] at h1
  have : l = [] := List.eq_nil_of_length_eq_zero (by omega)
  exact .inl (by rw [this]; simp)
 ·refine .inr ⟨b, off, e, hS, hlt, fun j u hj => hc j u ?_⟩
  have : l.flatMap Itm.c = (l.take k).flatMap Itm.c ++ (l.drop k).flatMap Itm.c := by rw [← List.flatMap_append, List.take_append_drop]
  rw [this, List.getElem?_append_left (List.getElem?_eq_some_iff.1 hj).1]
  exact hj
set_option linter.unusedSimpArgs false in
set_option maxRecDepth 100000 in
set_option maxHeartbeats 12800000 in
theorem refWrongQ_any (TN : ByteArray) (ta : Option Addr) (tcap : Nat) (l : List Cl) (TK : Int) (S : Nat → Prop) (y : Qm) (w : World) (hS : QmS S w y) (li : y.items.length ≤ 1000) (lg : y.group.length ≤ 1000) (lo : y.order.length ≤ 1000) (hn : y.cond.n ≤ 100000) (hw1 : y.cond.e.w1) (hC : ColsAt w.heap.size w ta l) :
  Calls Try.prog 42 #[.agg y.c, .agg #[.string TN, .slice ta l.length tcap, .int .i64 TK]] w fun e w' => WrgIs (SmpQ l y) (predC l y.cond.e = 0) e ∧ w.grownBy w' none := by
 have HKy := Lib.hid (fun W (hW : w.grownBy W none) => refKeysS_any S y W (hS.2.2.2.1.keep (.of hW)) lo hS.2.2.2.2)
 have HGp := Lib.hid (fun W (hW : w.grownBy W none) => refGrouped_any S y W (hS.keep (.of hW)) li lo)
 have HPr := Lib.hid (fun W (hW : w.grownBy W none) => refPred_any TN ta tcap l TK S 100000 y.cond W (Nat.le_refl _) hn (hS.2.1.keep (.of hW)) hw1 ((hC.keep hW (by simp)).mono hW.size))
 have HIk := Lib.hid (fun (x : Itm) W (hW : w.grownBy W none) => refItem_any TN ta tcap l TK x.agg x.col x.pos W ((hC.keep hW (by simp)).mono hW.size))
 have HI := Lib.hid (fun W (hW : w.grownBy W none) => hS.1.1.keep (w' := W) (.of hW))
 have HG := Lib.hid (fun W (hW : w.grownBy W none) => hS.2.2.1.1.keep (w' := W) (.of hW))
 have hgc := hS.2.2.1.2
 have hic := hS.1.2
 obtain ⟨P, hP⟩ : ∃ P, P = SmpQ l y := ⟨_, rfl⟩
 obtain ⟨Z, hZ⟩ : ∃ Z : Prop, Z = (predC l y.cond.e = 0) := ⟨_, rfl⟩
 have HPZ : Hid (predC l y.cond.e = 0 → Z) := Lib.hid (fun h => by rw [hZ]; exact h)
 have HP1 : Hid (P → ∀ x ∈ y.items, x.agg = 0 ∧ itemC l x.agg x.col = 0) := Lib.hid (fun h => by rw [hP] at h; exact h.1)
 have HP2 : Hid (P → predC l y.cond.e = 0) := Lib.hid (fun h => by rw [hP] at h; exact h.2.1)
 have HP3 : Hid (P → y.group = []) := Lib.hid (fun h => by rw [hP] at h; exact h.2.2.1)
 have HP4 : Hid (P → y.order = []) := Lib.hid (fun h => by rw [hP] at h; exact h.2.2.2)
 rw [← hP, ← hZ]
 clear hP hZ hn hw1 hC hS
 obtain ⟨ia1, ic1, its1, al1, ta1, ⟨k1, c1, rr1, v1, o1, la1, lc1, li1, ka1, kc1, ks1, pp1⟩, ga1, gc1, gr1, oa1, oc1, od1, lim1⟩ := y
 obtain ⟨px, hpx⟩ : ∃ px : Pm, px = .mk k1 c1 rr1 v1 o1 la1 lc1 li1 ka1 kc1 ks1 pp1 := ⟨_, rfl⟩
 have HPX : Hid (px.c = [.int .i64 (k1 : Nat), .string c1, .int .i64 (rr1 : Nat), .int .i64 v1.k, .int .i64 v1.n, .string v1.s, .string o1, .slice la1 li1.length lc1, .slice ka1 ks1.length kc1, .int .i64 (pp1 : Nat)]) := Lib.hid (by rw [hpx]; rfl)
 dsimp only at *
 rw [← hpx] at HPr HP2 HPZ
 show Calls Try.prog 42 #[.agg #[.slice ia1 its1.length ic1, .bool al1, .string ta1, .int .i64 (k1 : Nat), .string c1, .int .i64 (rr1 : Nat), .int .i64 v1.k, .int .i64 v1.n, .string v1.s, .string o1, .slice la1 li1.length lc1, .slice ka1 ks1.length kc1, .int .i64 (pp1 : Nat), .slice ga1 gr1.length gc1, .slice oa1 od1.length oc1, .int .i64 lim1, .int .i64 0], .agg #[.string TN, .slice ta l.length tcap, .int .i64 TK]] w _
 replace HKy : Hid (∀ W, w.grownBy W none → Calls Try.prog 58 #[.agg #[.slice ia1 its1.length ic1, .bool al1, .string ta1, .int .i64 (k1 : Nat), .string c1, .int .i64 (rr1 : Nat), .int .i64 v1.k, .int .i64 v1.n, .string v1.s, .string o1, .slice la1 li1.length lc1, .slice ka1 ks1.length kc1, .int .i64 (pp1 : Nat), .slice ga1 gr1.length gc1, .slice oa1 od1.length oc1, .int .i64 lim1, .int .i64 0]] W fun e w' => ∃ a cap, e = .returned (.slice a od1.length cap) ∧ Win 3 w' a cap od1.length (od1.flatMap fun k => k.item.c) ∧ (∀ k, bk a k → W.heap.size ≤ k) ∧ W.grownBy w' none) := HKy
 replace HGp : Hid (∀ W, w.grownBy W none → Calls Try.prog 59 #[.agg #[.slice ia1 its1.length ic1, .bool al1, .string ta1, .int .i64 (k1 : Nat), .string c1, .int .i64 (rr1 : Nat), .int .i64 v1.k, .int .i64 v1.n, .string v1.s, .string o1, .slice la1 li1.length lc1, .slice ka1 ks1.length kc1, .int .i64 (pp1 : Nat), .slice ga1 gr1.length gc1, .slice oa1 od1.length oc1, .int .i64 lim1, .int .i64 0]] W fun e w' => GrpIs (its1 ++ od1.map Kyo.item) gr1 e ∧ W.grownBy w' none) := HGp
 have HGI : Hid (P → (∀ x ∈ its1 ++ od1.map Kyo.item, x.agg = 0) ∧ gr1 = []) := Lib.hid (fun h => ⟨fun x hx => by
  rw [HP4.out h] at hx
  simp only [List.map_nil, List.append_nil] at hx
  exact (HP1.out h x hx).1, HP3.out h⟩)
 have HEI := Lib.hid (fun i (hi : i < its1.length) W (hW : w.grownBy W none) => elemR (HI.out W hW) hi)
 have HEG := Lib.hid (fun i (hi : i < gr1.length) W (hW : w.grownBy W none) => elemR (HG.out W hW) hi)
 have HMI := Lib.hid (fun i (hi : i < its1.length) (h : P) => (HP1.out h _ (getD_memI hi)).2)
 have HHas := Lib.hid (fun k (hk : k < gr1.length) (M : ByteArray) W (hW : w.grownBy W none) => refHas_any S ga1 gc1 (gr1.take k) M W ((HG.out W hW).take k) (by rw [List.length_take]; omega) (by rw [List.length_take]; omega))
 have HHal := Lib.hid (fun (M : ByteArray) W (hW : w.grownBy W none) => refHas_any S ga1 gc1 gr1 M W (HG.out W hW) (by omega) hgc)
 have HTk := Lib.hid (fun k (hk : k < gr1.length) => (show (gr1.take k).length = k by rw [List.length_take]; omega))
 have HG0 : Hid (P → gr1.length = 0) := Lib.hid (fun h => by rw [HP3.out h]; rfl)
 have HO0 : Hid (P → od1.length = 0) := Lib.hid (fun h => by rw [HP4.out h]; rfl)
 have HL1 := Lib.hid (flat_len Itm.c 3 Itm.c_len its1)
 have HL3 := Lib.hid (flat_len (fun k : Kyo => k.item.c) 3 (fun _ => rfl) od1)
 have H11 : Hid (∀ u ∈ its1.flatMap Itm.c, u.oneCell' = true) := Lib.hid (itm_ones its1)
 have H13 : Hid (∀ u ∈ od1.flatMap fun k => k.item.c, u.oneCell' = true) := Lib.hid (by
  have := itm_ones (od1.map Kyo.item)
  rwa [List.flatMap_map] at this)
 have HN1 := Lib.hid (fun W (hW : w.grownBy W none) => (HI.out W hW).atAnyS)
 have HA1 : Hid (ia1 = none → its1.length = 0) := Lib.hid (by
  intro e
  rcases HI.out w (grown_reflT _ _) with h | ⟨b, off, e', _⟩
  ·have := congrArg List.length h
   rw [flat_len Itm.c 3 Itm.c_len, List.length_nil] at this
   omega
  ·rw [e] at e'; cases e')
 obtain ⟨La, hLa⟩ : ∃ La, La = its1 ++ od1.map Kyo.item := ⟨_, rfl⟩
 have HX : Hid (([] ++ its1.flatMap Itm.c) ++ (od1.flatMap fun k => k.item.c) = La.flatMap Itm.c) := Lib.hid (by
  rw [hLa, List.flatMap_append, List.flatMap_map, List.nil_append])
 have HLL : Hid (La.length = its1.length + od1.length) := Lib.hid (by rw [hLa]; simp)
 have HOk : Hid ((od1.flatMap fun k => k.item.c) = (od1.map Kyo.item).flatMap Itm.c) := Lib.hid (by rw [List.flatMap_map])
 have HOl : Hid ((od1.map Kyo.item).length = od1.length) := Lib.hid (List.length_map _)
 rw [← hLa] at HGp HGI
 obtain ⟨lk, hlk⟩ : ∃ lk, lk = od1.map Kyo.item := ⟨_, rfl⟩
 rw [← hlk] at HOk HOl
 clear hLa HP1 HP3 HP4 HI HG hpx hlk
 generalize its1.flatMap Itm.c = xs1 at *
 generalize (od1.flatMap fun k : Kyo => k.item.c) = xs3 at *
 generalize its1.length = n0 at *
 generalize li1.length = n2 at *
 generalize ks1.length = n4 at *
 generalize gr1.length = n6 at *
 generalize od1.length = n at *
 generalize l.length = tn at *
 have g1 := gq_al (gq_al (grown_reflT w none) (.cells #[.slice ia1 n0 ic1, .bool al1, .string ta1, .int .i64 (k1 : Nat), .string c1, .int .i64 (rr1 : Nat), .int .i64 v1.k, .int .i64 v1.n, .string v1.s, .string o1, .slice la1 n2 lc1, .slice ka1 n4 kc1, .int .i64 (pp1 : Nat), .slice ga1 n6 gc1, .slice oa1 n oc1, .int .i64 lim1, .int .i64 0] 37)) (.cells #[.string TN, .slice ta tn tcap, .int .i64 TK] 24)
 have B1 := Lib.hid (alc2a w (.cells #[.slice ia1 n0 ic1, .bool al1, .string ta1, .int .i64 (k1 : Nat), .string c1, .int .i64 (rr1 : Nat), .int .i64 v1.k, .int .i64 v1.n, .string v1.s, .string o1, .slice la1 n2 lc1, .slice ka1 n4 kc1, .int .i64 (pp1 : Nat), .slice ga1 n6 gc1, .slice oa1 n oc1, .int .i64 lim1, .int .i64 0] 37) (.cells #[.string TN, .slice ta tn tcap, .int .i64 TK] 24))
 have TA := Lib.hid (alc2b w (.cells #[.slice ia1 n0 ic1, .bool al1, .string ta1, .int .i64 (k1 : Nat), .string c1, .int .i64 (rr1 : Nat), .int .i64 v1.k, .int .i64 v1.n, .string v1.s, .string o1, .slice la1 n2 lc1, .slice ka1 n4 kc1, .int .i64 (pp1 : Nat), .slice ga1 n6 gc1, .slice oa1 n oc1, .int .i64 lim1, .int .i64 0] 37) (.cells #[.string TN, .slice ta tn tcap, .int .i64 TK] 24))
 have G1 := Lib.hid g1
 clear g1
 go_enter Try.func42, Try.ntmps42
 go_upto_region 1 with fail
 generalize (w.alloc (.cells #[.slice ia1 n0 ic1, .bool al1, .string ta1, .int .i64 (k1 : Nat), .string c1, .int .i64 (rr1 : Nat), .int .i64 v1.k, .int .i64 v1.n, .string v1.s, .string o1, .slice la1 n2 lc1, .slice ka1 n4 kc1, .int .i64 (pp1 : Nat), .slice ga1 n6 gc1, .slice oa1 n oc1, .int .i64 lim1, .int .i64 0] 37)).alloc (.cells #[.string TN, .slice ta tn tcap, .int .i64 TK] 24) = w1 at *
 obtain ⟨d0, d1, d2, d3, d4, d5, d6, d7, d8, d9, d10, d11, d12, d13, d14, d15, d16⟩ := cells17 B1.out
 go_wp2_with fail
 clear d0 d1 d2 d3 d4 d5 d6 d7 d8 d9 d10 d11 d12 d13 d14 d15 d16
 go_loopw [22] (fun sk wr => ∃ k : Nat, sk = .int .i64 k ∧ k ≤ n0 ∧ Hid (w1.grownBy wr none)) (fun sk _ => n0 - (intOf sk).toNat)
 case atStart => exact ⟨0, rfl, Nat.zero_le _, Lib.hid (grown_reflT _ _)⟩
 case round =>
  obtain ⟨k, rfl, hk, KG⟩ := hrel
  have GR := Lib.hid (G1.out.trans KG.out)
  have B2 := Lib.hid (blkD KG.out B1.out)
  have T2 := Lib.hid (blkD KG.out TA.out)
  by_cases hlt : k < n0
  ·obtain ⟨b, off, rfl, RX0⟩ := HEI.out k hlt _ GR.out
   have RX := Lib.hid RX0
   have HM := Lib.hid (HMI.out k hlt)
   generalize its1.getD k default = x at *
   have i0 : (0 : Int) ≤ k := by omega
   have i1 : (k : Int) < n0 := by omega
   have i2 : (k : Int) < ic1 := by omega
   clear RX0
   go_upto_region 4 with fail
   refine wp_region_held_drew (S := (fun W => Hid (wr.grownBy W none))) (by kernel_rfl) (Lib.hid (grown_drewT (grown_reflX _ _))) (fun hHeld => ?_)
   refine TKA (i := 0) (v := .agg #[.string TN, .slice ta tn tcap, .int .i64 TK]) rfl (yieldsIf_load_mid (by rfl) _ _ rfl (w.heap.size + 1) 0 rfl _ _ (fun W hS => range_rowD (blkD hS.out T2.out)) Try.underlying24 rfl tab_size) ?_
   simp only [Act.put, List.getElem_toArray, List.getElem_cons_zero, List.size_toArray, List.length_cons, List.length_nil, Nat.reduceAdd, Array.replicate, List.replicate, List.setIfInBounds_toArray, List.set_cons_zero, List.set_cons_succ]
   refine TKB (i := 1) (v := ?vaz) rfl ?yaz ?raz
   case yaz => (intro w hSw; (try dsimp only at hSw); go_simp; try with_reducible rfl)
   simp only [Act.put, List.getElem_toArray, List.getElem_cons_succ, List.getElem_cons_zero, List.setIfInBounds_toArray, List.set_cons_zero, List.set_cons_succ]
   refine TKB (i := 2) (v := ?vbz) rfl ?ybz ?rbz
   case ybz => (intro w hSw; obtain ⟨d0, d1, d2, d3, d4, d5, d6, d7, d8, d9, d10, d11, d12, d13, d14, d15, d16⟩ := cells17 (blkD hSw.out B2.out); clear hSw; go_simp; try with_reducible rfl)
   simp only [Act.put, List.getElem_toArray, List.getElem_cons_succ, List.getElem_cons_zero, List.setIfInBounds_toArray, List.set_cons_zero, List.set_cons_succ]
   refine TKB (i := 3) (v := ?vcz) rfl ?ycz ?rcz
   case ycz => (intro w hSw; (try dsimp only at hSw); go_simp; try with_reducible rfl)
   simp only [Act.put, List.getElem_toArray, List.getElem_cons_succ, List.getElem_cons_zero, List.setIfInBounds_toArray, List.set_cons_zero, List.set_cons_succ]
   refine TKB (i := 4) (v := ?vdz) rfl ?ydz ?rdz
   case ydz => (intro w hSw; (try dsimp only at hSw); go_simp; (try rw [if_pos ⟨i0, i1⟩]); try with_reducible rfl)
   simp only [Act.put, List.getElem_toArray, List.getElem_cons_succ, List.getElem_cons_zero, List.setIfInBounds_toArray, List.set_cons_zero, List.set_cons_succ]
   refine TKA (i := 5) (v := .agg #[.int .i64 (x.agg : Nat), .string x.col, .int .i64 (x.pos : Nat)]) rfl (yieldsIf_load_mid (by rfl) _ _ rfl b (off + k * 3) rfl _ _ (fun W hS j u hj => hS.out.cell (RX.out j u hj) (by simp)) Try.underlying106 rfl it_infoD) ?_
   simp only [Act.put, List.getElem_toArray, List.getElem_cons_succ, List.getElem_cons_zero, List.setIfInBounds_toArray, List.set_cons_zero, List.set_cons_succ]
   refine RD1 (i := 6) rfl (fun K' hK => ?_)
   go_simp
   go_at_call 55
   refine (HIk.out x _ (GR.out.trans (grown_drewT (grown_reflX _ _)))).mono ?_
   rintro e w5 ⟨⟨kx, rfl⟩, hg⟩
   have Z5 : Hid (wr.grownBy w5 none) := Lib.hid ((grown_drewT (grown_reflX _ _)).trans hg)
   clear hg
   refine hK.out _ _ Z5 (fun hHeld => ?_)
   clear hK K'
   simp only [List.setIfInBounds_toArray, List.set_cons_zero, List.set_cons_succ]
   refine TKB (i := 7) (v := ?vez) rfl ?yez ?rez
   case yez => (intro w hSw; (try dsimp only at hSw); go_simp; try with_reducible rfl)
   simp only [Act.put, List.getElem_toArray, List.getElem_cons_succ, List.getElem_cons_zero, List.setIfInBounds_toArray, List.set_cons_zero, List.set_cons_succ]
   refine TKB (i := 8) (v := ?vfz) rfl ?yfz ?rfz
   case yfz => (intro w hSw; (try dsimp only at hSw); go_simp; try with_reducible rfl)
   simp only [Act.put, List.getElem_toArray, List.getElem_cons_succ, List.getElem_cons_zero, List.setIfInBounds_toArray, List.set_cons_zero, List.set_cons_succ]
   refine TKB (i := 9) (v := ?vgz) rfl ?ygz ?rgz
   case ygz => (intro w hSw; (try dsimp only at hSw); go_simp; try with_reducible rfl)
   simp only [Act.put, List.getElem_toArray, List.getElem_cons_succ, List.getElem_cons_zero, List.setIfInBounds_toArray, List.set_cons_zero, List.set_cons_succ]
   refine TKB (i := 10) (v := ?vhz) rfl ?yhz ?rhz
   case yhz => (intro w hSw; (try dsimp only at hSw); go_simp; try with_reducible rfl)
   simp only [Act.put, List.getElem_toArray, List.getElem_cons_succ, List.getElem_cons_zero, List.setIfInBounds_toArray, List.set_cons_zero, List.set_cons_succ]
   refine TKB (i := 11) (v := ?viz) rfl ?yiz ?riz
   case yiz => (intro w hSw; (try dsimp only at hSw); go_simp; try with_reducible rfl)
   simp only [Act.put, List.getElem_toArray, List.getElem_cons_succ, List.getElem_cons_zero, List.setIfInBounds_toArray, List.set_cons_zero, List.set_cons_succ]
   refine wpAnyH_done (by kernel_rfl) ?_ _
   have G5 := Lib.hid (GR.out.trans Z5.out)
   have KG5 := Lib.hid (KG.out.trans Z5.out)
   have c2 := Z5.out.cell (RX.out 2 _ rfl) (by simp)
   generalize itemC l x.agg x.col = z at *
   obtain ⟨d0, d1, d2, d3, d4, d5, d6, d7, d8, d9, d10, d11, d12, d13, d14, d15, d16⟩ := cells17 (blkD Z5.out B2.out)
   by_cases hz : z = 0
   ·have kz : (z != 0) = false := by rw [hz]; rfl
    clear hz HM c2
    clear d0 d1 d2 d3 d4 d5 d6 d7 d8 d9 d10 d11 d12 d13 d14 d15 d16
    go_wp2_with fail
    go_roundw
    case rel => exact ⟨k + 1, by go_num, by omega, KG5⟩
    case measure => simp [intOf]; omega
   ·have kz : (z != 0) = true := by rw [bne_iff_ne]; exact hz
    have HZ := Lib.hid hz
    clear hz
    go_wp2_with fail
    go_ret2
    exact ⟨⟨_, _, rfl, fun h => absurd (HM.out h) HZ.out, fun h => absurd h HZ.out⟩, G5.out⟩
  ·obtain rfl : n0 = k := by omega
   have RP : Hid (wr.rangeAt w.heap.size 3 px.c) := Lib.hid (fun j u hj => by
    rw [cell_of_row _ _ (3 + j) _ _ _ B2.out]
    rw [HPX.out] at hj
    have : j < 10 := (List.getElem?_eq_some_iff.1 hj).1
    have hj10 : j = 0 ∨ j = 1 ∨ j = 2 ∨ j = 3 ∨ j = 4 ∨ j = 5 ∨ j = 6 ∨ j = 7 ∨ j = 8 ∨ j = 9 := by omega
    rcases hj10 with rfl | rfl | rfl | rfl | rfl | rfl | rfl | rfl | rfl | rfl <;> simpa using hj)
   obtain ⟨⟨v0, v1x, v2⟩, e0, e1, e2⟩ := boxD3 T2.out
   clear HMI HEI hlt HPX
   go_wp2_with (first | (refine wpList_load_mid rfl 34 (.tmp 47) rfl w.heap.size 3 rfl px.c _ RP.out Try.underlying34 rfl (by rw [Pm.c_len]; exact pred_size) ?_) | fail)
   refine (HPr.out _ GR.out).mono ?_
   rintro e w5 ⟨⟨at1, rfl⟩, hg⟩
   have B5 := Lib.hid (blkD hg B2.out)
   have T5 := Lib.hid (blkD hg T2.out)
   have G5 := Lib.hid (GR.out.trans hg)
   clear hg v0 v1x v2 e0 e1 e2 RP B2 T2 GR KG B1 TA G1 HPr
   generalize predC l px.e = z at *
   by_cases hz : z ≠ 0
   ·have kz : (z != 0) = true := by rw [bne_iff_ne]; exact hz
    have HZ := Lib.hid hz
    clear hz
    go_wp2_with fail
    go_ret2
    exact ⟨⟨_, _, rfl, fun h => absurd (HP2.out h) HZ.out, fun h => absurd h HZ.out⟩, G5.out⟩
   have kz : (z != 0) = false := by rw [show z = 0 by omega]; rfl
   have HZ0 := Lib.hid (HPZ.out (by omega))
   clear hz HP2 HPZ
   obtain ⟨d0, d1, d2, d3, d4, d5, d6, d7, d8, d9, d10, d11, d12, d13, d14, d15, d16⟩ := cells17 B5.out
   go_upto_region 11 with fail
   clear kz
   go_wp2_with fail
   clear d0 d1 d2 d3 d4 d5 d6 d7 d8 d9 d10 d11 d12 d13 d14 d15 d16
   go_loopw [59] (fun sk wr => ∃ k : Nat, sk = .int .i64 k ∧ k ≤ n6 ∧ Hid (w5.grownBy wr none)) (fun sk _ => n6 - (intOf sk).toNat)
   case atStart => exact ⟨0, rfl, Nat.zero_le _, Lib.hid (grown_reflT _ _)⟩
   case round =>
    obtain ⟨k, rfl, hk, KG⟩ := hrel
    have GR := Lib.hid (G5.out.trans KG.out)
    have B2 := Lib.hid (blkD KG.out B5.out)
    have T2 := Lib.hid (blkD KG.out T5.out)
    by_cases hlt : k < n6
    ·have HNP : Hid (P → False) := Lib.hid (fun h => by have := HG0.out h; omega)
     obtain ⟨b, off, rfl, RX0⟩ := HEG.out k hlt _ GR.out
     have RX := Lib.hid RX0
     have HHk := Lib.hid (HHas.out k hlt)
     rw [HTk.out k hlt] at HHk
     generalize gr1.getD k default = x at *
     have i0 : (0 : Int) ≤ k := by omega
     have i1 : (k : Int) < n6 := by omega
     have i2 : (k : Int) < gc1 := by omega
     have i3 : (k : Int) ≤ gc1 := by omega
     clear RX0
     go_upto_region 14 with fail
     refine wp_region_held_drew (S := (fun W => Hid (wr.grownBy W none))) (by kernel_rfl) (Lib.hid (grown_drewT (grown_reflX _ _))) (fun hHeld => ?_)
     refine TKA (i := 0) (v := .agg #[.string TN, .slice ta tn tcap, .int .i64 TK]) rfl (yieldsIf_load_mid (by rfl) _ _ rfl (w.heap.size + 1) 0 rfl _ _ (fun W hS => range_rowD (blkD hS.out T2.out)) Try.underlying24 rfl tab_size) ?_
     simp only [Act.put, List.getElem_toArray, List.getElem_cons_zero, List.size_toArray, List.length_cons, List.length_nil, Nat.reduceAdd, Array.replicate, List.replicate, List.setIfInBounds_toArray, List.set_cons_zero, List.set_cons_succ]
     refine TKB (i := 1) (v := ?vjz) rfl ?yjz ?rjz
     case yjz => (intro w hSw; (try dsimp only at hSw); go_simp; try with_reducible rfl)
     simp only [Act.put, List.getElem_toArray, List.getElem_cons_succ, List.getElem_cons_zero, List.setIfInBounds_toArray, List.set_cons_zero, List.set_cons_succ]
     refine TKB (i := 2) (v := ?vkz) rfl ?ykz ?rkz
     case ykz => (intro w hSw; obtain ⟨d0, d1, d2, d3, d4, d5, d6, d7, d8, d9, d10, d11, d12, d13, d14, d15, d16⟩ := cells17 (blkD hSw.out B2.out); clear hSw; go_simp; try with_reducible rfl)
     simp only [Act.put, List.getElem_toArray, List.getElem_cons_succ, List.getElem_cons_zero, List.setIfInBounds_toArray, List.set_cons_zero, List.set_cons_succ]
     refine TKB (i := 3) (v := ?vlz) rfl ?ylz ?rlz
     case ylz => (intro w hSw; (try dsimp only at hSw); go_simp; try with_reducible rfl)
     simp only [Act.put, List.getElem_toArray, List.getElem_cons_succ, List.getElem_cons_zero, List.setIfInBounds_toArray, List.set_cons_zero, List.set_cons_succ]
     refine TKB (i := 4) (v := ?vmz) rfl ?ymz ?rmz
     case ymz => (intro w hSw; (try dsimp only at hSw); go_simp; (try rw [if_pos ⟨i0, i1⟩]); try with_reducible rfl)
     simp only [Act.put, List.getElem_toArray, List.getElem_cons_succ, List.getElem_cons_zero, List.setIfInBounds_toArray, List.set_cons_zero, List.set_cons_succ]
     refine TKA (i := 5) (v := .agg #[.int .i64 (x.agg : Nat), .string x.col, .int .i64 (x.pos : Nat)]) rfl (yieldsIf_load_mid (by rfl) _ _ rfl b (off + k * 3) rfl _ _ (fun W hS j u hj => hS.out.cell (RX.out j u hj) (by simp)) Try.underlying106 rfl it_infoD) ?_
     simp only [Act.put, List.getElem_toArray, List.getElem_cons_succ, List.getElem_cons_zero, List.setIfInBounds_toArray, List.set_cons_zero, List.set_cons_succ]
     refine RD1 (i := 6) rfl (fun K' hK => ?_)
     go_simp
     go_at_call 55
     refine (HIk.out x _ (GR.out.trans (grown_drewT (grown_reflX _ _)))).mono ?_
     rintro e w6 ⟨⟨kx, rfl⟩, hg⟩
     have Z6 : Hid (wr.grownBy w6 none) := Lib.hid ((grown_drewT (grown_reflX _ _)).trans hg)
     clear hg
     refine hK.out _ _ Z6 (fun hHeld => ?_)
     clear hK K'
     simp only [List.setIfInBounds_toArray, List.set_cons_zero, List.set_cons_succ]
     refine TKB (i := 7) (v := ?vnz) rfl ?ynz ?rnz
     case ynz => (intro w hSw; (try dsimp only at hSw); go_simp; try with_reducible rfl)
     simp only [Act.put, List.getElem_toArray, List.getElem_cons_succ, List.getElem_cons_zero, List.setIfInBounds_toArray, List.set_cons_zero, List.set_cons_succ]
     refine TKB (i := 8) (v := ?voz) rfl ?yoz ?roz
     case yoz => (intro w hSw; (try dsimp only at hSw); go_simp; try with_reducible rfl)
     simp only [Act.put, List.getElem_toArray, List.getElem_cons_succ, List.getElem_cons_zero, List.setIfInBounds_toArray, List.set_cons_zero, List.set_cons_succ]
     refine TKB (i := 9) (v := ?vpz) rfl ?ypz ?rpz
     case ypz => (intro w hSw; (try dsimp only at hSw); go_simp; try with_reducible rfl)
     simp only [Act.put, List.getElem_toArray, List.getElem_cons_succ, List.getElem_cons_zero, List.setIfInBounds_toArray, List.set_cons_zero, List.set_cons_succ]
     refine TKB (i := 10) (v := ?vqz) rfl ?yqz ?rqz
     case yqz => (intro w hSw; (try dsimp only at hSw); go_simp; try with_reducible rfl)
     simp only [Act.put, List.getElem_toArray, List.getElem_cons_succ, List.getElem_cons_zero, List.setIfInBounds_toArray, List.set_cons_zero, List.set_cons_succ]
     refine TKB (i := 11) (v := ?vrz) rfl ?yrz ?rrz
     case yrz => (intro w hSw; (try dsimp only at hSw); go_simp; try with_reducible rfl)
     simp only [Act.put, List.getElem_toArray, List.getElem_cons_succ, List.getElem_cons_zero, List.setIfInBounds_toArray, List.set_cons_zero, List.set_cons_succ]
     refine wpAnyH_done (by kernel_rfl) ?_ _
     have G6 := Lib.hid (GR.out.trans Z6.out)
     have KG6 := Lib.hid (KG.out.trans Z6.out)
     have B6 := Lib.hid (blkD Z6.out B2.out)
     have RX6 : Hid (w6.rangeAt b (off + k * 3) x.c) := Lib.hid (fun j u hj => Z6.out.cell (RX.out j u hj) (by simp))
     generalize itemC l x.agg x.col = z at *
     clear RX B2 T2 GR KG
     go_upto_region 15 with fail
     by_cases hz : z = 0
     ·have kz : (z == 0) = true := by rw [hz]; rfl
      have kz2 : (z != 0) = false := by rw [hz]; rfl
      clear hz
      refine wp_region_held_drew (S := (fun W => Hid (w6.grownBy W none))) (by kernel_rfl) (Lib.hid (grown_drewT (grown_reflX _ _))) (fun hHeld => ?_)
      refine TKB (i := 0) (v := ?vsz) rfl ?ysz ?rsz
      case ysz => (intro w hSw; (try dsimp only at hSw); go_simp; try with_reducible rfl)
      simp only [Act.put, List.getElem_toArray, List.getElem_cons_zero, List.size_toArray, List.length_cons, List.length_nil, Nat.reduceAdd, Array.replicate, List.replicate, List.setIfInBounds_toArray, List.set_cons_zero, List.set_cons_succ]
      refine TKB (i := 1) (v := ?vtz) rfl ?ytz ?rtz
      case ytz => (intro w hSw; have kz3 := kz; clear hSw; go_simp; try with_reducible rfl)
      simp only [Act.put, List.getElem_toArray, List.getElem_cons_succ, List.getElem_cons_zero, List.setIfInBounds_toArray, List.set_cons_zero, List.set_cons_succ]
      refine TKB (i := 2) (v := ?vuz) rfl ?yuz ?ruz
      case yuz => (intro w hSw; (try dsimp only at hSw); go_simp; try with_reducible rfl)
      simp only [Act.put, List.getElem_toArray, List.getElem_cons_succ, List.getElem_cons_zero, List.setIfInBounds_toArray, List.set_cons_zero, List.set_cons_succ]
      refine TKB (i := 3) (v := ?vvz) rfl ?yvz ?rvz
      case yvz => (intro w hSw; (try dsimp only at hSw); go_simp; try with_reducible rfl)
      simp only [Act.put, List.getElem_toArray, List.getElem_cons_succ, List.getElem_cons_zero, List.setIfInBounds_toArray, List.set_cons_zero, List.set_cons_succ]
      refine TKB (i := 4) (v := ?vwz) rfl ?ywz ?rwz
      case ywz => (intro w hSw; obtain ⟨d0, d1, d2, d3, d4, d5, d6, d7, d8, d9, d10, d11, d12, d13, d14, d15, d16⟩ := cells17 (blkD hSw.out B6.out); clear hSw; go_simp; try with_reducible rfl)
      simp only [Act.put, List.getElem_toArray, List.getElem_cons_succ, List.getElem_cons_zero, List.setIfInBounds_toArray, List.set_cons_zero, List.set_cons_succ]
      refine TKB (i := 5) (v := ?vxz) rfl ?yxz ?rxz
      case yxz => (intro w hSw; (try dsimp only at hSw); go_simp; try with_reducible rfl)
      simp only [Act.put, List.getElem_toArray, List.getElem_cons_succ, List.getElem_cons_zero, List.setIfInBounds_toArray, List.set_cons_zero, List.set_cons_succ]
      refine TKB (i := 6) (v := ?vyz) rfl ?yyz ?ryz
      case yyz => (intro w hSw; (try dsimp only at hSw); go_simp; try with_reducible rfl)
      simp only [Act.put, List.getElem_toArray, List.getElem_cons_succ, List.getElem_cons_zero, List.setIfInBounds_toArray, List.set_cons_zero, List.set_cons_succ]
      refine TKB (i := 7) (v := ?vzz) rfl ?yzz ?rzz
      case yzz => (intro w hSw; (try dsimp only at hSw); go_simp; try with_reducible rfl)
      simp only [Act.put, List.getElem_toArray, List.getElem_cons_succ, List.getElem_cons_zero, List.setIfInBounds_toArray, List.set_cons_zero, List.set_cons_succ]
      refine TKB (i := 8) (v := ?v0z) rfl ?y0z ?r0z
      case y0z => (intro w hSw; obtain ⟨d0, d1, d2, d3, d4, d5, d6, d7, d8, d9, d10, d11, d12, d13, d14, d15, d16⟩ := cells17 (blkD hSw.out B6.out); clear hSw; go_simp; try with_reducible rfl)
      simp only [Act.put, List.getElem_toArray, List.getElem_cons_succ, List.getElem_cons_zero, List.setIfInBounds_toArray, List.set_cons_zero, List.set_cons_succ]
      refine TKB (i := 9) (v := ?v1z) rfl ?y1z ?r1z
      case y1z => (intro w hSw; (try dsimp only at hSw); go_simp; try with_reducible rfl)
      simp only [Act.put, List.getElem_toArray, List.getElem_cons_succ, List.getElem_cons_zero, List.setIfInBounds_toArray, List.set_cons_zero, List.set_cons_succ]
      refine TKB (i := 10) (v := ?v2z) rfl ?y2z ?r2z
      case y2z => (intro w hSw; (try dsimp only at hSw); go_simp; (try rw [if_pos ⟨i0, i1⟩]); try with_reducible rfl)
      simp only [Act.put, List.getElem_toArray, List.getElem_cons_succ, List.getElem_cons_zero, List.setIfInBounds_toArray, List.set_cons_zero, List.set_cons_succ]
      refine TKB (i := 11) (v := ?v3z) rfl ?y3z ?r3z
      case y3z => (intro w hSw; (try dsimp only at hSw); go_simp; try with_reducible rfl)
      simp only [Act.put, List.getElem_toArray, List.getElem_cons_succ, List.getElem_cons_zero, List.setIfInBounds_toArray, List.set_cons_zero, List.set_cons_succ]
      refine TKB (i := 12) (v := ?v4z) rfl ?y4z ?r4z
      case y4z => (intro w hSw; have q1 := hSw.out.cell (RX6.out 1 _ rfl) (by simp); clear hSw; go_simp; try with_reducible rfl)
      simp only [Act.put, List.getElem_toArray, List.getElem_cons_succ, List.getElem_cons_zero, List.setIfInBounds_toArray, List.set_cons_zero, List.set_cons_succ]
      refine RD1 (i := 13) rfl (fun K' hK => ?_)
      go_simp
      go_at_call 57
      refine (HHk.out x.col _ (G6.out.trans (grown_drewT (grown_reflX _ _)))).mono ?_
      rintro e w7 ⟨⟨bb, rfl⟩, hg⟩
      have Z7 : Hid (w6.grownBy w7 none) := Lib.hid ((grown_drewT (grown_reflX _ _)).trans hg)
      clear hg
      refine hK.out _ _ Z7 (fun hHeld => ?_)
      clear hK K'
      simp only [List.setIfInBounds_toArray, List.set_cons_zero, List.set_cons_succ]
      refine TKB (i := 14) (v := ?v5z) rfl ?y5z ?r5z
      case y5z => (intro w hSw; (try dsimp only at hSw); go_simp; try with_reducible rfl)
      simp only [Act.put, List.getElem_toArray, List.getElem_cons_succ, List.getElem_cons_zero, List.setIfInBounds_toArray, List.set_cons_zero, List.set_cons_succ]
      refine wpAnyH_done (by kernel_rfl) ?_ _
      have G7 := Lib.hid (G6.out.trans Z7.out)
      have KG7 := Lib.hid (KG6.out.trans Z7.out)
      have c2 := Z7.out.cell (RX6.out 2 _ rfl) (by simp)
      obtain ⟨d0, d1, d2, d3, d4, d5, d6, d7, d8, d9, d10, d11, d12, d13, d14, d15, d16⟩ := cells17 (blkD Z7.out B6.out)
      cases bb with
      | true =>
       go_wp2_with fail
       go_ret2
       exact ⟨⟨_, _, rfl, fun h => (HNP.out h).elim, fun _ => HZ0.out⟩, G7.out⟩
      | false =>
       clear c2
       clear d0 d1 d2 d3 d4 d5 d6 d7 d8 d9 d10 d11 d12 d13 d14 d15 d16
       go_wp2_with fail
       go_roundw
       case rel => exact ⟨k + 1, by go_num, by omega, KG7⟩
       case measure => simp [intOf]; omega
     ·have kz : (z == 0) = false := by rw [beq_eq_false_iff_ne]; exact hz
      have kz2 : (z != 0) = true := by rw [bne_iff_ne]; exact hz
      clear hz
      refine wp_region_held_drew (S := (fun W => Hid (w6.grownBy W none))) (by kernel_rfl) (Lib.hid (grown_drewT (grown_reflX _ _))) (fun hHeld => ?_)
      refine TKB (i := 0) (v := ?v6z) rfl ?y6z ?r6z
      case y6z => (intro w hSw; (try dsimp only at hSw); go_simp; try with_reducible rfl)
      simp only [Act.put, List.getElem_toArray, List.getElem_cons_zero, List.size_toArray, List.length_cons, List.length_nil, Nat.reduceAdd, Array.replicate, List.replicate, List.setIfInBounds_toArray, List.set_cons_zero, List.set_cons_succ]
      refine TKB (i := 1) (v := ?v7z) rfl ?y7z ?r7z
      case y7z => (intro w hSw; have kz3 := kz; clear hSw; go_simp; try with_reducible rfl)
      simp only [Act.put, List.getElem_toArray, List.getElem_cons_succ, List.getElem_cons_zero, List.setIfInBounds_toArray, List.set_cons_zero, List.set_cons_succ]
      refine TKB (i := 2) (v := ?v8z) rfl ?y8z ?r8z
      case y8z => (intro w hSw; (try dsimp only at hSw); go_simp; try with_reducible rfl)
      simp only [Act.put, List.getElem_toArray, List.getElem_cons_succ, List.getElem_cons_zero, List.setIfInBounds_toArray, List.set_cons_zero, List.set_cons_succ]
      refine TKU (i := 3) rfl ?_
      simp only [Act.put, List.getElem_toArray, List.getElem_cons_succ, List.getElem_cons_zero, List.setIfInBounds_toArray, List.set_cons_zero, List.set_cons_succ]
      refine TKU (i := 4) rfl ?_
      simp only [Act.put, List.getElem_toArray, List.getElem_cons_succ, List.getElem_cons_zero, List.setIfInBounds_toArray, List.set_cons_zero, List.set_cons_succ]
      refine TKU (i := 5) rfl ?_
      simp only [Act.put, List.getElem_toArray, List.getElem_cons_succ, List.getElem_cons_zero, List.setIfInBounds_toArray, List.set_cons_zero, List.set_cons_succ]
      refine TKU (i := 6) rfl ?_
      simp only [Act.put, List.getElem_toArray, List.getElem_cons_succ, List.getElem_cons_zero, List.setIfInBounds_toArray, List.set_cons_zero, List.set_cons_succ]
      refine TKU (i := 7) rfl ?_
      simp only [Act.put, List.getElem_toArray, List.getElem_cons_succ, List.getElem_cons_zero, List.setIfInBounds_toArray, List.set_cons_zero, List.set_cons_succ]
      refine TKU (i := 8) rfl ?_
      simp only [Act.put, List.getElem_toArray, List.getElem_cons_succ, List.getElem_cons_zero, List.setIfInBounds_toArray, List.set_cons_zero, List.set_cons_succ]
      refine TKU (i := 9) rfl ?_
      simp only [Act.put, List.getElem_toArray, List.getElem_cons_succ, List.getElem_cons_zero, List.setIfInBounds_toArray, List.set_cons_zero, List.set_cons_succ]
      refine TKU (i := 10) rfl ?_
      simp only [Act.put, List.getElem_toArray, List.getElem_cons_succ, List.getElem_cons_zero, List.setIfInBounds_toArray, List.set_cons_zero, List.set_cons_succ]
      refine TKU (i := 11) rfl ?_
      simp only [Act.put, List.getElem_toArray, List.getElem_cons_succ, List.getElem_cons_zero, List.setIfInBounds_toArray, List.set_cons_zero, List.set_cons_succ]
      refine TKU (i := 12) rfl ?_
      simp only [Act.put, List.getElem_toArray, List.getElem_cons_succ, List.getElem_cons_zero, List.setIfInBounds_toArray, List.set_cons_zero, List.set_cons_succ]
      refine TKU (i := 13) rfl ?_
      simp only [Act.put, List.getElem_toArray, List.getElem_cons_succ, List.getElem_cons_zero, List.setIfInBounds_toArray, List.set_cons_zero, List.set_cons_succ]
      refine TKB (i := 14) (v := ?v9z) rfl ?y9z ?r9z
      case y9z => (intro w hSw; (try dsimp only at hSw); go_simp; try with_reducible rfl)
      simp only [Act.put, List.getElem_toArray, List.getElem_cons_succ, List.getElem_cons_zero, List.setIfInBounds_toArray, List.set_cons_zero, List.set_cons_succ]
      refine wpAnyH_done (by kernel_rfl) ?_ _
      have G7 := Lib.hid (gq_dr G6.out)
      have c2 := (World.grownBy.cell (grown_drewT (grown_reflX w6 none)) (RX6.out 2 _ rfl) (by simp))
      obtain ⟨d0, d1, d2, d3, d4, d5, d6, d7, d8, d9, d10, d11, d12, d13, d14, d15, d16⟩ := cells17 (blkD (grown_drewT (grown_reflX w6 none)) B6.out)
      go_wp2_with fail
      go_ret2
      exact ⟨⟨_, _, rfl, fun h => (HNP.out h).elim, fun _ => HZ0.out⟩, G7.out⟩
    ·obtain rfl : n6 = k := by omega
     clear hlt HEG HHas HTk HG0
     go_wp2_with (first | (refine wpList_load_row rfl 37 (.tmp 2) rfl w.heap.size rfl 37 #[.slice ia1 n0 ic1, .bool al1, .string ta1, .int .i64 (k1 : Nat), .string c1, .int .i64 (rr1 : Nat), .int .i64 v1.k, .int .i64 v1.n, .string v1.s, .string o1, .slice la1 n2 lc1, .slice ka1 n4 kc1, .int .i64 (pp1 : Nat), .slice ga1 n6 gc1, .slice oa1 n oc1, .int .i64 lim1, .int .i64 0] (0, 0) _ B2.out Try.underlying37 rfl query_size ?_) | fail)
     refine (HKy.out _ GR.out).mono ?_
     rintro e w6 ⟨ak, ck, rfl, zk, lkk, hg⟩
     have B6 := Lib.hid (blkD hg B2.out)
     have T6 := Lib.hid (blkD hg T2.out)
     have G6 := Lib.hid (GR.out.trans hg)
     have WK := Lib.hid zk
     have hkc := zk.le
     clear hg zk lkk B2 T2 GR KG B5 T5 G5 HKy
     have WKi : Hid (CellsS (fun _ => True) w6 ak (lk.flatMap Itm.c)) := Lib.hid (by rw [← HOk.out]; exact win_cells WK.out (fun _ _ => trivial))
     go_wp2_with fail
     go_loopw [101] (fun sk wr => ∃ k : Nat, sk = .int .i64 k ∧ k ≤ n ∧ Hid (w6.grownBy wr none)) (fun sk _ => n - (intOf sk).toNat)
     case atStart => exact ⟨0, rfl, Nat.zero_le _, Lib.hid (grown_reflT _ _)⟩
     case round =>
      obtain ⟨k, rfl, hk, KG⟩ := hrel
      have GR := Lib.hid (G6.out.trans KG.out)
      have B2 := Lib.hid (blkD KG.out B6.out)
      have T2 := Lib.hid (blkD KG.out T6.out)
      by_cases hlt : k < n
      ·have HNP : Hid (P → False) := Lib.hid (fun h => by have := HO0.out h; omega)
       obtain ⟨b, off, rfl, RX0⟩ := elemR WKi.out (i := k) (by rw [HOl.out]; exact hlt)
       have RX : Hid (wr.rangeAt b (off + k * 3) (lk.getD k default).c) := Lib.hid (fun j u hj => KG.out.cell (RX0 j u hj) (by simp))
       generalize lk.getD k default = x at *
       have i0 : (0 : Int) ≤ k := by omega
       have i1 : (k : Int) < n := by omega
       have i2 : (k : Int) < ck := by omega
       clear RX0
       go_upto_region 24 with fail
       refine wp_region_held_drew (S := (fun W => Hid (wr.grownBy W none))) (by kernel_rfl) (Lib.hid (grown_drewT (grown_reflX _ _))) (fun hHeld => ?_)
       refine TKA (i := 0) (v := .agg #[.string TN, .slice ta tn tcap, .int .i64 TK]) rfl (yieldsIf_load_mid (by rfl) _ _ rfl (w.heap.size + 1) 0 rfl _ _ (fun W hS => range_rowD (blkD hS.out T2.out)) Try.underlying24 rfl tab_size) ?_
       simp only [Act.put, List.getElem_toArray, List.getElem_cons_zero, List.size_toArray, List.length_cons, List.length_nil, Nat.reduceAdd, Array.replicate, List.replicate, List.setIfInBounds_toArray, List.set_cons_zero, List.set_cons_succ]
       refine TKB (i := 1) (v := ?vbaz) rfl ?ybaz ?rbaz
       case ybaz => (intro w hSw; (try dsimp only at hSw); go_simp; try with_reducible rfl)
       simp only [Act.put, List.getElem_toArray, List.getElem_cons_succ, List.getElem_cons_zero, List.setIfInBounds_toArray, List.set_cons_zero, List.set_cons_succ]
       refine TKB (i := 2) (v := ?vbbz) rfl ?ybbz ?rbbz
       case ybbz => (intro w hSw; (try dsimp only at hSw); go_simp; try with_reducible rfl)
       simp only [Act.put, List.getElem_toArray, List.getElem_cons_succ, List.getElem_cons_zero, List.setIfInBounds_toArray, List.set_cons_zero, List.set_cons_succ]
       refine TKB (i := 3) (v := ?vbcz) rfl ?ybcz ?rbcz
       case ybcz => (intro w hSw; (try dsimp only at hSw); go_simp; (try rw [if_pos ⟨i0, i1⟩]); try with_reducible rfl)
       simp only [Act.put, List.getElem_toArray, List.getElem_cons_succ, List.getElem_cons_zero, List.setIfInBounds_toArray, List.set_cons_zero, List.set_cons_succ]
       refine TKA (i := 4) (v := .agg #[.int .i64 (x.agg : Nat), .string x.col, .int .i64 (x.pos : Nat)]) rfl (yieldsIf_load_mid (by rfl) _ _ rfl b (off + k * 3) rfl _ _ (fun W hS j u hj => hS.out.cell (RX.out j u hj) (by simp)) Try.underlying106 rfl it_infoD) ?_
       simp only [Act.put, List.getElem_toArray, List.getElem_cons_succ, List.getElem_cons_zero, List.setIfInBounds_toArray, List.set_cons_zero, List.set_cons_succ]
       refine RD1 (i := 5) rfl (fun K' hK => ?_)
       go_simp
       go_at_call 55
       refine (HIk.out x _ (GR.out.trans (grown_drewT (grown_reflX _ _)))).mono ?_
       rintro e w7 ⟨⟨kx, rfl⟩, hg⟩
       have Z7 : Hid (wr.grownBy w7 none) := Lib.hid ((grown_drewT (grown_reflX _ _)).trans hg)
       clear hg
       refine hK.out _ _ Z7 (fun hHeld => ?_)
       clear hK K'
       simp only [List.setIfInBounds_toArray, List.set_cons_zero, List.set_cons_succ]
       refine TKB (i := 6) (v := ?vbdz) rfl ?ybdz ?rbdz
       case ybdz => (intro w hSw; (try dsimp only at hSw); go_simp; try with_reducible rfl)
       simp only [Act.put, List.getElem_toArray, List.getElem_cons_succ, List.getElem_cons_zero, List.setIfInBounds_toArray, List.set_cons_zero, List.set_cons_succ]
       refine TKB (i := 7) (v := ?vbez) rfl ?ybez ?rbez
       case ybez => (intro w hSw; (try dsimp only at hSw); go_simp; try with_reducible rfl)
       simp only [Act.put, List.getElem_toArray, List.getElem_cons_succ, List.getElem_cons_zero, List.setIfInBounds_toArray, List.set_cons_zero, List.set_cons_succ]
       refine TKB (i := 8) (v := ?vbfz) rfl ?ybfz ?rbfz
       case ybfz => (intro w hSw; (try dsimp only at hSw); go_simp; try with_reducible rfl)
       simp only [Act.put, List.getElem_toArray, List.getElem_cons_succ, List.getElem_cons_zero, List.setIfInBounds_toArray, List.set_cons_zero, List.set_cons_succ]
       refine TKB (i := 9) (v := ?vbgz) rfl ?ybgz ?rbgz
       case ybgz => (intro w hSw; (try dsimp only at hSw); go_simp; try with_reducible rfl)
       simp only [Act.put, List.getElem_toArray, List.getElem_cons_succ, List.getElem_cons_zero, List.setIfInBounds_toArray, List.set_cons_zero, List.set_cons_succ]
       refine TKB (i := 10) (v := ?vbhz) rfl ?ybhz ?rbhz
       case ybhz => (intro w hSw; (try dsimp only at hSw); go_simp; try with_reducible rfl)
       simp only [Act.put, List.getElem_toArray, List.getElem_cons_succ, List.getElem_cons_zero, List.setIfInBounds_toArray, List.set_cons_zero, List.set_cons_succ]
       refine wpAnyH_done (by kernel_rfl) ?_ _
       have G7 := Lib.hid (GR.out.trans Z7.out)
       have KG7 := Lib.hid (KG.out.trans Z7.out)
       have c2 := Z7.out.cell (RX.out 2 _ rfl) (by simp)
       generalize itemC l x.agg x.col = z at *
       by_cases hz : z = 0
       ·have kz : (z != 0) = false := by rw [hz]; rfl
        clear hz c2
        go_wp2_with fail
        go_roundw
        case rel => exact ⟨k + 1, by go_num, by omega, KG7⟩
        case measure => simp [intOf]; omega
       ·have kz : (z != 0) = true := by rw [bne_iff_ne]; exact hz
        clear hz
        go_wp2_with fail
        go_ret2
        exact ⟨⟨_, _, rfl, fun h => (HNP.out h).elim, fun _ => HZ0.out⟩, G7.out⟩
      ·obtain rfl : n = k := by omega
       have WK2 := Lib.hid (WK.out.keepG KG.out)
       clear hlt HO0 WKi HOl
       go_wp2_with (first | (refine wpList_load_row rfl 37 (.tmp 2) rfl w.heap.size rfl 37 #[.slice ia1 n0 ic1, .bool al1, .string ta1, .int .i64 (k1 : Nat), .string c1, .int .i64 (rr1 : Nat), .int .i64 v1.k, .int .i64 v1.n, .string v1.s, .string o1, .slice la1 n2 lc1, .slice ka1 n4 kc1, .int .i64 (pp1 : Nat), .slice ga1 n6 gc1, .slice oa1 n oc1, .int .i64 lim1, .int .i64 0] (0, 0) _ B2.out Try.underlying37 rfl query_size ?_) | fail)
       refine (HGp.out _ GR.out).mono ?_
       rintro e w8 ⟨⟨bb, rfl, hbb⟩, hg⟩
       have B8 := Lib.hid (blkD hg B2.out)
       have G8 := Lib.hid (GR.out.trans hg)
       have WK8 := Lib.hid (WK2.out.keepG hg)
       have HB := Lib.hid hbb
       clear hg hbb B2 T2 GR KG B6 T6 G6 HGp WK WK2 HIk
       cases bb with
       | false =>
        go_wp2_with fail
        go_ret2
        exact ⟨⟨_, _, rfl, fun _ => rfl, fun _ => HZ0.out⟩, G8.out⟩
       | true =>
        have HNP : Hid (P → False) := Lib.hid (fun h => by have := HB.out (HGI.out h).1 (HGI.out h).2; cases this)
        obtain ⟨d0, d1, d2, d3, d4, d5, d6, d7, d8, d9, d10, d11, d12, d13, d14, d15, d16⟩ := cells17 B8.out
        clear HB HGI
        cases al1 with
        | true =>
         go_wp2_with fail
         go_ret2
         exact ⟨⟨_, _, rfl, fun h => (HNP.out h).elim, fun _ => HZ0.out⟩, G8.out⟩
        | false =>
         have HBq : Hid (∀ W, w8.grownBy W none → W.heap[w.heap.size]? = _) := Lib.hid (fun W hW => blkD hW B8.out)
         have WB : Hid (Win 3 (w8.alloc (.cells #[] 106)) (some ⟨w8.heap.size, 0, none⟩) 0 0 []) := Lib.hid ⟨rfl, Nat.le_refl _, Nat.zero_le _, fun k hk => by rw [bk_some] at hk; subst hk; simp, .inl rfl⟩
         have gb := World.grownBy_alloc w8 (.cells #[] 106) none
         have GB := Lib.hid gb
         have d0b : ∀ o : Obj, (w8.alloc o).cell? ⟨w.heap.size, 0, none⟩ = some (.slice ia1 n0 ic1) := fun o => (World.grownBy_alloc w8 o none).cell d0 (by simp)
         go_wp2_with (refine wpList_append_winA (by rfl) (.tmp 127) (.tmp 129) itm_el (by rfl) WB.out (by rfl) ia1 n0 ic1 (by rfl) _ HA1.out HL1.out (by omega) (HN1.out _ (G8.out.trans GB.out)) H11.out ?_)
         intro a9 c9 w9 z9 o9 b9 _
         have Z9 : Hid (w8.grownBy w9 none) := Lib.hid (grown_onlyN GB.out o9 (fun k hk => by rw [bk_some] at hk; omega))
         try rw [Nat.zero_add] at z9
         try rw [Nat.zero_add]
         have W9 := Lib.hid z9
         have L9 : Hid (∀ k, bk a9 k → w8.heap.size ≤ k) := Lib.hid (fun k hk => by exact (b9 k hk).elim (fun e => by rw [bk_some] at e; omega) (fun e => by have := GB.out.size; simp at e this; omega))
         have WK9 := Lib.hid (WK8.out.keepG Z9.out)
         clear z9 o9 b9 gb d0b d0 d1 d2 d3 d4 d5 d6 d7 d8 d9 d10 d11 d12 d13 d14 d15 d16
         go_wp2_with (refine wpList_append_winA (by rfl) (.tmp 130) (.tmp 131) itm_el (by rfl) W9.out (by rfl) ak n ck (by rfl) _ (fun e => (WK9.out.nil_of e).1) HL3.out (by omega) WK9.out.at H13.out ?_)
         intro a7 c7 w7 z7 o7 b7 _
         have Z7 : Hid (w8.grownBy w7 none) := Lib.hid (grown_onlyN Z9.out o7 L9.out)
         try simp only [List.nil_append] at z7
         have hx := HX.out; simp only [List.nil_append] at hx; rw [hx] at z7; clear hx
         have W7 := Lib.hid z7
         have B7 := Lib.hid (HBq.out _ Z7.out)
         have G7 := Lib.hid (G8.out.trans Z7.out)
         clear z7 o7 b7
         obtain ⟨NN, hNN⟩ : ∃ NN, NN = n0 + n := ⟨_, rfl⟩
         rw [← hNN] at W7 HLL ⊢
         have hN3 : NN ≤ 2000 := by omega
         have hcp := W7.out.le
         clear HX WK9 WK8 W9 L9 WB HN1 H11 H13 HL1 HL3 HA1 hNN HBq Z9 GB
         have WKi : Hid (CellsS (fun _ => True) w7 a7 (La.flatMap Itm.c)) := Lib.hid (win_cells W7.out (fun _ _ => trivial))
         go_wp2_with fail
         go_loopw [135] (fun sk wr => ∃ k : Nat, sk = .int .i64 k ∧ k ≤ NN ∧ Hid (w7.grownBy wr none)) (fun sk _ => NN - (intOf sk).toNat)
         case atStart => exact ⟨0, rfl, Nat.zero_le _, Lib.hid (grown_reflT _ _)⟩
         case round =>
          obtain ⟨k, rfl, hk, KG⟩ := hrel
          have GR := Lib.hid (G7.out.trans KG.out)
          have B2 := Lib.hid (blkD KG.out B7.out)
          by_cases hlt : k < NN
          ·obtain ⟨b, off, rfl, RX0⟩ := elemR WKi.out (i := k) (by rw [HLL.out]; exact hlt)
           have RX : Hid (wr.rangeAt b (off + k * 3) (La.getD k default).c) := Lib.hid (fun j u hj => KG.out.cell (RX0 j u hj) (by simp))
           generalize La.getD k default = x at *
           have i0 : (0 : Int) ≤ k := by omega
           have i1 : (k : Int) < NN := by omega
           have i2 : (k : Int) < c7 := by omega
           clear RX0
           go_upto_region 36 with fail
           by_cases hz : x.agg = 0
           ·have kz : ((x.agg : Int) == 0) = true := by rw [hz]; rfl
            clear hz
            refine wp_region_held_drew (S := (fun W => Hid (wr.grownBy W none))) (by kernel_rfl) (Lib.hid (grown_drewT (grown_reflX _ _))) (fun hHeld => ?_)
            refine TKB (i := 0) (v := ?vbiz) rfl ?ybiz ?rbiz
            case ybiz => (intro w hSw; (try dsimp only at hSw); go_simp; try with_reducible rfl)
            simp only [Act.put, List.getElem_toArray, List.getElem_cons_zero, List.size_toArray, List.length_cons, List.length_nil, Nat.reduceAdd, Array.replicate, List.replicate, List.setIfInBounds_toArray, List.set_cons_zero, List.set_cons_succ]
            refine TKB (i := 1) (v := ?vbjz) rfl ?ybjz ?rbjz
            case ybjz => (intro w hSw; (try dsimp only at hSw); go_simp; try with_reducible rfl)
            simp only [Act.put, List.getElem_toArray, List.getElem_cons_succ, List.getElem_cons_zero, List.setIfInBounds_toArray, List.set_cons_zero, List.set_cons_succ]
            refine TKB (i := 2) (v := ?vbkz) rfl ?ybkz ?rbkz
            case ybkz => (intro w hSw; (try dsimp only at hSw); go_simp; (try rw [if_pos ⟨i0, i1⟩]); try with_reducible rfl)
            simp only [Act.put, List.getElem_toArray, List.getElem_cons_succ, List.getElem_cons_zero, List.setIfInBounds_toArray, List.set_cons_zero, List.set_cons_succ]
            refine TKB (i := 3) (v := ?vblz) rfl ?yblz ?rblz
            case yblz => (intro w hSw; (try dsimp only at hSw); go_simp; try with_reducible rfl)
            simp only [Act.put, List.getElem_toArray, List.getElem_cons_succ, List.getElem_cons_zero, List.setIfInBounds_toArray, List.set_cons_zero, List.set_cons_succ]
            refine TKB (i := 4) (v := ?vbmz) rfl ?ybmz ?rbmz
            case ybmz => (intro w hSw; have q0 := hSw.out.cell (RX.out 0 _ rfl) (by simp); simp only [Nat.add_zero] at q0; clear hSw; go_simp; try with_reducible rfl)
            simp only [Act.put, List.getElem_toArray, List.getElem_cons_succ, List.getElem_cons_zero, List.setIfInBounds_toArray, List.set_cons_zero, List.set_cons_succ]
            refine TKB (i := 5) (v := ?vbnz) rfl ?ybnz ?rbnz
            case ybnz => (intro w hSw; have kz3 := kz; clear hSw; go_simp; try with_reducible rfl)
            simp only [Act.put, List.getElem_toArray, List.getElem_cons_succ, List.getElem_cons_zero, List.setIfInBounds_toArray, List.set_cons_zero, List.set_cons_succ]
            refine TKB (i := 6) (v := ?vboz) rfl ?yboz ?rboz
            case yboz => (intro w hSw; (try dsimp only at hSw); go_simp; try with_reducible rfl)
            simp only [Act.put, List.getElem_toArray, List.getElem_cons_succ, List.getElem_cons_zero, List.setIfInBounds_toArray, List.set_cons_zero, List.set_cons_succ]
            refine TKB (i := 7) (v := ?vbpz) rfl ?ybpz ?rbpz
            case ybpz => (intro w hSw; (try dsimp only at hSw); go_simp; try with_reducible rfl)
            simp only [Act.put, List.getElem_toArray, List.getElem_cons_succ, List.getElem_cons_zero, List.setIfInBounds_toArray, List.set_cons_zero, List.set_cons_succ]
            refine TKB (i := 8) (v := ?vbqz) rfl ?ybqz ?rbqz
            case ybqz => (intro w hSw; obtain ⟨d0, d1, d2, d3, d4, d5, d6, d7, d8, d9, d10, d11, d12, d13, d14, d15, d16⟩ := cells17 (blkD hSw.out B2.out); clear hSw; go_simp; try with_reducible rfl)
            simp only [Act.put, List.getElem_toArray, List.getElem_cons_succ, List.getElem_cons_zero, List.setIfInBounds_toArray, List.set_cons_zero, List.set_cons_succ]
            refine TKB (i := 9) (v := ?vbrz) rfl ?ybrz ?rbrz
            case ybrz => (intro w hSw; (try dsimp only at hSw); go_simp; try with_reducible rfl)
            simp only [Act.put, List.getElem_toArray, List.getElem_cons_succ, List.getElem_cons_zero, List.setIfInBounds_toArray, List.set_cons_zero, List.set_cons_succ]
            refine TKB (i := 10) (v := ?vbsz) rfl ?ybsz ?rbsz
            case ybsz => (intro w hSw; (try dsimp only at hSw); go_simp; try with_reducible rfl)
            simp only [Act.put, List.getElem_toArray, List.getElem_cons_succ, List.getElem_cons_zero, List.setIfInBounds_toArray, List.set_cons_zero, List.set_cons_succ]
            refine TKB (i := 11) (v := ?vbtz) rfl ?ybtz ?rbtz
            case ybtz => (intro w hSw; (try dsimp only at hSw); go_simp; (try rw [if_pos ⟨i0, i1⟩]); try with_reducible rfl)
            simp only [Act.put, List.getElem_toArray, List.getElem_cons_succ, List.getElem_cons_zero, List.setIfInBounds_toArray, List.set_cons_zero, List.set_cons_succ]
            refine TKB (i := 12) (v := ?vbuz) rfl ?ybuz ?rbuz
            case ybuz => (intro w hSw; (try dsimp only at hSw); go_simp; try with_reducible rfl)
            simp only [Act.put, List.getElem_toArray, List.getElem_cons_succ, List.getElem_cons_zero, List.setIfInBounds_toArray, List.set_cons_zero, List.set_cons_succ]
            refine TKB (i := 13) (v := ?vbvz) rfl ?ybvz ?rbvz
            case ybvz => (intro w hSw; have q1 := hSw.out.cell (RX.out 1 _ rfl) (by simp); clear hSw; go_simp; try with_reducible rfl)
            simp only [Act.put, List.getElem_toArray, List.getElem_cons_succ, List.getElem_cons_zero, List.setIfInBounds_toArray, List.set_cons_zero, List.set_cons_succ]
            refine RD1 (i := 14) rfl (fun K' hK => ?_)
            go_simp
            go_at_call 57
            refine (HHal.out x.col _ (GR.out.trans (grown_drewT (grown_reflX _ _)))).mono ?_
            rintro e w5 ⟨⟨bb, rfl⟩, hg⟩
            have Z5 : Hid (wr.grownBy w5 none) := Lib.hid ((grown_drewT (grown_reflX _ _)).trans hg)
            clear hg
            refine hK.out _ _ Z5 (fun hHeld => ?_)
            clear hK K'
            simp only [List.setIfInBounds_toArray, List.set_cons_zero, List.set_cons_succ]
            refine TKB (i := 15) (v := ?vbwz) rfl ?ybwz ?rbwz
            case ybwz => (intro w hSw; (try dsimp only at hSw); go_simp; try with_reducible rfl)
            simp only [Act.put, List.getElem_toArray, List.getElem_cons_succ, List.getElem_cons_zero, List.setIfInBounds_toArray, List.set_cons_zero, List.set_cons_succ]
            refine TKB (i := 16) (v := ?vbxz) rfl ?ybxz ?rbxz
            case ybxz => (intro w hSw; (try dsimp only at hSw); go_simp; try with_reducible rfl)
            simp only [Act.put, List.getElem_toArray, List.getElem_cons_succ, List.getElem_cons_zero, List.setIfInBounds_toArray, List.set_cons_zero, List.set_cons_succ]
            refine wpAnyH_done (by kernel_rfl) ?_ _
            have G5 := Lib.hid (GR.out.trans Z5.out)
            have KG5 := Lib.hid (KG.out.trans Z5.out)
            have c2 := Z5.out.cell (RX.out 2 _ rfl) (by simp)
            cases bb with
            | false =>
             go_wp2_with fail
             go_ret2
             exact ⟨⟨_, _, rfl, fun h => (HNP.out h).elim, fun _ => HZ0.out⟩, G5.out⟩
            | true =>
             clear c2
             go_wp2_with fail
             go_roundw
             case rel => exact ⟨k + 1, by go_num, by omega, KG5⟩
             case measure => simp [intOf]; omega
           ·have kz : ((x.agg : Int) == 0) = false := by rw [beq_eq_false_iff_ne]; omega
            clear hz
            refine wp_region_held_drew (S := (fun W => Hid (wr.grownBy W none))) (by kernel_rfl) (Lib.hid (grown_drewT (grown_reflX _ _))) (fun hHeld => ?_)
            refine TKB (i := 0) (v := ?vbyz) rfl ?ybyz ?rbyz
            case ybyz => (intro w hSw; (try dsimp only at hSw); go_simp; try with_reducible rfl)
            simp only [Act.put, List.getElem_toArray, List.getElem_cons_zero, List.size_toArray, List.length_cons, List.length_nil, Nat.reduceAdd, Array.replicate, List.replicate, List.setIfInBounds_toArray, List.set_cons_zero, List.set_cons_succ]
            refine TKB (i := 1) (v := ?vbzz) rfl ?ybzz ?rbzz
            case ybzz => (intro w hSw; (try dsimp only at hSw); go_simp; try with_reducible rfl)
            simp only [Act.put, List.getElem_toArray, List.getElem_cons_succ, List.getElem_cons_zero, List.setIfInBounds_toArray, List.set_cons_zero, List.set_cons_succ]
            refine TKB (i := 2) (v := ?vb0z) rfl ?yb0z ?rb0z
            case yb0z => (intro w hSw; (try dsimp only at hSw); go_simp; (try rw [if_pos ⟨i0, i1⟩]); try with_reducible rfl)
            simp only [Act.put, List.getElem_toArray, List.getElem_cons_succ, List.getElem_cons_zero, List.setIfInBounds_toArray, List.set_cons_zero, List.set_cons_succ]
            refine TKB (i := 3) (v := ?vb1z) rfl ?yb1z ?rb1z
            case yb1z => (intro w hSw; (try dsimp only at hSw); go_simp; try with_reducible rfl)
            simp only [Act.put, List.getElem_toArray, List.getElem_cons_succ, List.getElem_cons_zero, List.setIfInBounds_toArray, List.set_cons_zero, List.set_cons_succ]
            refine TKB (i := 4) (v := ?vb2z) rfl ?yb2z ?rb2z
            case yb2z => (intro w hSw; have q0 := hSw.out.cell (RX.out 0 _ rfl) (by simp); simp only [Nat.add_zero] at q0; clear hSw; go_simp; try with_reducible rfl)
            simp only [Act.put, List.getElem_toArray, List.getElem_cons_succ, List.getElem_cons_zero, List.setIfInBounds_toArray, List.set_cons_zero, List.set_cons_succ]
            refine TKB (i := 5) (v := ?vb3z) rfl ?yb3z ?rb3z
            case yb3z => (intro w hSw; have kz3 := kz; clear hSw; go_simp; try with_reducible rfl)
            simp only [Act.put, List.getElem_toArray, List.getElem_cons_succ, List.getElem_cons_zero, List.setIfInBounds_toArray, List.set_cons_zero, List.set_cons_succ]
            refine TKB (i := 6) (v := ?vb4z) rfl ?yb4z ?rb4z
            case yb4z => (intro w hSw; (try dsimp only at hSw); go_simp; try with_reducible rfl)
            simp only [Act.put, List.getElem_toArray, List.getElem_cons_succ, List.getElem_cons_zero, List.setIfInBounds_toArray, List.set_cons_zero, List.set_cons_succ]
            refine TKU (i := 7) rfl ?_
            simp only [Act.put, List.getElem_toArray, List.getElem_cons_succ, List.getElem_cons_zero, List.setIfInBounds_toArray, List.set_cons_zero, List.set_cons_succ]
            refine TKU (i := 8) rfl ?_
            simp only [Act.put, List.getElem_toArray, List.getElem_cons_succ, List.getElem_cons_zero, List.setIfInBounds_toArray, List.set_cons_zero, List.set_cons_succ]
            refine TKU (i := 9) rfl ?_
            simp only [Act.put, List.getElem_toArray, List.getElem_cons_succ, List.getElem_cons_zero, List.setIfInBounds_toArray, List.set_cons_zero, List.set_cons_succ]
            refine TKU (i := 10) rfl ?_
            simp only [Act.put, List.getElem_toArray, List.getElem_cons_succ, List.getElem_cons_zero, List.setIfInBounds_toArray, List.set_cons_zero, List.set_cons_succ]
            refine TKU (i := 11) rfl ?_
            simp only [Act.put, List.getElem_toArray, List.getElem_cons_succ, List.getElem_cons_zero, List.setIfInBounds_toArray, List.set_cons_zero, List.set_cons_succ]
            refine TKU (i := 12) rfl ?_
            simp only [Act.put, List.getElem_toArray, List.getElem_cons_succ, List.getElem_cons_zero, List.setIfInBounds_toArray, List.set_cons_zero, List.set_cons_succ]
            refine TKU (i := 13) rfl ?_
            simp only [Act.put, List.getElem_toArray, List.getElem_cons_succ, List.getElem_cons_zero, List.setIfInBounds_toArray, List.set_cons_zero, List.set_cons_succ]
            refine TKU (i := 14) rfl ?_
            simp only [Act.put, List.getElem_toArray, List.getElem_cons_succ, List.getElem_cons_zero, List.setIfInBounds_toArray, List.set_cons_zero, List.set_cons_succ]
            refine TKU (i := 15) rfl ?_
            simp only [Act.put, List.getElem_toArray, List.getElem_cons_succ, List.getElem_cons_zero, List.setIfInBounds_toArray, List.set_cons_zero, List.set_cons_succ]
            refine TKB (i := 16) (v := ?vb5z) rfl ?yb5z ?rb5z
            case yb5z => (intro w hSw; (try dsimp only at hSw); go_simp; try with_reducible rfl)
            simp only [Act.put, List.getElem_toArray, List.getElem_cons_succ, List.getElem_cons_zero, List.setIfInBounds_toArray, List.set_cons_zero, List.set_cons_succ]
            refine wpAnyH_done (by kernel_rfl) ?_ _
            have KG5 := Lib.hid (grown_drewT KG.out)
            go_wp2_with fail
            go_roundw
            case rel => exact ⟨k + 1, by go_num, by omega, KG5⟩
            case measure => simp [intOf]; omega
          ·obtain rfl : NN = k := by omega
           go_wp2_with fail
           go_ret2
           exact ⟨⟨_, _, rfl, fun _ => rfl, fun _ => HZ0.out⟩, GR.out⟩
end Go.Proofs.Ytfambadamebjjaa
namespace Go.Proofs.Ytfambadamebjjaa
open Go.RowKit
set_option linter.unusedVariables false
set_option linter.unusedSimpArgs false
def starI (l : List Cl) : List Itm := l.map fun c => ⟨0, c.n, 0⟩
theorem starI_len (l : List Cl) : (starI l).length = l.length := List.length_map _
def Qm.upon (y : Qm) (l : List Cl) (a : Ptr) (c : Nat) : Qm := { y with ia := a, ic := c, items := starI l }
theorem qm_c0 (y : Qm) : y.c[0]? = some (.slice y.ia y.items.length y.ic) := rfl
theorem qm_c1 (y : Qm) : y.c[1]? = some (.bool y.all) := rfl
theorem qm_c2 (y : Qm) : y.c[2]? = some (.string y.table) := rfl
theorem qm_c16 (y : Qm) : y.c[16]? = some (.int .i64 0) := by
 obtain ⟨_, _, _, _, _, ⟨_, _, _, _, _, _, _, _, _, _, _, _⟩, _, _, _, _, _, _, _⟩ := y; rfl
def RCkIs (S : Nat → Prop) (lt : List Tb) (y : Qm) (w : World) (e : Ending) (w' : World) : Prop :=
 w.grownBy w' none ∧ ((∃ at' c : Int, c ≠ 0 ∧ (∀ i, i < lt.length → (∀ j, j < i → (lt.getD j default).n ≠ y.table) → (lt.getD i default).n = y.table → ¬ SmpQ (lt.getD i default).l y) ∧ e = .returned (.tuple #[.agg (Qm.z 0).c, .int .i64 at', .int .i64 c])) ∨
  ∃ i, i < lt.length ∧ (∀ j, j < i → (lt.getD j default).n ≠ y.table) ∧ (lt.getD i default).n = y.table ∧ predC (lt.getD i default).l y.cond.e = 0 ∧ ∃ y' : Qm, e = .returned (.tuple #[.agg y'.c, .int .i64 0, .int .i64 0]) ∧ ((y.all = false ∧ y' = y) ∨ ∃ a c, y.all = true ∧ y' = y.upon (lt.getD i default).l a c) ∧ QmS (fun j => S j ∨ w.heap.size ≤ j) w' y')
structure StarJ (y : Qm) (T : Nat) (tb : Array Value) (l : List Cl) (w wr : World) (k : Nat) (a : Ptr) (c : Nat) : Prop where
 g : w.grownBy wr none
 le : w.heap.size + 1 < T
 q : wr.heap[w.heap.size]? = some (.cells (y.upon (l.take k) a c).c 37 (0, 0))
 r : wr.heap[w.heap.size + 1]? = some (.cells (Qm.z 0).c 37 (0, 0))
 t : wr.heap[T]? = some (.cells tb 24 (0, 0))
 win : Win 3 wr a c k ((starI (l.take k)).flatMap Itm.c)
 far : ∀ j, bk a j → T < j
theorem StarJ.keep {y : Qm} {T : Nat} {tb : Array Value} {l : List Cl} {w wr : World} {k : Nat} {a : Ptr} {c : Nat} (h : StarJ y T tb l w wr k a c) {W : World} (hg : wr.grownBy W none) : StarJ y T tb l w W k a c :=
 ⟨h.g.trans hg, h.le, blkD hg h.q, blkD hg h.r, blkD hg h.t, h.win.keepG hg, h.far⟩
def StarM (y : Qm) (T : Nat) (tb : Array Value) (l : List Cl) (w : World) (k : Nat) (a : Ptr) (c : Nat) (W : World) : Prop := w.grownBy W none ∧ W.heap[w.heap.size]? = some (.cells (y.upon (l.take k) a c).c 37 (0, 0)) ∧ W.heap[w.heap.size + 1]? = some (.cells (Qm.z 0).c 37 (0, 0)) ∧ W.heap[T]? = some (.cells tb 24 (0, 0))
theorem StarJ.app {y : Qm} {T : Nat} {tb : Array Value} {l : List Cl} {w wr : World} {k : Nat} {a : Ptr} {c : Nat} (h : StarJ y T tb l w wr k a c) {wb W : World} (hg : wr.grownBy wb none) (o : Only (bk a) wb W) :
  StarM y T tb l w k a c W := by
 have hb : ∀ j o', j ≤ T → wr.heap[j]? = some o' → W.heap[j]? = some o' := fun j o' hj e => by
  have e2 := blkD hg e
  exact (o.block j (Array.getElem?_eq_some_iff.1 e2).1 (fun e3 => by have := h.far j e3; omega)).trans e2
 have := h.le
 exact ⟨grown_onlyN (h.g.trans hg) o (fun j hj => by have := h.far j hj; omega), hb _ _ (by omega) h.q, hb _ _ (by omega) h.r, hb _ _ (by omega) h.t⟩
def StS (w : World) (T : Nat) (tb : Array Value) (W : World) : Prop := w.grownBy W none ∧ W.cell? ⟨w.heap.size, 16, none⟩ = some (.int .i64 0) ∧ W.heap[T]? = some (.cells tb 24 (0, 0))
theorem StarJ.st {y : Qm} {T : Nat} {tb : Array Value} {l : List Cl} {w wr : World} {k : Nat} {a : Ptr} {c : Nat} (h : StarJ y T tb l w wr k a c) : StS w T tb wr := ⟨h.g, (cell_of_row _ _ 16 _ _ _ h.q).trans (qm_c16 _), h.t⟩
theorem StarM.st {y : Qm} {T : Nat} {tb : Array Value} {l : List Cl} {w W : World} {k : Nat} {a : Ptr} {c : Nat} (h : StarM y T tb l w k a c W) : StS w T tb W := ⟨h.1, (cell_of_row _ _ 16 _ _ _ h.2.1).trans (qm_c16 _), h.2.2.2⟩
theorem StS.set {w W : World} {T : Nat} {tb : Array Value} (h : StS w T tb W) (hT : w.heap.size + 1 < T) (v : Value) : StS w T tb (W.setCell ⟨w.heap.size, 0, none⟩ v) :=
 ⟨grown_setnewX h.1 (Nat.le_refl _) 0 v, (World.cell?_setCell_other _ _ _ _ (by simp)).trans h.2.1, (Below.heap_setCell _ _ _ _ (by dsimp only; omega)).trans h.2.2⟩
theorem StarJ.fin {y : Qm} {T : Nat} {tb : Array Value} {l : List Cl} {w wr : World} {k : Nat} {a : Ptr} {c : Nat} (h : StarJ y T tb l w wr k a c) {wb : World} (hg : wr.grownBy wb none) {a' : Ptr} (hb : ∀ j, bk a' j → bk a j ∨ wb.heap.size ≤ j) : ∀ j, bk a' j → T < j := fun j hj =>
 (hb j hj).elim (h.far j) (fun e => by have := hg.size; have := (Array.getElem?_eq_some_iff.1 h.t).1; omega)
theorem starI_succ {l : List Cl} {k : Nat} (hk : k < l.length) : starI (l.take (k + 1)) = starI (l.take k) ++ [⟨0, (l.getD k default).n, 0⟩] := by
 unfold starI
 rw [List.take_add_one, List.map_append, List.getD_eq_getElem?_getD, List.getElem?_eq_getElem hk]
 rfl
theorem StarM.put {y : Qm} {T : Nat} {tb : Array Value} {l : List Cl} {w W : World} {k : Nat} {a : Ptr} {c : Nat} (h : StarM y T tb l w k a c W) (le : w.heap.size + 1 < T) (hk : k < l.length) {a' : Ptr} {c' : Nat} (hw : Win 3 W a' c' (k + 1) ((starI (l.take k)).flatMap Itm.c ++ [.int .i64 0, .string (l.getD k default).n, .int .i64 0])) (hf : ∀ j, bk a' j → T < j) :
  StarJ y T tb l w (W.setCell ⟨w.heap.size, 0, none⟩ (.slice a' (k + 1) c')) (k + 1) a' c' := by
 have e1 : (starI (l.take (k + 1))).length = k + 1 := by rw [starI_len, List.length_take]; omega
 refine ⟨grown_setnewX h.1 (Nat.le_refl _) 0 _, le, ?_, (Below.heap_setCell _ _ _ _ (by simp)).trans h.2.2.1, (Below.heap_setCell _ _ _ _ (by dsimp only; omega)).trans h.2.2.2, ?_, hf⟩
 ·have := heap_setCell_same _ _ 0 _ _ (.slice a' (starI (l.take (k + 1))).length c') h.2.1
  rw [qm_items, e1] at this
  exact this
 ·rw [starI_succ hk, List.flatMap_append]
  exact hw.keep (Only.of_grown (grown_setX (grown_reflX W (some w.heap.size)) 0 _)) (fun q hq e => by cases e; have := hf _ hq; omega)
set_option maxRecDepth 100000 in
set_option maxHeartbeats 12800000 in
theorem refCheck_any (a : Option Addr) (cap : Nat) (lt : List Tb) (S : Nat → Prop) (y : Qm) (w : World) (hT : TabsAt w.heap.size w a lt) (hs : ∀ t ∈ lt, t.l.length ≤ 1000) (hS : QmS S w y) (li : y.items.length ≤ 1000) (lg : y.group.length ≤ 1000) (lo : y.order.length ≤ 1000) (hn : y.cond.n ≤ 100000) (hw1 : y.cond.e.w1) :
  Calls Try.prog 14 #[.agg y.c, .slice a lt.length cap] w (RCkIs S lt y w) := by
 have HF := Lib.hid (fun W (hW : w.grownBy W none) => refFind_any a cap lt y.table W ((hT.keep hW (by simp)).mono hW.size))
 have HW := Lib.hid (fun i (hi : i < lt.length) W (hW : w.grownBy W none) => (refWrongQ_any (lt.getD i default).n (lt.getD i default).a (lt.getD i default).cap (lt.getD i default).l (lt.getD i default).k S y W (hS.keep (.of hW)) li lg lo hn hw1 (((hT.keep hW (by simp)).mono hW.size).2.1 _ (by rw [List.getD, List.getElem?_eq_getElem hi]; exact List.getElem_mem _))))
 have HC := Lib.hid (fun i (hi : i < lt.length) => (hT.2.1 (lt.getD i default) (by rw [List.getD, List.getElem?_eq_getElem hi]; exact List.getElem_mem _)))
 have HL := Lib.hid (fun i (hi : i < lt.length) => hs (lt.getD i default) (by rw [List.getD, List.getElem?_eq_getElem hi]; exact List.getElem_mem _))
 have HS := Lib.hid hS
 have C1 := Lib.hid (qm_c1 y)
 have C2 := Lib.hid (qm_c2 y)
 obtain ⟨al, hal⟩ : ∃ al, al = y.all := ⟨_, rfl⟩
 obtain ⟨ta1, hta⟩ : ∃ ta1, ta1 = y.table := ⟨_, rfl⟩
 rw [← hal] at C1
 rw [← hta] at C2 HF
 have HAL := Lib.hid hal
 have HTA := Lib.hid hta
 have hcs := y.c_size
 have hca := y.c_all
 obtain ⟨cq, hcq⟩ : ∃ cq, cq = y.c := ⟨_, rfl⟩
 rw [← hcq] at hcs hca C1 C2 HW ⊢
 have HCQ := Lib.hid hcq
 clear hcq hal hta hT hs hS li lg lo hn hw1
 have G0 := Lib.hid (World.grownBy_alloc w (.cells cq 37) none)
 have B0 := heap_alloc_new w (.cells cq 37)
 have G1 := Lib.hid (World.grownBy_alloc (w.alloc (.cells cq 37)) (.cells (Qm.z 0).c 37) none)
 have R1 := heap_alloc_new (w.alloc (.cells cq 37)) (.cells (Qm.z 0).c 37)
 rw [show (w.alloc (.cells cq 37)).heap.size = w.heap.size + 1 by simp] at R1
 obtain ⟨W1, hW1⟩ : ∃ W1, W1 = (w.alloc (.cells cq 37)).alloc (.cells (Qm.z 0).c 37) := ⟨_, rfl⟩
 have GW : Hid (w.grownBy W1 none) := Lib.hid (by rw [hW1]; exact G0.out.trans G1.out)
 have BW : Hid (W1.heap[w.heap.size]? = some (.cells cq 37 (0, 0))) := Lib.hid (by rw [hW1]; exact blk_grown G1.out B0)
 have RW : Hid (W1.heap[w.heap.size + 1]? = some (.cells (Qm.z 0).c 37 (0, 0))) := Lib.hid (by rw [hW1]; exact R1)
 have d2 := (cell_of_row _ _ 2 _ _ _ BW.out).trans C2.out
 clear B0 R1 G0 G1
 go_enter Try.func14, Try.ntmps14
 go_upto_region 1 with fail
 change Code.wp _ _ _ _ ((w.alloc (.cells cq 37)).alloc (.cells (Qm.z 0).c 37))
 rw [← hW1]
 clear hW1
 go_wp2_with fail
 refine (HF.out _ GW.out).mono ?_
 rintro e w2 ⟨hr, hg⟩
 have G2 := Lib.hid (GW.out.trans hg)
 have B2 := Lib.hid (blk_grown hg BW.out)
 have R2 := Lib.hid (blk_grown hg RW.out)
 clear hg d2 HF GW BW RW
 rcases hr with ⟨hN, rfl⟩ | ⟨i, hi, hN, hF, rfl⟩
 ·have G3 := Lib.hid (gq_al G2.out (.cells #[.string ⟨#[]⟩, .slice none 0 0, .int .i64 0] 24))
  have R3 := Lib.hid (blk_grown (World.grownBy_alloc w2 (.cells #[.string ⟨#[]⟩, .slice none 0 0, .int .i64 0] 24) none) R2.out)
  have HN : Hid (RCkIs S lt y w (.returned (.tuple #[.agg (Qm.z 0).c, .int .i64 0, .int .i64 14])) ((w2.alloc (.cells #[.string ⟨#[]⟩, .slice none 0 0, .int .i64 0] 24)).setRow (w.heap.size + 1) (Qm.z 0).c)) := Lib.hid ⟨grown_thenX G3.out (grown_setRow _ _ _) (fun j e => by cases e; omega), .inl ⟨0, 14, by decide, fun i hi _ he => absurd (he.trans HTA.out.symm) (hN i hi), rfl⟩⟩
  clear hN
  go_wp2_with (refine wpList_store_row rfl 37 (.tmp 4) (.tmp 21) rfl (w.heap.size + 1) (Qm.z 0).c (by rfl) (by rfl) 37 (Qm.z 0).c R3.out (by rw [Qm.c_size]; exact query_size) (by rfl) (Qm.c_all _) ?_)
  have hB := setRow_heap _ (w.heap.size + 1) (Qm.z 0).c (Qm.z 0).c _ _ R3.out
  exact bodyPost_ret (results_qm3 (p := 4) (u := 5) (v := 6) rfl _ _ (w.heap.size + 1) (Qm.z 0) rfl hB) rfl HN.out
 ·have HWi := Lib.hid (HW.out i hi)
  have HCi := Lib.hid (HC.out i hi)
  have HLi := HL.out i hi
  have HNe : Hid (∀ j, j < lt.length → (∀ q, q < j → (lt.getD q default).n ≠ y.table) → (lt.getD j default).n = y.table → j = i) := Lib.hid (fun j hj h1 h2 => by
   rw [← HTA.out] at h1 h2
   rcases Nat.lt_trichotomy j i with h | h | h
   ·exact absurd h2 (hF j h)
   ·exact h
   ·exact absurd hN (h1 i h))
  have HFi := Lib.hid (And.intro hi (And.intro hF hN))
  obtain ⟨t, ht⟩ : ∃ t, t = lt.getD i default := ⟨_, rfl⟩
  have HTi := Lib.hid ht
  simp only [← ht] at HWi HCi HLi ⊢
  clear HW HC HL hN hF ht
  obtain ⟨tn, ta, tc, tl, tk⟩ := t
  dsimp only at HWi HCi HLi
  have HLi2 := Lib.hid HLi
  obtain ⟨m, hm⟩ : ∃ m, m = tl.length := ⟨_, rfl⟩
  have Hm := Lib.hid hm
  rw [← hm] at HLi HWi
  dsimp only
  rw [← hm]
  clear hm
  have gt := World.grownBy_alloc w2 (.cells #[.string tn, .slice ta m tc, .int .i64 tk] 24) none
  have G3 := Lib.hid (G2.out.trans gt)
  have B3 := Lib.hid (blk_grown gt B2.out)
  have R3 := Lib.hid (blk_grown gt R2.out)
  have T3 := Lib.hid (heap_alloc_new w2 (.cells #[.string tn, .slice ta m tc, .int .i64 tk] 24))
  obtain ⟨⟨t0, t1, t2⟩, _, _, _⟩ := boxD3 T3.out
  have hlt : w.heap.size + 1 < w2.heap.size := (Array.getElem?_eq_some_iff.1 R2.out).1
  clear gt
  go_wp2_with (refine wpList_load_row rfl 37 (.tmp 2) rfl w.heap.size rfl 37 cq (0, 0) _ B3.out Try.underlying37 rfl (by rw [hcs]; exact query_size) ?_)
  refine (HWi.out _ G3.out).mono ?_
  rintro e w4 ⟨⟨at', c, rfl, hP, hZ⟩, hg⟩
  have G4 := Lib.hid (G3.out.trans hg)
  have B4 := Lib.hid (blk_grown hg B3.out)
  have R4 := Lib.hid (blk_grown hg R3.out)
  have T4 := Lib.hid (blk_grown hg T3.out)
  clear hg t0 t1 t2 B2 B3 R2 R3 T3 G2 G3
  by_cases hc : c = 0
  ·have kz : (c != 0) = false := by rw [hc]; rfl
   have HZi : Hid (predC (lt.getD i default).l y.cond.e = 0) := Lib.hid (by rw [← HTi.out]; exact hZ hc)
   clear hP hZ HWi
   have d1 := (cell_of_row _ _ 1 _ _ _ B4.out).trans C1.out
   cases al with
   | false =>
    have HFN : Hid (∀ W, w.grownBy W none → RCkIs S lt y w (.returned (.tuple #[.agg cq, .int .i64 0, .int .i64 0])) W) := Lib.hid (fun W hW => by
     rw [HCQ.out]
     exact ⟨hW, .inr ⟨i, HFi.out.1, fun j hj => by rw [← HTA.out]; exact HFi.out.2.1 j hj, HFi.out.2.2.trans HTA.out, HZi.out, y, rfl, .inl ⟨HAL.out.symm, rfl⟩, (HS.out.keep (.of hW)).mono (fun b _ hb => .inl hb)⟩⟩)
    clear hc
    go_wp2_with (first
     | (refine wpList_load_row rfl 37 (.tmp 2) rfl w.heap.size rfl 37 cq (0, 0) _ B4.out Try.underlying37 rfl (by rw [hcs]; exact query_size) ?_)
     | (refine wpList_store_row rfl 37 (.tmp 4) (.tmp 57) rfl (w.heap.size + 1) cq (by rfl) (by rfl) 37 (Qm.z 0).c R4.out (by first | (rw [Qm.c_size]; exact query_size) | (rw [hcs]; exact query_size)) (by first | rw [hcs, Qm.c_size] | rw [Qm.c_size, hcs]) hca ?_))
    have hB := setRow_heap w4 (w.heap.size + 1) (Qm.z 0).c cq _ _ R4.out
    have hfin := HFN.out (w4.setRow (w.heap.size + 1) cq) (grown_thenX G4.out (grown_setRow _ _ _) (fun j e => by cases e; omega))
    have ecq := HCQ.out
    subst ecq
    exact bodyPost_ret (v := .tuple #[.agg y.c, .int .i64 0, .int .i64 0]) (results_qm3 (p := 4) (u := 5) (v := 6) rfl _ _ (w.heap.size + 1) y rfl hB) rfl hfin
   | true =>
    have d0 := (cell_of_row _ _ 0 _ _ _ B4.out)
    have f0 := frozen_of_row _ _ 0 _ _ B4.out
    rw [HCQ.out, qm_c0] at d0
    have HJ : Hid (StarJ y w2.heap.size #[.string tn, .slice ta m tc, .int .i64 tk] tl w (w4.setCell ⟨w.heap.size, 0, none⟩ (.slice none 0 0)) 0 none 0) := Lib.hid ⟨grown_setnewX G4.out (Nat.le_refl _) 0 _, hlt, by
      have := heap_setCell_same _ _ 0 _ _ (.slice none 0 0) B4.out
      rw [HCQ.out, show (Value.slice none 0 0) = .slice none ([] : List Itm).length 0 from rfl, qm_items] at this
      exact this, (Below.heap_setCell _ _ _ _ (by simp)).trans R4.out, (Below.heap_setCell _ _ _ _ (by dsimp only; omega)).trans T4.out, Win.nil 3 _, fun j hj => by simp [bk] at hj⟩
    clear hc
    have HQ : Hid (∀ W a c, w.grownBy W none → Win 3 W a c m ((starI tl).flatMap Itm.c) → (∀ j, bk a j → w.heap.size ≤ j) → RCkIs S lt y w (.returned (.tuple #[.agg (y.upon tl a c).c, .int .i64 0, .int .i64 0])) W) := Lib.hid (fun W a c hW hw hf => ⟨hW, .inr ⟨i, HFi.out.1, fun j hj => by rw [← HTA.out]; exact HFi.out.2.1 j hj, HFi.out.2.2.trans HTA.out, HZi.out, y.upon tl a c, rfl, .inr ⟨a, c, HAL.out.symm, by rw [← HTi.out]⟩, by
     have k2 := (HS.out.keep (.of hW)).mono (S' := fun j => S j ∨ w.heap.size ≤ j) (fun b _ hb => .inl hb)
     exact ⟨⟨win_cells hw (fun j hj => .inr (hf j hj)), by rw [show (y.upon tl a c).items.length = m from (starI_len tl).trans Hm.out.symm]; exact hw.le⟩, k2.2⟩⟩⟩)
    clear HFi HNe HS HZi
    go_upto_region 9 with fail
    generalize w4.setCell ⟨w.heap.size, 0, none⟩ (.slice none 0 0) = w5 at *
    clear d0 f0 d1 G4 B4 R4 T4
    obtain ⟨⟨t0, t1, t2⟩, _, _, _⟩ := boxD3 HJ.out.t
    go_wp2_with fail
    clear t0 t1 t2
    go_loopw [39] (fun s wr => ∃ (k : Nat) (a : Ptr) (c : Nat), s = .int .i64 k ∧ k ≤ m ∧ Hid (StarJ y w2.heap.size #[.string tn, .slice ta m tc, .int .i64 tk] tl w wr k a c)) (fun s _ => m - (intOf s).toNat)
    case atStart => exact ⟨0, none, 0, rfl, Nat.zero_le _, HJ⟩
    case round =>
     obtain ⟨k, a, c, rfl, hk, JR⟩ := hrel
     clear HJ
     by_cases hkm : k < m
     ·have hkl : k < tl.length := by rw [← Hm.out]; exact hkm
      have Hkl := Lib.hid hkl
      obtain ⟨b, off, rfl, hb, c0, _, _⟩ := HCi.out.at (i := k) hkl
      obtain ⟨x, hx⟩ : ∃ x, x = (tl.getD k default).n := ⟨_, rfl⟩
      rw [← hx] at c0
      have HX := Lib.hid hx
      have d0 := (cell_of_row _ _ 0 _ _ _ JR.out.q).trans (qm_c0 _)
      rw [show (y.upon (tl.take k) a c).items.length = k from (starI_len _).trans (by rw [List.length_take]; omega)] at d0
      obtain ⟨⟨t0, t1, t2⟩, _, _, _⟩ := boxD3 JR.out.t
      have i0 : (0 : Int) ≤ k := by omega
      have i1 : (k : Int) < m := by omega
      clear hkl hx HTi Hm HCi
      change (_ = some (Value.slice a _ c)) at d0
      go_upto_region 12 with fail
      clear t0 t1 t2
      refine wp_region_held_drew (S := (fun W => Hid (StS w w2.heap.size #[.string tn, .slice (some ⟨b, off, none⟩) m tc, .int .i64 tk] W))) (by kernel_rfl) (Lib.hid (JR.out.keep (grown_drewT (grown_reflX wr none))).st) (fun hHeld => ?_)
      refine TKB (i := 0) (v := ?vaz) rfl ?yaz ?raz
      case yaz => (intro w hSw; (try dsimp only at hSw); go_simp; try with_reducible rfl)
      simp only [Act.put, List.getElem_toArray, List.getElem_cons_zero, List.size_toArray, List.length_cons, List.length_nil, Nat.reduceAdd, Array.replicate, List.replicate, List.setIfInBounds_toArray, List.set_cons_zero, List.set_cons_succ]
      refine TKB (i := 2) (v := ?vbz) rfl ?ybz ?rbz
      case ybz => (intro w hSw; (try dsimp only at hSw); go_simp; try with_reducible rfl)
      simp only [Act.put, List.getElem_toArray, List.getElem_cons_succ, List.getElem_cons_zero, List.setIfInBounds_toArray, List.set_cons_zero, List.set_cons_succ]
      refine TKB (i := 3) (v := ?vcz) rfl ?ycz ?rcz
      case ycz => (intro w hSw; obtain ⟨⟨q0, q1, q2⟩, _, _, _⟩ := boxD3 hSw.out.2.2; clear hSw; go_simp; try with_reducible rfl)
      simp only [Act.put, List.getElem_toArray, List.getElem_cons_succ, List.getElem_cons_zero, List.setIfInBounds_toArray, List.set_cons_zero, List.set_cons_succ]
      refine TKB (i := 4) (v := ?vdz) rfl ?ydz ?rdz
      case ydz => (intro w hSw; (try dsimp only at hSw); go_simp; try with_reducible rfl)
      simp only [Act.put, List.getElem_toArray, List.getElem_cons_succ, List.getElem_cons_zero, List.setIfInBounds_toArray, List.set_cons_zero, List.set_cons_succ]
      refine TKB (i := 5) (v := ?vez) rfl ?yez ?rez
      case yez => (intro w hSw; have q := i1; clear hSw; go_simp; (try rw [if_pos ⟨i0, i1⟩]); try with_reducible rfl)
      simp only [Act.put, List.getElem_toArray, List.getElem_cons_succ, List.getElem_cons_zero, List.setIfInBounds_toArray, List.set_cons_zero, List.set_cons_succ]
      refine TKB (i := 6) (v := ?vfz) rfl ?yfz ?rfz
      case yfz => (intro w hSw; (try dsimp only at hSw); go_simp; try with_reducible rfl)
      simp only [Act.put, List.getElem_toArray, List.getElem_cons_succ, List.getElem_cons_zero, List.setIfInBounds_toArray, List.set_cons_zero, List.set_cons_succ]
      refine TKB (i := 7) (v := ?vgz) rfl ?ygz ?rgz
      case ygz => (intro w hSw; have q := hSw.out.1.cell c0 (by simp); clear hSw; go_simp; try with_reducible rfl)
      simp only [Act.put, List.getElem_toArray, List.getElem_cons_succ, List.getElem_cons_zero, List.setIfInBounds_toArray, List.set_cons_zero, List.set_cons_succ]
      refine TKB (i := 8) (v := ?vhz) rfl ?yhz ?rhz
      case yhz => (intro w hSw; (try dsimp only at hSw); go_simp; try with_reducible rfl)
      simp only [Act.put, List.getElem_toArray, List.getElem_cons_succ, List.getElem_cons_zero, List.setIfInBounds_toArray, List.set_cons_zero, List.set_cons_succ]
      refine TKB (i := 9) (v := ?viz) rfl ?yiz ?riz
      case yiz => (intro w hSw; have q := hSw.out.2.1; clear hSw; go_simp; try with_reducible rfl)
      simp only [Act.put, List.getElem_toArray, List.getElem_cons_succ, List.getElem_cons_zero, List.setIfInBounds_toArray, List.set_cons_zero, List.set_cons_succ]
      refine TKB (i := 10) (v := ?vjz) rfl ?yjz ?rjz
      case yjz => (intro w hSw; (try dsimp only at hSw); go_simp; try with_reducible rfl)
      simp only [Act.put, List.getElem_toArray, List.getElem_cons_succ, List.getElem_cons_zero, List.setIfInBounds_toArray, List.set_cons_zero, List.set_cons_succ]
      refine wpAnyH_ready (rs := [1, 11]) (by kernel_rfl) (by simp) ?_
      refine (AllReadyH.cons rfl (fun K' hK => ?_) (AllReadyH.cons rfl (fun K' hK => ?_) AllReadyH.nil))
      ·skip
       have d0d : wr.drew.cell? ⟨w.heap.size, 0, none⟩ = some (.slice a k c) := d0
       go_simp
       refine hK.out _ _ (Lib.hid (JR.out.keep (grown_drewT (grown_reflX wr none))).st) (fun hHeld => ?_)
       clear hK K'
       simp only [List.setIfInBounds_toArray, List.set_cons_zero, List.set_cons_succ]
       refine RD1 (i := 11) rfl (fun K' hK => ?_)
       go_simp
       obtain ⟨wb, hwb⟩ : ∃ wb, wb = (wr.alloc (.cells #[.int .i64 0, .string x, .int .i64 0] 106)).drew := ⟨_, rfl⟩
       have ZB : Hid (wr.grownBy wb none) := Lib.hid (by rw [hwb]; exact grown_drewT (World.grownBy_alloc _ _ none))
       have NB : Hid (wb.heap[wr.heap.size]? = some (.cells #[.int .i64 0, .string x, .int .i64 0] 106 (0, 0))) := Lib.hid (by rw [hwb]; exact heap_alloc_new wr _)
       first | rw [← hwb] | (change _ _ ((wr.alloc (.cells #[.int .i64 0, .string x, .int .i64 0] 106)).drew); rw [← hwb])
       clear hwb
       refine hK.out _ _ (Lib.hid (JR.out.keep ZB.out).st) (fun hHeld => ?_)
       clear hK K'
       simp only [List.setIfInBounds_toArray, List.set_cons_zero, List.set_cons_succ]
       refine RD1 (i := 12) rfl (fun K' hK => ?_)
       refine wp_append_winA (.tmp 43) (.tmp 53) itm_el (by rfl) (JR.out.win.keepG ZB.out) (by rfl) (some ⟨wr.heap.size, 0, none⟩) 1 1 (by rfl) [.int .i64 0, .string x, .int .i64 0] (fun e => by cases e) rfl (by omega) (fun ad e => by cases e; exact World.news_of_block NB.out) (by simp [Value.oneCell']) ?_
       intro a5 c5 w5 z5 o5 b5 _
       have W5 := Lib.hid z5
       have J5 := Lib.hid (JR.out.app ZB.out o5)
       have q0 := cell_of_row _ _ 0 _ _ _ J5.out.2.1
       rw [qm_c0] at q0
       have f0 := frozen_of_row _ _ 0 _ _ J5.out.2.1
       have FA := Lib.hid (JR.out.fin ZB.out b5)
       clear z5 o5 b5
       refine hK.out _ _ (Lib.hid J5.out.st) (fun hHeld => ?_)
       clear hK K'
       simp only [Act.put, List.getElem_toArray, List.getElem_cons_succ, List.getElem_cons_zero, List.setIfInBounds_toArray, List.set_cons_zero, List.set_cons_succ]
       refine TKB (i := 13) (v := ?vkz) rfl ?ykz ?rkz
       case ykz => (intro w hSw; (try dsimp only at hSw); go_simp; try with_reducible rfl)
       simp only [Act.put, List.getElem_toArray, List.getElem_cons_succ, List.getElem_cons_zero, List.setIfInBounds_toArray, List.set_cons_zero, List.set_cons_succ]
       refine RD1 (i := 14) rfl (fun K' hK => ?_)
       go_simp
       skip
       refine hK.out _ _ (Lib.hid (J5.out.st.set JR.out.le _)) (fun hHeld => ?_)
       clear hK K'
       simp only [List.setIfInBounds_toArray, List.set_cons_zero, List.set_cons_succ]
       refine wpAnyH_done (by kernel_rfl) ?_ _
       clear d0d
       have HJ2 := Lib.hid (J5.out.put JR.out.le Hkl.out (by rw [← HX.out]; exact W5.out) FA.out)
       clear J5 JR W5 c0 d0 q0 f0
       go_wp2_with fail
       go_roundw
       case rel => exact ⟨k + 1, a5, c5, by go_num, by omega, HJ2⟩
       case measure => simp [intOf]; omega
      ·go_simp
       obtain ⟨wb, hwb⟩ : ∃ wb, wb = (wr.alloc (.cells #[.int .i64 0, .string x, .int .i64 0] 106)).drew := ⟨_, rfl⟩
       have ZB : Hid (wr.grownBy wb none) := Lib.hid (by rw [hwb]; exact grown_drewT (World.grownBy_alloc _ _ none))
       have NB : Hid (wb.heap[wr.heap.size]? = some (.cells #[.int .i64 0, .string x, .int .i64 0] 106 (0, 0))) := Lib.hid (by rw [hwb]; exact heap_alloc_new wr _)
       first | rw [← hwb] | (change _ _ ((wr.alloc (.cells #[.int .i64 0, .string x, .int .i64 0] 106)).drew); rw [← hwb])
       clear hwb
       refine hK.out _ _ (Lib.hid (JR.out.keep ZB.out).st) (fun hHeld => ?_)
       clear hK K'
       simp only [List.setIfInBounds_toArray, List.set_cons_zero, List.set_cons_succ]
       refine RD1 (i := 1) rfl (fun K' hK => ?_)
       have d0d := ZB.out.cell d0 (by simp)
       go_simp
       refine hK.out _ _ (Lib.hid (JR.out.keep ZB.out).st) (fun hHeld => ?_)
       clear hK K'
       simp only [List.setIfInBounds_toArray, List.set_cons_zero, List.set_cons_succ]
       refine RD1 (i := 12) rfl (fun K' hK => ?_)
       refine wp_append_winA (.tmp 43) (.tmp 53) itm_el (by rfl) (JR.out.win.keepG ZB.out) (by rfl) (some ⟨wr.heap.size, 0, none⟩) 1 1 (by rfl) [.int .i64 0, .string x, .int .i64 0] (fun e => by cases e) rfl (by omega) (fun ad e => by cases e; exact World.news_of_block NB.out) (by simp [Value.oneCell']) ?_
       intro a5 c5 w5 z5 o5 b5 _
       have W5 := Lib.hid z5
       have J5 := Lib.hid (JR.out.app ZB.out o5)
       have q0 := cell_of_row _ _ 0 _ _ _ J5.out.2.1
       rw [qm_c0] at q0
       have f0 := frozen_of_row _ _ 0 _ _ J5.out.2.1
       have FA := Lib.hid (JR.out.fin ZB.out b5)
       clear z5 o5 b5
       refine hK.out _ _ (Lib.hid J5.out.st) (fun hHeld => ?_)
       clear hK K'
       simp only [Act.put, List.getElem_toArray, List.getElem_cons_succ, List.getElem_cons_zero, List.setIfInBounds_toArray, List.set_cons_zero, List.set_cons_succ]
       refine TKB (i := 13) (v := ?vlz) rfl ?ylz ?rlz
       case ylz => (intro w hSw; (try dsimp only at hSw); go_simp; try with_reducible rfl)
       simp only [Act.put, List.getElem_toArray, List.getElem_cons_succ, List.getElem_cons_zero, List.setIfInBounds_toArray, List.set_cons_zero, List.set_cons_succ]
       refine RD1 (i := 14) rfl (fun K' hK => ?_)
       go_simp
       skip
       refine hK.out _ _ (Lib.hid (J5.out.st.set JR.out.le _)) (fun hHeld => ?_)
       clear hK K'
       simp only [List.setIfInBounds_toArray, List.set_cons_zero, List.set_cons_succ]
       refine wpAnyH_done (by kernel_rfl) ?_ _
       clear d0d
       have HJ2 := Lib.hid (J5.out.put JR.out.le Hkl.out (by rw [← HX.out]; exact W5.out) FA.out)
       clear J5 JR W5 c0 d0 q0 f0
       go_wp2_with fail
       go_roundw
       case rel => exact ⟨k + 1, a5, c5, by go_num, by omega, HJ2⟩
       case measure => simp [intOf]; omega
     ·obtain rfl : m = k := by omega
      have et : tl.take m = tl := by rw [Hm.out]; exact List.take_length
      have jq := JR.out.q
      have jw := JR.out.win
      rw [et] at jq jw
      have JQ := Lib.hid jq
      have JW := Lib.hid jw
      have hB := setRow_heap wr (w.heap.size + 1) (Qm.z 0).c (y.upon tl a c).c _ _ JR.out.r
      have gs := grown_setRow wr (w.heap.size + 1) (y.upon tl a c).c
      have HB := Lib.hid hB
      have HX := Lib.hid (HQ.out (wr.setRow (w.heap.size + 1) (y.upon tl a c).c) a c (grown_thenX JR.out.g gs (fun j e => by cases e; omega)) (JW.out.keep (Only.of_grown gs) (fun q hq e => by cases e; have := JR.out.far _ hq; have := JR.out.le; omega)) (fun j hj => by have := JR.out.far _ hj; have := JR.out.le; omega))
      clear hB gs jq jw HQ et HTi Hm HCi
      obtain ⟨⟨t0, t1, t2⟩, _, _, _⟩ := boxD3 JR.out.t
      go_wp2_with (first
       | (refine wpList_load_row rfl 37 (.tmp 2) rfl w.heap.size rfl 37 (y.upon tl a c).c (0, 0) _ JQ.out Try.underlying37 rfl (by rw [Qm.c_size]; exact query_size) ?_)
       | (refine wpList_store_row rfl 37 (.tmp 4) (.tmp 57) rfl (w.heap.size + 1) (y.upon tl a c).c (by rfl) (by rfl) 37 (Qm.z 0).c JR.out.r (by rw [Qm.c_size]; exact query_size) (by rw [Qm.c_size, Qm.c_size]) (Qm.c_all _) ?_))
      exact bodyPost_ret (v := .tuple #[.agg (y.upon tl a c).c, .int .i64 0, .int .i64 0]) (results_qm3 (p := 4) (u := 5) (v := 6) rfl _ _ (w.heap.size + 1) (y.upon tl a c) rfl HB.out) rfl HX.out
  ·have kz : (c != 0) = true := by rw [bne_iff_ne]; exact hc
   have HN : Hid (RCkIs S lt y w (.returned (.tuple #[.agg (Qm.z 0).c, .int .i64 at', .int .i64 c])) (w4.setRow (w.heap.size + 1) (Qm.z 0).c)) := Lib.hid ⟨grown_thenX G4.out (grown_setRow _ _ _) (fun j e => by cases e; omega), .inl ⟨at', c, hc, fun j hj h1 h2 hsm => by
    obtain rfl := HNe.out j hj h1 h2
    rw [← HTi.out] at hsm
    exact hc (hP hsm), rfl⟩⟩
   clear hc hP hZ HWi
   go_wp2_with (refine wpList_store_row rfl 37 (.tmp 4) (.tmp 30) rfl (w.heap.size + 1) (Qm.z 0).c (by rfl) (by rfl) 37 (Qm.z 0).c R4.out (by rw [Qm.c_size]; exact query_size) (by rfl) (Qm.c_all _) ?_)
   have hB := setRow_heap w4 (w.heap.size + 1) (Qm.z 0).c (Qm.z 0).c _ _ R4.out
   exact bodyPost_ret (results_qm3 (p := 4) (u := 5) (v := 6) rfl _ _ (w.heap.size + 1) (Qm.z 0) rfl hB) rfl HN.out
end Go.Proofs.Ytfambadamebjjaa
