/- What is wrong with a predicate, but for its Kids; with a predicate and all that stand in it. where: what is wrong with the first predicate that is. among, group, Grouped, grouping. -/
import Derived.Test.YtjaclmoobfeikaaGreatDoorZl38
import Derived.Test.YtjaclmoobfeikaaGreatDoorZl37
import Derived.Test.YtjaclmoobfeikaaGreatDoorZl34
namespace Go.Proofs.YtjaclmoobfeikaaGreatDoor
open Go.RowKit

theorem litKs_app (l : List Vl) (v : Vl) : litKs (l ++ [v]) = if v.k = 0 then litKs l else litKs l ++ [v.k] := by
  unfold litKs
  rw [List.map_append, List.filter_append]
  by_cases h : v.k = 0
  · rw [if_pos h]; simp [h]
  · rw [if_neg h]; simp [h]
theorem Prd.nms_len : ∀ x : Prd, x.nms.length ≤ 2
  | .mk k c r v o l ks p => by
    show (if k = 3 ∨ k = 5 ∨ k = 6 ∨ k = 7 then [c] else if k = 4 then [c, o] else []).length ≤ 2
    split
    · simp
    · split <;> simp
theorem snocT {α : Type} [Inhabited α] (l : List α) (k : Nat) (h : k < l.length) : l.take (k + 1) = l.take k ++ [l.getD k default] := by
  rw [List.take_add_one, List.getD_eq_getElem?_getD, List.getElem?_eq_getElem h]; rfl
theorem kindsN_mem (cs : List Cl) (c : ByteArray) (hc : colK cs c = none) : ∀ l : List ByteArray, c ∈ l → kindsN cs l = none
  | a :: r, h => by
    rw [kindsN]
    rcases List.mem_cons.1 h with rfl | h
    · rw [hc]
    · rw [kindsN_mem cs c hc r h]
      cases colK cs a <;> rfl
theorem getD_memT {α : Type} [Inhabited α] (l : List α) (k : Nat) (h : k < l.length) : l.getD k default ∈ l := by
  rw [List.getD_eq_getElem?_getD, List.getElem?_eq_getElem h]; exact List.getElem_mem h
theorem kiV_app (l m : List Int) : kiV (l ++ m) = kiV l ++ kiV m := List.map_append
set_option maxRecDepth 100000 in
set_option maxHeartbeats 6400000 in
theorem alone_any (G : Nat) (f : Nat → Addr) (N : ByteArray) (K : Int) (a : Option Addr) (cap : Nat) (cs : List Cl) (x : Pm) (w : World) (h : ColsAt w.heap.size w a cs) (hx : PmS (fun j => j < w.heap.size) w x) (hf : x.e.few) (hE : CkEnv G f w) :
    Calls Tryz.prog 106 #[.agg #[.string N, .slice a cs.length cap, .int .i64 K], x.v] w fun e w' => e = .returned (ckE f (aloneE cs x.e)) ∧ w.grownBy w' none := by
  have HC := Lib.hid (fun M W (hW : w.grownBy W none) => columnKind_any G f N K a cap cs M W ((h.keep hW (by simp)).mono hW.size) (hE.keep hW))
  have HM := Lib.hid (fun W (hW : w.grownBy W none) => names_any x W)
  have HL := Lib.hid (fun W (hW : w.grownBy W none) => literals_any (fun j => j < w.heap.size) x W (hx.keep (.of hW)) hf)
  have HK := Lib.hid compactK_any
  have HE := Lib.hid hE
  have hnl := x.e.nms_len
  have hll := x.e.lits_len hf
  obtain ⟨R, hR⟩ : ∃ R, R = aloneE cs x.e := ⟨_, rfl⟩
  rw [← hR]
  have HR : Hid (R = match kindsN cs x.e.nms with
    | none => 15
    | some ks => if clashB (ks ++ litKs x.e.lits) = true then 16 else 0) := Lib.hid hR
  generalize x.e.nms = nms at *
  generalize x.e.lits = lits at *
  obtain ⟨m, hm⟩ : ∃ m, m = cs.length := ⟨_, rfl⟩
  rw [← hm] at HC ⊢
  obtain ⟨q, hq⟩ : ∃ q, q = nms.length := ⟨_, rfl⟩
  have Hq := Lib.hid hq
  obtain ⟨p, hp⟩ : ∃ p, p = lits.length := ⟨_, rfl⟩
  have Hp := Lib.hid hp
  rw [← hq] at HM hnl
  rw [← hp] at HL hll
  have hX1 := x.c_size
  have hX2 := x.c_all
  unfold Pm.v at HM HL ⊢
  obtain ⟨cx, hcx⟩ : ∃ cx, cx = x.c.toArray := ⟨_, rfl⟩
  rw [← hcx] at hX1 hX2 HM HL ⊢
  have G0 := Lib.hid (World.grownBy_alloc w (.cells #[.string N, .slice a m cap, .int .i64 K] 44) none)
  have B0 := Lib.hid (heap_alloc_new w (.cells #[.string N, .slice a m cap, .int .i64 K] 44))
  have G1 := Lib.hid (World.grownBy_alloc (w.alloc (.cells #[.string N, .slice a m cap, .int .i64 K] 44)) (.cells cx 33) none)
  have B1 := heap_alloc_new (w.alloc (.cells #[.string N, .slice a m cap, .int .i64 K] 44)) (.cells cx 33)
  rw [show (w.alloc (.cells #[.string N, .slice a m cap, .int .i64 K] 44)).heap.size = w.heap.size + 1 by simp] at B1
  have B1 := Lib.hid B1
  clear h hx hf hE hm hq hp hcx hR
  go_enter Tryz.func106, Tryz.ntmps106
  go_wp2_with (refine wpList_load_row rfl 33 (.tmp 3) rfl (w.heap.size + 1) rfl 33 cx (0, 0) _ B1.out Tryz.underlying33 rfl (by rw [hX1]; exact pred_size) ?_)
  refine (HM.out _ (G0.out.trans G1.out)).mono ?_
  rintro e wn ⟨na, nc, rfl, hnb, hg⟩
  have GN := Lib.hid hg
  have HNB := Lib.hid hnb
  have GW := Lib.hid (G0.out.trans (G1.out.trans hg))
  clear hg hnb
  go_wp2_with fail
  go_loopw [5, 15] (fun s5 s15 wr => ∃ (ka : Ptr) (n kc k : Nat), s5 = .slice ka n kc ∧ s15 = .int .i64 k ∧ k ≤ q ∧ n ≤ k ∧ Hid (∃ ks, kindsN cs (nms.take k) = some ks ∧ n = ks.length ∧ Win 1 wr ka kc n (kiV ks) ∧ (∀ j, bk ka j → wn.heap.size ≤ j) ∧ wn.grownBy wr none)) (fun _ s15 _ => q - (intOf s15).toNat)
  case atStart => exact ⟨none, 0, 0, 0, rfl, rfl, by omega, by omega, Lib.hid ⟨[], rfl, rfl, Win.nil 1 _, fun j hj => by simp [bk] at hj, grown_reflT _ _⟩⟩
  case round =>
    obtain ⟨ka, n, kc, k, rfl, rfl, hk, hnk, Q⟩ := hrel
    by_cases hlt : k < q
    · obtain ⟨g, rfl, hgl, hgb⟩ := HNB.out.resolve_left (fun e => by have := Hq.out; rw [e] at this; simp at this; omega)
      obtain ⟨ks, hks, hn, hw, hlo, hgr⟩ := Q.out
      have nb := blk_grown hgr hgb
      obtain ⟨M, hM⟩ : ∃ M, M = nms.getD k default := ⟨_, rfl⟩
      have cM : wr.cell? ⟨g, k, none⟩ = some (.string M) := by
        rw [cell_of_row _ _ k _ _ _ nb, hM, List.getElem?_toArray, List.getElem?_map, List.getD_eq_getElem?_getD, List.getElem?_eq_getElem (by rw [← Hq.out]; exact hlt)]
        rfl
      have hS : kindsN cs (nms.take (k + 1)) = match kindsN cs (nms.take k) with
          | none => none
          | some ks => (colK cs M).map fun k => ks ++ [k] := by
        rw [snocT nms k (by rw [← Hq.out]; exact hlt), kindsN_snoc, ← hM]
        cases kindsN cs (nms.take k) <;> rfl
      rw [hks] at hS
      have HS := Lib.hid hS
      have HMM : Hid (M ∈ nms) := Lib.hid (by rw [hM]; exact getD_memT nms k (by rw [← Hq.out]; exact hlt))
      have tb := blk_grown (G1.out.trans (GN.out.trans hgr)) B0.out
      have t0 := cell_of_row _ _ 0 _ _ _ tb
      have t1 := cell_of_row _ _ 1 _ _ _ tb
      have t2 := cell_of_row _ _ 2 _ _ _ tb
      simp only [List.getElem?_toArray, List.getElem?_cons_zero, List.getElem?_cons_succ] at t0 t1 t2
      have HC1 := Lib.hid (HC.out M wr (GW.out.trans hgr))
      have HQ := Lib.hid (And.intro hn (And.intro hw (And.intro hlo hgr)))
      clear hks hn hw hlo hgr nb hS tb hgl hgb hM
      go_wp2_with fail
      refine (HC1.out).mono ?_
      rintro e w3 ⟨hr, hg⟩
      have G3 := Lib.hid hg
      clear hg t0 t1 t2 cM HC1
      rcases hr with ⟨rfl, hN⟩ | ⟨kd, rfl, hN⟩
      · have HF : Hid (R = 15) := Lib.hid (by
          rw [HR.out, kindsN_mem cs M hN nms HMM.out])
        unfold ckV
        clear hN
        go_wp2_with fail
        go_ret
        exact ⟨by rw [HF.out]; rfl, GW.out.trans (HQ.out.2.2.2.trans G3.out)⟩
      · have HS2 : Hid (kindsN cs (nms.take (k + 1)) = some (ks ++ [kd])) := Lib.hid (by rw [HS.out, hN]; rfl)
        have W3 := Lib.hid ((HQ.out.2.1.keepG G3.out).keepG (World.grownBy_alloc w3 (.cells #[.int .i64 kd] 27) none))
        clear hN HS
        go_wp2_with (refine wpList_append_win (by rfl) (.tmp 28) (.tmp 30) kind_el (by rfl) W3.out (by omega) (by rfl) ⟨w3.heap.size, 0, none⟩ 1 (by rfl) [.int .i64 kd] rfl (World.news_of_block (heap_alloc_new w3 _)) (by intro u hu; rw [List.mem_singleton] at hu; subst hu; rfl) ?_)
        intro a4 c4 w4 hw4 ho4 hb4
        have E4 := Lib.hid (And.intro hw4 (And.intro ho4 hb4))
        clear hw4 ho4 hb4
        go_wp2_with fail
        go_roundw
        case rel => exact ⟨a4, n + 1, c4, k + 1, rfl, by go_num, by omega, by omega, Lib.hid (by
          obtain ⟨hn, hw, hlo, hgr⟩ := HQ.out
          obtain ⟨h1, h2, h3⟩ := E4.out
          refine ⟨ks ++ [kd], HS2.out, by simp [hn], by rw [kiV_app]; exact h1, fun j hj => ?_, grown_onlyN ((hgr.trans G3.out).trans (World.grownBy_alloc w3 (.cells #[.int .i64 kd] 27) none)) h2 hlo⟩
          rcases h3 j hj with e | e
          · exact hlo j e
          · have := hgr.size
            have := G3.out.size
            have := (World.grownBy_alloc w3 (.cells #[.int .i64 kd] 27) none).size
            omega)⟩
        case measure => simp [intOf]; omega
    · obtain rfl : k = q := by omega
      obtain ⟨ks, hks, hn, hw, hlo, hgr⟩ := Q.out
      rw [List.take_of_length_le (by rw [← Hq.out]; exact Nat.le_refl _)] at hks
      have HR2 : Hid (R = if clashB (ks ++ litKs lits) = true then 16 else 0) := Lib.hid (by rw [HR.out, hks])
      have B3 := Lib.hid (blk_grown (GN.out.trans hgr) B1.out)
      have HQ := Lib.hid (And.intro hn (And.intro hw (And.intro hlo hgr)))
      have GR := Lib.hid (GW.out.trans hgr)
      clear hks hn hw hlo hgr Q HR HM HC HNB
      generalize wr = wk at *
      go_wp2_with (refine wpList_load_row rfl 33 (.tmp 3) rfl (w.heap.size + 1) rfl 33 cx (0, 0) _ B3.out Tryz.underlying33 rfl (by rw [hX1]; exact pred_size) ?_)
      refine (HL.out _ GR.out).mono ?_
      rintro e wl ⟨⟨la, lc, rfl, hlc⟩, hg⟩
      have GL := Lib.hid hg
      have HLC := Lib.hid hlc
      have s0 := Lib.hid GW.out.size
      clear hg hlc HL hX2
      go_wp2_with fail
      go_loopw [5, 36] (fun s5 s36 wr => ∃ (ka : Ptr) (n kc j : Nat), s5 = .slice ka n kc ∧ s36 = .int .i64 j ∧ j ≤ p ∧ n ≤ k + j ∧ Hid (n = (ks ++ litKs (lits.take j)).length ∧ Win 1 wr ka kc n (kiV (ks ++ litKs (lits.take j))) ∧ (∀ b, bk ka b → wn.heap.size ≤ b ∧ (b < wk.heap.size ∨ wl.heap.size ≤ b)) ∧ Stays (fun b => b < w.heap.size ∨ wk.heap.size ≤ b) wl wr ∧ w.grownBy wr none)) (fun _ s36 _ => p - (intOf s36).toNat)
      case atStart => exact ⟨ka, n, kc, 0, rfl, rfl, by omega, by omega, Lib.hid (by
        obtain ⟨hn, hw, hlo, hgr⟩ := HQ.out
        refine ⟨by simp [litKs, hn], by simpa [litKs] using hw.keepG GL.out, fun b hb => ⟨hlo b hb, .inl (hw.lt b hb)⟩, ⟨Nat.le_refl _, fun _ _ _ => rfl⟩, GR.out.trans GL.out⟩)⟩
      case round =>
        obtain ⟨ka, n, kc, j, rfl, rfl, hj, hnj, Q⟩ := hrel
        by_cases hlt : j < p
        · obtain ⟨hn, hw, hlo, hst, hgr⟩ := Q.out
          obtain ⟨b, off, rfl, hb, _, hc⟩ := (HLC.out.keep hst).elem Vl.cc_len (by decide) (i := j) (by rw [← Hp.out]; exact hlt)
          obtain ⟨v, hv⟩ : ∃ v, v = lits.getD j default := ⟨_, rfl⟩
          rw [← hv] at hc
          have HT : Hid (litKs (lits.take (j + 1)) = if v.k = 0 then litKs (lits.take j) else litKs (lits.take j) ++ [v.k]) := Lib.hid (by
            rw [snocT lits j (by rw [← Hp.out]; exact hlt), litKs_app, ← hv])
          obtain ⟨vk, vn, vs⟩ := v
          have c0 := hc 0 _ rfl
          have c1 := hc 1 _ rfl
          have c2 := hc 2 _ rfl
          rw [Nat.add_zero] at c0
          simp only at c0 c1 c2
          have hkl : wk.heap.size ≤ wl.heap.size := GL.out.size
          clear hc hv hb Q
          by_cases h0 : vk = 0
          · subst h0
            have HQ2 := Lib.hid (And.intro hn (And.intro hw (And.intro hlo (And.intro hst hgr))))
            clear hn hw hlo hst hgr
            go_wp2_with fail
            go_roundw
            case rel => exact ⟨ka, n, kc, j + 1, rfl, by go_num, by omega, by omega, Lib.hid (by
              obtain ⟨hn, hw, hlo, hst, hgr⟩ := HQ2.out
              rw [HT.out, if_pos rfl]
              exact ⟨hn, hw.keepG (World.grownBy_alloc _ _ _), hlo, stays_trans hst (.of (World.grownBy_alloc _ _ _)), hgr.trans (World.grownBy_alloc _ _ _)⟩)⟩
            case measure => simp [intOf]; omega
          · have q0 : (vk != 0) = true := by simpa using h0
            have H0 := Lib.hid h0
            have W3 := Lib.hid ((hw.keepG (World.grownBy_alloc wr (.cells #[.int .i64 vk, .int .i64 vn, .string vs] 29) none)).keepG (World.grownBy_alloc _ (.cells #[.int .i64 vk] 27) none))
            have GG := Lib.hid ((World.grownBy_alloc wr (.cells #[.int .i64 vk, .int .i64 vn, .string vs] 29) none).trans (World.grownBy_alloc _ (.cells #[.int .i64 vk] 27) none))
            have HQ2 := Lib.hid (And.intro hn (And.intro hw (And.intro hlo (And.intro hst hgr))))
            clear hn hw hlo hst hgr h0
            go_wp2_with (refine wpList_append_win (by rfl) (.tmp 43) (.tmp 46) kind_el (by rfl) W3.out (by omega) (by rfl) ⟨wr.heap.size + 1, 0, none⟩ 1 (by rfl) [.int .i64 vk] rfl (by simpa using World.news_of_block (heap_alloc_new (wr.alloc (.cells #[.int .i64 vk, .int .i64 vn, .string vs] 29)) (.cells #[.int .i64 vk] 27))) (by intro u hu; rw [List.mem_singleton] at hu; subst hu; rfl) ?_)
            intro a4 c4 w4 hw4 ho4 hb4
            have E4 := Lib.hid (And.intro hw4 (And.intro ho4 hb4))
            clear hw4 ho4 hb4
            go_wp2_with fail
            go_roundw
            case rel => exact ⟨a4, n + 1, c4, j + 1, rfl, by go_num, by omega, by omega, Lib.hid (by
              obtain ⟨hn, hw, hlo, hst, hgr⟩ := HQ2.out
              obtain ⟨h1, h2, h3⟩ := E4.out
              have hs0 := GW.out.size
              have hs1 := hst.1
              have hs2 := GG.out.size
              have hs3 := h2.size
              have hs4 := GL.out.size
              rw [HT.out, if_neg H0.out]
              refine ⟨by rw [← List.append_assoc, List.length_append, ← hn]; rfl, by rw [← List.append_assoc, kiV_app]; exact h1, fun b hb => ?_, ⟨by omega, fun b hb hlt => (h2.block b (by omega) (fun e => by have := hlo b e; have := HQ.out.2.2.2.size; omega)).trans ((GG.out.block b (by omega) (by simp)).trans (hst.2 b hb hlt))⟩, grown_onlyN (hgr.trans GG.out) h2 (fun b hb => by have := hlo b hb; omega)⟩
              rcases h3 b hb with e | e
              · exact hlo b e
              · have := HQ.out.2.2.2.size
                omega)⟩
            case measure => simp [intOf]; omega
        · obtain rfl : j = p := by omega
          obtain ⟨hn, hw, hlo, hst, hgr⟩ := Q.out
          rw [List.take_of_length_le (by rw [← Hp.out]; exact Nat.le_refl _)] at hn hw
          have HK1 := Lib.hid (HK.out ka kc n _ wr hw hn)
          have HQ2 := Lib.hid (And.intro hlo hgr)
          have hE := HE.out.keep hgr
          clear hn hw hlo hst hgr Q
          go_wp2_with fail
          refine (HK1.out).mono ?_
          rintro e w5 ⟨⟨a5, d, rfl, hd⟩, ho⟩
          have G5 : Hid (w.grownBy w5 none) := Lib.hid (grown_onlyN HQ2.out.2 ho (fun b hb => by have := (HQ2.out.1 b hb).1; have := GW.out.size; omega))
          have cv := (HE.out.keep G5.out).s16.var
          have HD := Lib.hid hd
          clear ho hd hE
          by_cases h1 : 1 < d
          · have HF : Hid (R = 16) := Lib.hid (by rw [HR2.out, if_pos (HD.out.1 h1)])
            have h1' : (1 : Int) < d := by omega
            clear h1
            go_wp2_with fail
            go_ret
            exact ⟨by rw [HF.out]; rfl, G5.out⟩
          · have HF : Hid (R = 0) := Lib.hid (by rw [HR2.out, if_neg (fun h => h1 (HD.out.2 h))])
            have h1' : ¬ (1 : Int) < d := by omega
            clear h1
            go_wp2_with fail
            go_ret
            exact ⟨by rw [HF.out]; rfl, G5.out⟩
end Go.Proofs.YtjaclmoobfeikaaGreatDoor
namespace Go.Proofs.YtjaclmoobfeikaaGreatDoor
open Go.RowKit

theorem firstE_map {α β : Type} (g : α → β) (pl f : β → Nat) : ∀ l : List α, firstE pl f (l.map g) = firstE (fun x => pl (g x)) (fun x => f (g x)) l
  | [] => rfl
  | x :: r => by rw [List.map_cons, firstE, firstE, firstE_map g pl f r]
theorem Pm.c_9 : ∀ x : Pm, x.c[9]? = some (.int .i64 (x.e.pos : Nat)) | .mk .. => by rw [Pm.e]; rfl
set_option maxRecDepth 100000 in
set_option maxHeartbeats 6400000 in
theorem whereC_any (G : Nat) (f : Nat → Addr) (N : ByteArray) (K : Int) (a : Option Addr) (cap : Nat) (cs : List Cl) (X : Pm) (w : World) (h : ColsAt w.heap.size w a cs) (hX : PmS (fun j => j < w.heap.size) w X) (hn : X.n ≤ 1000) (hf : X.e.few) (hE : CkEnv G f w) :
    Calls Tryz.prog 81 #[.agg #[.string N, .slice a cs.length cap, .int .i64 K], X.v] w fun e w' => e = .returned (fltV f (whereE cs X.e)) ∧ w.grownBy w' none := by
  have HP := Lib.hid (fun W (hW : w.grownBy W none) => preds_any (fun j => j < w.heap.size) X W (hX.keep (.of hW)) hn)
  have HA := Lib.hid (fun x (hx : x ∈ X.alls) W (hW : w.grownBy W none) => alone_any G f N K a cap cs x W ((h.keep hW (by simp)).mono hW.size) (((PmS.alls hX x hx).keep (.of hW)).mono (fun b _ hb => Nat.lt_of_lt_of_le hb hW.size)) (Prd.alls_few X.e hf x.e (by rw [← Pm.alls_e]; exact List.mem_map_of_mem hx)) (hE.keep hW))
  obtain ⟨R, hR⟩ : ∃ R, R = whereE cs X.e := ⟨_, rfl⟩
  have HR : Hid (firstE (fun x : Pm => x.e.pos) (fun x => aloneE cs x.e) (X.alls.drop 0) = R) := Lib.hid (by
    rw [hR, whereE, ← Pm.alls_e, firstE_map]; rfl)
  rw [← hR]
  obtain ⟨m, hm⟩ : ∃ m, m = cs.length := ⟨_, rfl⟩
  rw [← hm] at HA ⊢
  have hlen := Pm.alls_n X
  generalize X.alls = L at *
  obtain ⟨n, hnl⟩ : ∃ n, n = L.length := ⟨_, rfl⟩
  have Hn := Lib.hid hnl
  rw [← hnl] at HP hlen
  have hnb : n ≤ 1000 := by omega
  have hX1 := X.c_size
  have hX2 := X.c_all
  unfold Pm.v at HP HA ⊢
  obtain ⟨cx, hcx⟩ : ∃ cx, cx = X.c.toArray := ⟨_, rfl⟩
  rw [← hcx] at hX1 hX2 HP ⊢
  have G0 := Lib.hid (World.grownBy_alloc w (.cells #[.string N, .slice a m cap, .int .i64 K] 44) none)
  have B0 := Lib.hid (heap_alloc_new w (.cells #[.string N, .slice a m cap, .int .i64 K] 44))
  have G1 := Lib.hid (World.grownBy_alloc (w.alloc (.cells #[.string N, .slice a m cap, .int .i64 K] 44)) (.cells cx 33) none)
  have B1 := heap_alloc_new (w.alloc (.cells #[.string N, .slice a m cap, .int .i64 K] 44)) (.cells cx 33)
  rw [show (w.alloc (.cells #[.string N, .slice a m cap, .int .i64 K] 44)).heap.size = w.heap.size + 1 by simp] at B1
  have B1 := Lib.hid B1
  clear h hX hf hE hm hnl hcx hR hn hlen
  go_enter Tryz.func81, Tryz.ntmps81
  go_wp2_with (refine wpList_load_row rfl 33 (.tmp 3) rfl (w.heap.size + 1) rfl 33 cx (0, 0) _ B1.out Tryz.underlying33 rfl (by rw [hX1]; exact pred_size) ?_)
  refine (HP.out _ (G0.out.trans G1.out)).mono ?_
  rintro e wn ⟨⟨pa, pc, rfl, hpw, hplo⟩, hg⟩
  have HW := Lib.hid (And.intro hpw hplo)
  have GW := Lib.hid (G0.out.trans (G1.out.trans hg))
  have T0 := Lib.hid (blk_grown (G1.out.trans hg) B0.out)
  clear hg hpw hplo HP hX1 hX2
  go_wp2_with fail
  go_loopw [11] (fun s11 wr => ∃ (k : Nat), s11 = .int .i64 k ∧ k ≤ n ∧ Hid (firstE (fun x : Pm => x.e.pos) (fun x => aloneE cs x.e) (L.drop k) = R ∧ wn.grownBy wr none)) (fun s11 _ => n - (intOf s11).toNat)
  case atStart => exact ⟨0, rfl, by omega, Lib.hid ⟨HR.out, grown_reflT _ _⟩⟩
  case round =>
    obtain ⟨k, rfl, hk, Q⟩ := hrel
    by_cases hlt : k < n
    · obtain ⟨g, off, rfl, hc, _, _⟩ := HW.out.1.mem.resolve_left (by have := HW.out.1.le; omega)
      have hkL : k < L.length := by rw [← Hn.out]; exact hlt
      obtain ⟨x, hx⟩ : ∃ x, x = L.getD k default := ⟨_, rfl⟩
      have hxm : x ∈ L := by rw [hx]; exact getD_memT L k hkL
      have RX : Hid (wr.rangeAt g (off + k * 10) x.c) := Lib.hid fun j u hj => by
        rw [Nat.add_assoc]; exact Q.out.2.cell (hc _ _ (pm_at L k hkL j u (by rw [← hx]; exact hj))) (by simp)
      have hD := firstE_drop (fun x : Pm => x.e.pos) (fun x => aloneE cs x.e) L k hkL
      rw [Q.out.1, ← hx] at hD
      have HD := Lib.hid hD
      have HA1 := Lib.hid (HA.out x hxm)
      have k9 := x.c_9
      obtain ⟨E, hE⟩ : ∃ E, E = aloneE cs x.e := ⟨_, rfl⟩
      simp only [← hE] at HA1 HD
      obtain ⟨P, hP⟩ : ∃ P, P = x.e.pos := ⟨_, rfl⟩
      simp only [← hP] at HD k9
      obtain ⟨cs1, hcs⟩ : ∃ c, c = x.c.toArray := ⟨_, rfl⟩
      have hX1 : cs1.size = 10 := by rw [hcs]; exact x.c_size
      have hX2 : cs1.all (·.oneCell') = true := by rw [hcs]; exact x.c_all
      have Hcs := Lib.hid hcs
      rw [← hcs] at HA1
      have A1 := Lib.hid (heap_alloc_new wr (.cells z10 33))
      have gA := Lib.hid (World.grownBy_alloc wr (.cells z10 33) none)
      have gS := Lib.hid (grown_setRow (wr.alloc (.cells z10 33)) wr.heap.size cs1)
      have A2 := Lib.hid (setRow_heap (wr.alloc (.cells z10 33)) wr.heap.size z10 cs1 _ _ A1.out)
      have g2 : Hid (wr.grownBy ((wr.alloc (.cells z10 33)).setRow wr.heap.size cs1) none) := Lib.hid (grown_thenX gA.out gS.out (fun j e => by cases e; exact Nat.le_refl _))
      obtain ⟨W1, hW1⟩ : ∃ W1, W1 = (wr.alloc (.cells z10 33)).setRow wr.heap.size cs1 := ⟨_, rfl⟩
      rw [← hW1] at A2 g2
      have HWR := Lib.hid hW1
      have tb := blk_grown (Q.out.2.trans g2.out) T0.out
      have t0 := cell_of_row _ _ 0 _ _ _ tb
      have t1 := cell_of_row _ _ 1 _ _ _ tb
      have t2 := cell_of_row _ _ 2 _ _ _ tb
      simp only [List.getElem?_toArray, List.getElem?_cons_zero, List.getElem?_cons_succ] at t0 t1 t2
      clear hc hx hD hE hP hcs hxm gA gS tb hkL hW1
      go_upto_region 4 with (first
        | (refine wpList_load_mid rfl 33 (.tmp 13) rfl g (off + k * 10) rfl x.c _ RX.out Tryz.underlying33 rfl (by rw [Pm.c_len]; exact pred_size) ?_; rw [← Hcs.out])
        | (refine wpList_store_row rfl 33 (.tmp 6) (.tmp 14) rfl wr.heap.size cs1 rfl rfl 33 z10 A1.out (by rw [hX1]; exact pred_size) (by rw [hX1]; rfl) hX2 ?_))
      change Code.wp _ _ _ _ ((wr.alloc (.cells z10 33)).setRow wr.heap.size cs1)
      rw [← HWR.out]
      clear HWR
      go_wp2_with (refine wpList_load_row rfl 33 (.tmp 6) rfl wr.heap.size rfl 33 cs1 (0, 0) _ A2.out Tryz.underlying33 rfl (by rw [hX1]; exact pred_size) ?_)
      refine (HA1.out _ (GW.out.trans (Q.out.2.trans g2.out))).mono ?_
      rintro e w3 ⟨rfl, hg⟩
      have G3 := Lib.hid (Q.out.2.trans (g2.out.trans hg))
      have x3 := blk_grown hg A2.out
      have p9 : w3.cell? ⟨wr.heap.size, 9, none⟩ = some (.int .i64 (P : Nat)) := (cell_of_row _ _ 9 _ _ _ x3).trans (by rw [Hcs.out, List.getElem?_toArray]; exact k9)
      clear hg x3 t0 t1 t2 k9
      by_cases h0 : E = 0
      · subst h0
        rw [ckE_no]
        go_wp2_with fail
        go_roundw
        case rel => exact ⟨k + 1, by go_num, by omega, Lib.hid ⟨by simpa using HD.out.symm, G3.out⟩⟩
        case measure => simp [intOf]; omega
      · rw [show ckE f E = ckV f E by unfold ckE; rw [if_neg h0]]
        have H0 := Lib.hid h0
        unfold ckV
        clear h0
        go_wp2_with fail
        go_ret
        refine ⟨?_, GW.out.trans G3.out⟩
        have := HD.out
        rw [if_neg H0.out] at this
        rw [this]; rfl
    · obtain rfl : k = n := by omega
      go_wp2_with fail
      go_ret
      have := Q.out.1
      rw [List.drop_of_length_le (by rw [← Hn.out]; exact Nat.le_refl _)] at this
      exact ⟨by rw [← this]; rfl, GW.out.trans Q.out.2⟩
end Go.Proofs.YtjaclmoobfeikaaGreatDoor
namespace Go.Proofs.YtjaclmoobfeikaaGreatDoor
open Go.RowKit

theorem bytes_eq_iff {a b : ByteArray} : (a.toList == b.toList) = true ↔ a = b := by
  rw [beq_iff_eq]
  constructor
  · intro h
    have h2 : a.data.toList = b.data.toList := by rw [← Lib.toList_data, ← Lib.toList_data]; exact h
    cases a with
    | mk x => cases b with
      | mk y => exact congrArg ByteArray.mk (Array.toList_inj.1 h2)
  · rintro rfl; rfl
theorem any_drop {α : Type} [Inhabited α] (t : α → Bool) (l : List α) (k : Nat) (h : k < l.length) : (l.drop k).any t = (t (l.getD k default) || (l.drop (k + 1)).any t) := by
  rw [List.drop_eq_getElem_cons h, List.any_cons, List.getD_eq_getElem?_getD, List.getElem?_eq_getElem h]; rfl
/-- The closure of among: is it the item's column? -/
theorem itIs_any (xa xp : Int) (N M : ByteArray) (g : Nat) (w : World) (hc : w.cell? ⟨g, 0, none⟩ = some (.string M)) :
    Calls Tryz.prog 126 #[.agg #[.int .i64 xa, .string N, .int .i64 xp], .pointer (some ⟨g, 0, none⟩)] w fun e w' => e = .returned (.bool (N.toList == M.toList)) ∧ w.grownBy w' none := by
  have hc2 : ∀ o, (w.alloc o).cell? ⟨g, 0, none⟩ = some (.string M) := fun o => (World.grownBy_alloc w o none).cell hc (by simp)
  go_enter Tryz.func126, Tryz.ntmps126
  go_wp2_with fail
  go_ret
  exact ⟨rfl, World.grownBy_alloc _ _ _⟩
/-- aggregate: is an item one? -/
theorem aggregate_any (x : Itm) (w : World) :
    Calls Tryz.prog 110 #[.agg x.c.toArray] w fun e w' => e = .returned (.bool (decide (x.agg ≠ 0))) ∧ w.grownBy w' none := by
  obtain ⟨xa, xc, xp⟩ := x
  show Calls Tryz.prog 110 #[.agg #[.int .i64 (xa : Int), .string xc, .int .i64 (xp : Int)]] w _
  by_cases h : xa = 0
  · subst h
    go_enter Tryz.func110, Tryz.ntmps110
    go_wp2_with fail
    go_ret
    exact ⟨rfl, World.grownBy_alloc _ _ _⟩
  · have h1 : ((xa : Int) != 0) = true := by rw [bne_iff_ne]; omega
    have h2 : decide (xa ≠ 0) = true := by simpa using h
    rw [h2]
    clear h h2
    go_enter Tryz.func110, Tryz.ntmps110
    go_wp2_with fail
    go_ret
    exact ⟨rfl, World.grownBy_alloc _ _ _⟩
set_option maxHeartbeats 1600000 in
theorem indexAm_any (S : Nat → Prop) (a : Option Addr) (cap : Nat) (l : List Itm) (M : ByteArray) (g : Nat) (w : World) (h : CellsS S w a (l.flatMap Itm.c)) (hl : l.length ≤ 1000000) (hc : w.cell? ⟨g, 0, none⟩ = some (.string M)) :
    Calls Tryz.prog 140 #[.slice a l.length cap, .func (.func 126) #[] #[.pointer (some ⟨g, 0, none⟩)]] w fun e w' => (∃ r : Int, e = .returned (.int .i64 r) ∧ (0 ≤ r ↔ l.any (fun x => x.col.toList == M.toList) = true)) ∧ w.grownBy w' none := by
  have H := Lib.hid (fun W (hW : w.grownBy W none) => h.keep (.of hW))
  have HC := Lib.hid (fun (x : Itm) W (hW : w.grownBy W none) => itIs_any x.agg x.pos x.col M g W (hW.cell hc (by simp)))
  obtain ⟨n, hn⟩ : ∃ n, n = l.length := ⟨_, rfl⟩
  have Hn := Lib.hid hn
  rw [← hn] at hl ⊢
  clear h hn
  have H0 : Hid ((l.drop 0).any (fun x => x.col.toList == M.toList) = l.any (fun x => x.col.toList == M.toList)) := Lib.hid rfl
  obtain ⟨B, hB⟩ : ∃ B, B = l.any (fun x => x.col.toList == M.toList) := ⟨_, rfl⟩
  rw [← hB] at H0 ⊢
  clear hB
  go_enter Tryz.func140, Tryz.ntmps140
  go_wp2_with fail
  go_loopw [8] (fun i wr => ∃ (k : Nat), i = .int .i64 k ∧ k ≤ n ∧ Hid ((l.drop k).any (fun x => x.col.toList == M.toList) = B ∧ w.grownBy wr none)) (fun i _ => n - (intOf i).toNat)
  case atStart => exact ⟨0, rfl, by omega, Lib.hid ⟨H0.out, grown_reflT _ _⟩⟩
  case round =>
    obtain ⟨k, rfl, hk, Q⟩ := hrel
    by_cases hlt : k < n
    · obtain ⟨b, off, rfl, _, _, hc⟩ := (H.out _ Q.out.2).elem Itm.c_len (by decide) (i := k) (by rw [← Hn.out]; exact hlt)
      obtain ⟨x, hx⟩ : ∃ x, x = l.getD k default := ⟨_, rfl⟩
      rw [← hx] at hc
      have hD := any_drop (fun x : Itm => x.col.toList == M.toList) l k (by rw [← Hn.out]; exact hlt)
      rw [Q.out.1, ← hx] at hD
      have HD := Lib.hid hD
      have HC1 := Lib.hid (HC.out x wr Q.out.2)
      obtain ⟨t, ht⟩ : ∃ t, t = (x.col.toList == M.toList) := ⟨_, rfl⟩
      simp only [← ht] at HC1 HD
      obtain ⟨xa, xc, xp⟩ := x
      have c0 := hc 0 _ rfl
      have c1 := hc 1 _ rfl
      have c2 := hc 2 _ rfl
      rw [Nat.add_zero] at c0
      simp only at c0 c1 c2
      clear hc hx ht hD
      cases t with
      | true =>
        go_wp2_with fail
        refine HC1.out.mono ?_
        rintro e w2 ⟨rfl, hg⟩
        have K2 := Lib.hid (Q.out.2.trans hg)
        clear hg
        go_wp2_with fail
        go_ret
        have hB := HD.out
        rw [Bool.true_or] at hB
        exact ⟨⟨k, rfl, ⟨fun _ => hB, fun _ => by omega⟩⟩, K2.out⟩
      | false =>
        go_wp2_with fail
        refine HC1.out.mono ?_
        rintro e w2 ⟨rfl, hg⟩
        have K2 := Lib.hid (Q.out.2.trans hg)
        clear hg
        go_wp2_with fail
        go_roundw
        case rel => exact ⟨k + 1, by go_num, by omega, Lib.hid ⟨by have hB := HD.out; rw [Bool.false_or] at hB; exact hB.symm, K2.out⟩⟩
        case measure => simp [intOf]; omega
    · obtain rfl : k = n := by omega
      go_wp2_with fail
      go_ret
      have hB := Q.out.1
      rw [List.drop_of_length_le (by rw [← Hn.out]; exact Nat.le_refl _)] at hB
      exact ⟨⟨-1, rfl, ⟨fun h => by omega, fun h => by rw [h] at hB; cases hB⟩⟩, Q.out.2⟩
set_option maxHeartbeats 1600000 in
theorem containsAm_any (S : Nat → Prop) (a : Option Addr) (cap : Nat) (l : List Itm) (M : ByteArray) (g : Nat) (w : World) (h : CellsS S w a (l.flatMap Itm.c)) (hl : l.length ≤ 1000000) (hc : w.cell? ⟨g, 0, none⟩ = some (.string M)) :
    Calls Tryz.prog 125 #[.slice a l.length cap, .func (.func 126) #[] #[.pointer (some ⟨g, 0, none⟩)]] w fun e w' => e = .returned (.bool (l.any (fun x => x.col.toList == M.toList))) ∧ w.grownBy w' none := by
  have HI := Lib.hid (indexAm_any S a cap l M g w h hl hc)
  obtain ⟨B, hB⟩ : ∃ B, B = l.any (fun x => x.col.toList == M.toList) := ⟨_, rfl⟩
  rw [← hB] at HI ⊢
  generalize l.length = n at *
  clear h hB hc
  go_enter Tryz.func125, Tryz.ntmps125
  go_wp2_with fail
  refine HI.out.mono ?_
  rintro e w2 ⟨⟨r, rfl, hr⟩, hg⟩
  have K2 := Lib.hid (And.intro hr hg)
  clear hr hg
  by_cases h0 : 0 ≤ r
  · have HB : Hid (B = true) := Lib.hid (K2.out.1.1 h0)
    go_wp2_with fail
    go_ret
    exact ⟨by rw [HB.out]; rfl, K2.out.2⟩
  · have HB : Hid (B = false) := Lib.hid (by
      cases B with
      | true => exact absurd (K2.out.1.2 rfl) h0
      | false => rfl)
    have hd := Lib.hid (decide_eq_false h0)
    go_wp2_with fail
    go_ret
    refine ⟨?_, K2.out.2⟩
    rw [HB.out]
    exact congrArg (fun b => Ending.returned (.bool b)) hd.out
set_option maxHeartbeats 1600000 in
theorem indexAg_any (S : Nat → Prop) (a : Option Addr) (cap : Nat) (l : List Itm) (w : World) (h : CellsS S w a (l.flatMap Itm.c)) (hl : l.length ≤ 1000000) :
    Calls Tryz.prog 140 #[.slice a l.length cap, .func (.func 110) #[] #[]] w fun e w' => (∃ r : Int, e = .returned (.int .i64 r) ∧ (0 ≤ r ↔ l.any (fun x => decide (x.agg ≠ 0)) = true)) ∧ w.grownBy w' none := by
  have H := Lib.hid (fun W (hW : w.grownBy W none) => h.keep (.of hW))
  have HC := Lib.hid (fun (x : Itm) W (hW : w.grownBy W none) => aggregate_any x W)
  obtain ⟨n, hn⟩ : ∃ n, n = l.length := ⟨_, rfl⟩
  have Hn := Lib.hid hn
  rw [← hn] at hl ⊢
  clear h hn
  have H0 : Hid ((l.drop 0).any (fun x => decide (x.agg ≠ 0)) = l.any (fun x => decide (x.agg ≠ 0))) := Lib.hid rfl
  obtain ⟨B, hB⟩ : ∃ B, B = l.any (fun x => decide (x.agg ≠ 0)) := ⟨_, rfl⟩
  rw [← hB] at H0 ⊢
  clear hB
  go_enter Tryz.func140, Tryz.ntmps140
  go_wp2_with fail
  go_loopw [8] (fun i wr => ∃ (k : Nat), i = .int .i64 k ∧ k ≤ n ∧ Hid ((l.drop k).any (fun x => decide (x.agg ≠ 0)) = B ∧ w.grownBy wr none)) (fun i _ => n - (intOf i).toNat)
  case atStart => exact ⟨0, rfl, by omega, Lib.hid ⟨H0.out, grown_reflT _ _⟩⟩
  case round =>
    obtain ⟨k, rfl, hk, Q⟩ := hrel
    by_cases hlt : k < n
    · obtain ⟨b, off, rfl, _, _, hc⟩ := (H.out _ Q.out.2).elem Itm.c_len (by decide) (i := k) (by rw [← Hn.out]; exact hlt)
      obtain ⟨x, hx⟩ : ∃ x, x = l.getD k default := ⟨_, rfl⟩
      rw [← hx] at hc
      have hD := any_drop (fun x : Itm => decide (x.agg ≠ 0)) l k (by rw [← Hn.out]; exact hlt)
      rw [Q.out.1, ← hx] at hD
      have HD := Lib.hid hD
      have HC1 := Lib.hid (HC.out x wr Q.out.2)
      obtain ⟨t, ht⟩ : ∃ t, t = (decide (x.agg ≠ 0)) := ⟨_, rfl⟩
      simp only [← ht] at HC1 HD
      obtain ⟨xa, xc, xp⟩ := x
      have c0 := hc 0 _ rfl
      have c1 := hc 1 _ rfl
      have c2 := hc 2 _ rfl
      rw [Nat.add_zero] at c0
      simp only at c0 c1 c2
      clear hc hx ht hD
      cases t with
      | true =>
        go_wp2_with fail
        refine HC1.out.mono ?_
        rintro e w2 ⟨rfl, hg⟩
        have K2 := Lib.hid (Q.out.2.trans hg)
        clear hg
        go_wp2_with fail
        go_ret
        have hB := HD.out
        rw [Bool.true_or] at hB
        exact ⟨⟨k, rfl, ⟨fun _ => hB, fun _ => by omega⟩⟩, K2.out⟩
      | false =>
        go_wp2_with fail
        refine HC1.out.mono ?_
        rintro e w2 ⟨rfl, hg⟩
        have K2 := Lib.hid (Q.out.2.trans hg)
        clear hg
        go_wp2_with fail
        go_roundw
        case rel => exact ⟨k + 1, by go_num, by omega, Lib.hid ⟨by have hB := HD.out; rw [Bool.false_or] at hB; exact hB.symm, K2.out⟩⟩
        case measure => simp [intOf]; omega
    · obtain rfl : k = n := by omega
      go_wp2_with fail
      go_ret
      have hB := Q.out.1
      rw [List.drop_of_length_le (by rw [← Hn.out]; exact Nat.le_refl _)] at hB
      exact ⟨⟨-1, rfl, ⟨fun h => by omega, fun h => by rw [h] at hB; cases hB⟩⟩, Q.out.2⟩
set_option maxHeartbeats 1600000 in
theorem containsAg_any (S : Nat → Prop) (a : Option Addr) (cap : Nat) (l : List Itm) (w : World) (h : CellsS S w a (l.flatMap Itm.c)) (hl : l.length ≤ 1000000) :
    Calls Tryz.prog 125 #[.slice a l.length cap, .func (.func 110) #[] #[]] w fun e w' => e = .returned (.bool (l.any (fun x => decide (x.agg ≠ 0)))) ∧ w.grownBy w' none := by
  have HI := Lib.hid (indexAg_any S a cap l w h hl)
  obtain ⟨B, hB⟩ : ∃ B, B = l.any (fun x => decide (x.agg ≠ 0)) := ⟨_, rfl⟩
  rw [← hB] at HI ⊢
  generalize l.length = n at *
  clear h hB
  go_enter Tryz.func125, Tryz.ntmps125
  go_wp2_with fail
  refine HI.out.mono ?_
  rintro e w2 ⟨⟨r, rfl, hr⟩, hg⟩
  have K2 := Lib.hid (And.intro hr hg)
  clear hr hg
  by_cases h0 : 0 ≤ r
  · have HB : Hid (B = true) := Lib.hid (K2.out.1.1 h0)
    go_wp2_with fail
    go_ret
    exact ⟨by rw [HB.out]; rfl, K2.out.2⟩
  · have HB : Hid (B = false) := Lib.hid (by
      cases B with
      | true => exact absurd (K2.out.1.2 rfl) h0
      | false => rfl)
    have hd := Lib.hid (decide_eq_false h0)
    go_wp2_with fail
    go_ret
    refine ⟨?_, K2.out.2⟩
    rw [HB.out]
    exact congrArg (fun b => Ending.returned (.bool b)) hd.out
/-- among: is the column one of the items'? -/
theorem am_eq (l : List Itm) (M : ByteArray) : l.any (fun x => x.col.toList == M.toList) = amongB l M := by
  unfold amongB
  congr 1
  funext x
  rw [Bool.eq_iff_iff, bytes_eq_iff, decide_eq_true_iff]
set_option maxHeartbeats 1600000 in
theorem among_any (S : Nat → Prop) (a : Option Addr) (cap : Nat) (l : List Itm) (M : ByteArray) (w : World) (h : CellsS S w a (l.flatMap Itm.c)) (hl : l.length ≤ 1000000) :
    Calls Tryz.prog 108 #[.slice a l.length cap, .string M] w fun e w' => e = .returned (.bool (amongB l M)) ∧ w.grownBy w' none := by
  have hb : ∀ T, (w.alloc (.cells #[.string M] T)).cell? ⟨w.heap.size, 0, none⟩ = some (.string M) := fun T => cell_of_row _ _ 0 _ _ _ (heap_alloc_new w _)
  have HI := Lib.hid (fun T => containsAm_any S a cap l M w.heap.size (w.alloc (.cells #[.string M] T)) (h.keep (.of (World.grownBy_alloc _ _ _))) hl (hb T))
  rw [am_eq] at HI
  generalize l.length = n at *
  generalize amongB l M = B at *
  clear h
  go_enter Tryz.func108, Tryz.ntmps108
  go_wp2_with fail
  refine (HI.out _).mono ?_
  rintro e w2 ⟨rfl, hg⟩
  have K2 := Lib.hid ((World.grownBy_alloc w _ none).trans hg)
  clear hg
  go_wp2_with fail
  go_ret
  exact ⟨rfl, K2.out⟩
set_option maxRecDepth 100000 in
set_option maxHeartbeats 3200000 in
theorem group_any (G : Nat) (f : Nat → Addr) (N : ByteArray) (K : Int) (a : Option Addr) (cap : Nat) (cs : List Cl) (S : Nat → Prop) (ia : Option Addr) (ic : Nat) (l : List Itm) (w : World) (h : ColsAt w.heap.size w a cs) (hi : CellsS S w ia (l.flatMap Itm.c)) (hl : l.length ≤ 1000) (hcl : l.length ≤ ic) (hE : CkEnv G f w) :
    Calls Tryz.prog 82 #[.agg #[.string N, .slice a cs.length cap, .int .i64 K], .slice ia l.length ic] w fun e w' => e = .returned (fltV f (groupE cs [] l)) ∧ w.grownBy w' none := by
  have HC := Lib.hid (fun M W (hW : w.grownBy W none) => columnKind_any G f N K a cap cs M W ((h.keep hW (by simp)).mono hW.size) (hE.keep hW))
  have H := Lib.hid (fun W (hW : w.grownBy W none) => hi.keep (.of hW))
  have HA := Lib.hid (fun k (hk : k ≤ l.length) M W (hW : w.grownBy W none) => among_any S ia ic (l.take k) M W (by
    rcases hi.keep (.of hW) with h | ⟨b, off, e, h1, h2, hc⟩
    · left
      have := congrArg List.length h
      rw [flat_len Itm.c 3 Itm.c_len] at this
      have h0 : l = [] := List.eq_nil_of_length_eq_zero (by simp at this; omega)
      rw [h0]; simp
    · refine .inr ⟨b, off, e, h1, h2, fun j u hj => hc j u ?_⟩
      have : l.flatMap Itm.c = (l.take k).flatMap Itm.c ++ (l.drop k).flatMap Itm.c := by rw [← List.flatMap_append, List.take_append_drop]
      rw [this, List.getElem?_append_left (List.getElem?_eq_some_iff.1 hj).1]; exact hj) (by rw [List.length_take]; omega))
  have HE := Lib.hid hE
  obtain ⟨m, hm⟩ : ∃ m, m = cs.length := ⟨_, rfl⟩
  obtain ⟨n, hn⟩ : ∃ n, n = l.length := ⟨_, rfl⟩
  have Hn := Lib.hid hn
  rw [← hm] at HC ⊢
  rw [← hn] at hl hcl ⊢
  have G0 := Lib.hid (World.grownBy_alloc w (.cells #[.string N, .slice a m cap, .int .i64 K] 44) none)
  have B0 := Lib.hid (heap_alloc_new w (.cells #[.string N, .slice a m cap, .int .i64 K] 44))
  obtain ⟨R, hR⟩ : ∃ R, R = groupE cs [] l := ⟨_, rfl⟩
  rw [← hR]
  have HR : Hid (groupE cs (l.take 0) (l.drop 0) = R) := Lib.hid (by rw [hR]; rfl)
  clear h hi hE hm hn hR
  go_enter Tryz.func82, Tryz.ntmps82
  go_wp2_with fail
  go_loopw [11] (fun s11 wr => ∃ (k : Nat), s11 = .int .i64 k ∧ k ≤ n ∧ Hid (groupE cs (l.take k) (l.drop k) = R ∧ w.grownBy wr none ∧ wr.heap[w.heap.size]? = some (.cells #[.string N, .slice a m cap, .int .i64 K] 44 (0, 0)))) (fun s11 _ => n - (intOf s11).toNat)
  case atStart => exact ⟨0, rfl, by omega, Lib.hid ⟨HR.out, G0.out, B0.out⟩⟩
  case round =>
    obtain ⟨k, rfl, hk, Q⟩ := hrel
    by_cases hlt : k < n
    · obtain ⟨b, off, rfl, _, _, hc⟩ := (H.out _ Q.out.2.1).elem Itm.c_len (by decide) (i := k) (by rw [← Hn.out]; exact hlt)
      obtain ⟨x, hx⟩ : ∃ x, x = l.getD k default := ⟨_, rfl⟩
      have hD := groupE_drop cs l k (by rw [← Hn.out]; exact hlt)
      rw [Q.out.1, ← hx] at hD
      rw [← hx] at hc
      have HD := Lib.hid hD
      have HC1 := Lib.hid (HC.out x.col)
      have HA1 := Lib.hid (HA.out k (by rw [← Hn.out]; exact hk) x.col)
      rw [List.length_take, Nat.min_eq_left (by rw [← Hn.out]; exact hk)] at HA1
      obtain ⟨xa, xc, xp⟩ := x
      have c0 := hc 0 _ rfl
      have c1 := hc 1 _ rfl
      have c2 := hc 2 _ rfl
      rw [Nat.add_zero] at c0
      dsimp only at HC1 HA1 HD c0 c1 c2
      have G1 := Lib.hid (World.grownBy_alloc wr (.cells #[.int .i64 (xa : Int), .string xc, .int .i64 (xp : Int)] 65) none)
      have BX := Lib.hid (heap_alloc_new wr (.cells #[.int .i64 (xa : Int), .string xc, .int .i64 (xp : Int)] 65))
      have t3 := blk_grown G1.out Q.out.2.2
      have t0 := cell_of_row _ _ 0 _ _ _ t3
      have t1 := cell_of_row _ _ 1 _ _ _ t3
      have t2 := cell_of_row _ _ 2 _ _ _ t3
      simp only [List.getElem?_toArray, List.getElem?_cons_zero, List.getElem?_cons_succ] at t0 t1 t2
      clear hc hD hx t3
      go_wp2_with fail
      refine (HC1.out _ (Q.out.2.1.trans G1.out)).mono ?_
      rintro e w3 ⟨hr, hg⟩
      have G3 := Lib.hid (Q.out.2.1.trans (G1.out.trans hg))
      have B3 := Lib.hid (blk_grown (G1.out.trans hg) Q.out.2.2)
      have X3 := Lib.hid (blk_grown hg BX.out)
      have p1 : w3.cell? ⟨wr.heap.size, 1, none⟩ = some (.string xc) := cell_of_row _ _ 1 _ _ _ X3.out
      have p2 : w3.cell? ⟨wr.heap.size, 2, none⟩ = some (.int .i64 (xp : Int)) := cell_of_row _ _ 2 _ _ _ X3.out
      clear hg t0 t1 t2 c0 c1 c2
      rcases hr with ⟨rfl, hN⟩ | ⟨kd, rfl, hN⟩
      · have HF : Hid (R = some (xp, 15)) := Lib.hid (by rw [HD.out, if_pos hN])
        unfold ckV
        clear hN
        go_wp2_with fail
        go_ret
        exact ⟨by rw [HF.out]; rfl, G3.out⟩
      · have HD2 : Hid (R = if amongB (l.take k) xc = true then some (xp, 23) else groupE cs (l.take (k + 1)) (l.drop (k + 1))) := Lib.hid (by rw [HD.out, if_neg (by rw [hN]; simp)])
        have HA2 := Lib.hid (fun W (hW : w3.grownBy W none) => HA1.out W (G3.out.trans hW))
        have i1 : k ≤ ic := by omega
        clear hN HD
        obtain ⟨bm, hbm⟩ : ∃ b, b = amongB (l.take k) xc := ⟨_, rfl⟩
        rw [← hbm] at HA2 HD2
        clear hbm
        go_wp2_with fail
        go_region_law (first
          | ((try go_simp); go_at_call 108; (with_reducible refine (HA2.out _ (grown_drewT (grown_reflT _ _))).mono ?_); rintro e w5 ⟨rfl, g5⟩
             have G5 := Lib.hid (World.grownBy.trans (grown_drewT (grown_reflT w3 none)) g5)
             clear g5)
          | fail)
        all_goals
          have q2 : w5.cell? ⟨wr.heap.size, 2, none⟩ = some (.int .i64 (xp : Int)) := cell_of_row _ _ 2 _ _ _ (blk_grown G5.out X3.out)
          have hcv := (HE.out.keep (G3.out.trans G5.out)).s23.var
          have B5 := Lib.hid (blk_grown G5.out B3.out)
          cases bm with
          | true =>
            have HF : Hid (R = some (xp, 23)) := Lib.hid (by rw [HD2.out, if_pos rfl])
            clear HD2
            go_wp2_with fail
            go_ret
            exact ⟨by rw [HF.out]; rfl, G3.out.trans G5.out⟩
          | false =>
            have HF : Hid (R = groupE cs (l.take (k + 1)) (l.drop (k + 1))) := Lib.hid (by rw [HD2.out, if_neg (by simp)])
            clear HD2
            go_wp2_with fail
            go_roundw
            case rel => exact ⟨k + 1, by go_num, by omega, Lib.hid ⟨HF.out.symm, G3.out.trans G5.out, B5.out⟩⟩
            case measure => simp [intOf]; omega
    · obtain rfl : k = n := by omega
      go_wp2_with fail
      go_ret
      have := Q.out.1
      rw [List.drop_of_length_le (by rw [← Hn.out]; exact Nat.le_refl _)] at this
      exact ⟨by rw [← this]; rfl, Q.out.2.1⟩
end Go.Proofs.YtjaclmoobfeikaaGreatDoor
