/- The reader's literals, comparisons, and lists. The reader's lists: things with commas between. The reader's items, keys and limit. -/
import Derived.Test.YtppigamibgefaaaGreatDoorZp19
import Derived.Deep.DeepCutAuto
import Derived.OwnWalk
namespace Go.Proofs.YtppigamibgefaaaGreatDoor
open Go.RowKit

theorem RdA.hdm {R b deep : Nat} {s : RS} {w : World} (h : RdA R b deep s w) : s.hd ∈ s.rest := by
  obtain ⟨r, e⟩ := h.ok.hd
  rw [e]; simp
theorem litV_of {t : ByteArray} {k n : Int} {x : ByteArray} {c : Nat} (h : readV t.data.toList = .tuple #[.agg #[.int .i64 k, .int .i64 n, .string x], .int .i64 c]) : litV t = ⟨k, n, x⟩ := by
  unfold litV
  rw [h]
  rfl
theorem three_of {w : World} {b : Nat} {v0 v1 v2 : Value} {T : TypeId} (h : w.heap[b]? = some (.cells #[v0, v1, v2] T (0, 0))) : (w.cell? ⟨b, 0, none⟩ = some v0 ∧ w.cell? ⟨b, 1, none⟩ = some v1 ∧ w.cell? ⟨b, 2, none⟩ = some v2) ∧ w.frozen? ⟨b, 0, none⟩ = false ∧ w.frozen? ⟨b, 1, none⟩ = false ∧ w.frozen? ⟨b, 2, none⟩ = false := by
  have c0 := cell_of_row _ _ 0 _ _ _ h
  have c1 := cell_of_row _ _ 1 _ _ _ h
  have c2 := cell_of_row _ _ 2 _ _ _ h
  simp at c0 c1 c2
  exact ⟨⟨c0, c1, c2⟩, frozen_of_row _ _ 0 _ _ h, frozen_of_row _ _ 1 _ _ h, frozen_of_row _ _ 2 _ _ h⟩
theorem set3 {w : World} {b : Nat} {v0 v1 v2 u0 u1 u2 : Value} {T : TypeId} (h : w.heap[b]? = some (.cells #[v0, v1, v2] T (0, 0))) : (((w.setCell ⟨b, 0, none⟩ u0).setCell ⟨b, 1, none⟩ u1).setCell ⟨b, 2, none⟩ u2).heap[b]? = some (.cells #[u0, u1, u2] T (0, 0)) := by
  have h0 := heap_setCell_same _ _ 0 _ _ u0 h
  have h1 := heap_setCell_same _ _ 1 _ _ u1 h0
  have h2 := heap_setCell_same _ _ 2 _ _ u2 h1
  simpa using h2
theorem grown_set3 {w0 w : World} {row : Option Nat} (h : w0.grownBy w row) {b : Nat} (hb : w0.heap.size ≤ b) (u0 u1 u2 : Value) : w0.grownBy (((w.setCell ⟨b, 0, none⟩ u0).setCell ⟨b, 1, none⟩ u1).setCell ⟨b, 2, none⟩ u2) row :=
  grown_setnewX (grown_setnewX (grown_setnewX h hb 0 u0) hb 1 u1) hb 2 u2
theorem grown3 (w : World) (b : Nat) (u0 u1 u2 : Value) : w.grownBy (((w.setCell ⟨b, 0, none⟩ u0).setCell ⟨b, 1, none⟩ u1).setCell ⟨b, 2, none⟩ u2) (some b) :=
  grown_setX (grown_setX (grown_cellR w b 0 u0) 1 u1) 2 u2
/-- What is stored in blocks that came meanwhile is nothing to the reader. -/
theorem RdGo.stored {R b deep : Nat} {s0 s : RS} {w w' w2 : World} (h0 : RdA R b deep s0 w) (h : RdGo R b deep s w w') {g : Nat} (hg : w.heap.size ≤ g) (hw : w'.grownBy w2 (some g)) : RdGo R b deep s w w2 := by
  have hR := h0.lt'
  have hb := h0.lt
  obtain ⟨tp0, p0, far0⟩ := h0.far
  have hf := World.block_lt_of_cell? w _ far0
  have hf' : 12 < w.heap.size := hf
  refine ⟨?_, grown_thenT h.2 hw (fun j hj => by cases hj; exact hg)⟩
  have hlt := h.1.lt'
  obtain ⟨⟨o, k, hB, h1, h2, h3⟩, ok, few, lt, ne, ⟨tp, p, far⟩, gR, sz⟩ := h.1
  exact ⟨⟨o, k, (hw.block R hlt (by simp; omega)).trans hB, h1, h2, fun j u hj => hw.cell (h3 j u hj) (by simp; omega)⟩, ok, few, Nat.lt_of_lt_of_le lt hw.size, ne, ⟨tp, p, hw.cell far (by simp; omega)⟩, gR, sz⟩
/-- A block that isn't the reader's stays. -/
theorem RdGo.blk {R b deep : Nat} {s : RS} {w w' : World} (h : RdGo R b deep s w w') {g : Nat} {o : Obj} (hg : w.heap[g]? = some o) (hne : g ≠ R) : w'.heap[g]? = some o :=
  (h.2.block g (Array.getElem?_eq_some_iff.1 hg).1 (by simp; exact hne)).trans hg
theorem blk_grown {w w' : World} (h : w.grownBy w' none) {g : Nat} {o : Obj} (hg : w.heap[g]? = some o) : w'.heap[g]? = some o :=
  (h.block g (Array.getElem?_eq_some_iff.1 hg).1 (by simp)).trans hg
set_option maxRecDepth 100000 in
theorem plit_any (R b deep : Nat) (s : RS) (w : World) (h : RdA R b deep s w) :
    Calls Tryz.prog 193 #[.pointer (some ⟨R, 0, none⟩)] w fun e w' => e = .returned (.agg (vCT s.literal.2).toArray) ∧ RdGo R b deep s.literal.1 w w' := by
  have HC := Lib.hid (fun W (hW : w.grownBy W none) => comes_any R b deep s W (h.keep hW))
  have HR := Lib.hid (fun W (hW : w.grownBy W none) => Read_any s.hd.text W (h.sz _ h.hdm) (h.keep hW).far)
  obtain ⟨k, n, t, hv⟩ := readV_code s.hd.text.data.toList
  have hl := litV_of hv
  rw [hv] at HR
  have HS := Lib.hid h
  unfold RS.literal
  by_cases hc : readC s.hd.text.data.toList = 0
  · have HP := Lib.hid (fun W (hW : w.grownBy W none) => pass_any R b deep s W (h.keep hW) (RS.more_lit hc))
    rw [if_pos hc, hl]
    rw [hc, show ((0 : Nat) : Int) = 0 from rfl] at HR
    generalize s.hd.kind = kd at *
    generalize s.hd.text = tx at *
    generalize s.hd.pos = ps at *
    clear h hc hl hv
    go_enter Tryz.func193, Tryz.ntmps193
    have GA := Lib.hid (World.grownBy_alloc w (.cells #[.int .i64 0, .int .i64 0, .string ⟨#[]⟩] 27) none)
    go_wp2_with fail
    refine (HC.out _ GA.out).mono ?_
    rintro e w2 ⟨rfl, hg⟩
    have G2 := Lib.hid (GA.out.trans hg)
    have hg2 := Lib.hid hg
    have t1 := field_tk1 (.int .i64 kd) (.string tx) (.int .i64 ps) w2
    clear hg
    go_wp2_with fail
    refine (HR.out _ G2.out).mono ?_
    rintro e w3 ⟨rfl, hb⟩
    have G3 := Lib.hid (G2.out.trans (grown_belowT hb none))
    have A3 := Lib.hid (blk_grown (grown_belowT hb none) (blk_grown hg2.out (heap_alloc_new w _)))
    clear hb
    go_wp2_with fail
    have GB := Lib.hid (G3.out.trans (World.grownBy_alloc w3 (.cells #[.int .i64 k, .int .i64 n, .string t] 27) none))
    refine (HP.out _ GB.out).mono ?_
    rintro e w4 ⟨rfl, hr⟩
    have hRw := HS.out.lt'
    have hsz := G3.out.size
    have A4 := hr.blk (blk_grown (World.grownBy_alloc w3 _ none) A3.out) (by omega)
    have B4 := hr.blk (heap_alloc_new w3 _) (by omega)
    have R4 := Lib.hid hr
    obtain ⟨⟨a0, a1, a2⟩, b0, b1, b2⟩ := three_of A4
    obtain ⟨⟨d0, d1, d2⟩, _, _, _⟩ := three_of B4
    have HA4 := Lib.hid A4
    clear hr A4 B4 hRw hsz
    go_wp2_with fail
    exact bodyPost_ret (results_cell_row rfl _ _ w.heap.size 27 #[.int .i64 k, .int .i64 n, .string t] (0, 0) _ rfl (set3 HA4.out) Tryz.underlying27 rfl (by kernel_rfl)) rfl ⟨rfl, RdGo.stored HS.out ⟨R4.out.1, GB.out.trans' R4.out.2⟩ (Nat.le_refl _) (grown3 _ _ _ _ _)⟩
  · have hcn : ((readC s.hd.text.data.toList : Nat) : Int) ≠ 0 := by omega
    have HW := Lib.hid (fun W (hW : w.grownBy W none) => wrong_any R b deep s 11 W (h.keep hW))
    rw [if_neg hc]
    generalize readC s.hd.text.data.toList = rc at *
    have hcb : ((rc : Int) != 0) = true := by simpa using hcn
    generalize s.hd.kind = kd at *
    generalize s.hd.text = tx at *
    generalize s.hd.pos = ps at *
    clear h hc hl hv
    go_enter Tryz.func193, Tryz.ntmps193
    have GA := Lib.hid (World.grownBy_alloc w (.cells #[.int .i64 0, .int .i64 0, .string ⟨#[]⟩] 27) none)
    go_wp2_with fail
    refine (HC.out _ GA.out).mono ?_
    rintro e w2 ⟨rfl, hg⟩
    have G2 := Lib.hid (GA.out.trans hg)
    have hg2 := Lib.hid hg
    have t1 := field_tk1 (.int .i64 kd) (.string tx) (.int .i64 ps) w2
    clear hg
    go_wp2_with fail
    refine (HR.out _ G2.out).mono ?_
    rintro e w3 ⟨rfl, hb⟩
    have G3 := Lib.hid (G2.out.trans (grown_belowT hb none))
    have A3 := Lib.hid (blk_grown (grown_belowT hb none) (blk_grown hg2.out (heap_alloc_new w _)))
    clear hb
    go_wp2_with fail
    have GB := Lib.hid (G3.out.trans (World.grownBy_alloc w3 (.cells #[.int .i64 k, .int .i64 n, .string t] 27) none))
    refine (HW.out _ GB.out).mono ?_
    rintro e w4 ⟨rfl, hr⟩
    have hRw := HS.out.lt'
    have A4 := hr.blk (blk_grown (World.grownBy_alloc w3 _ none) A3.out) (by omega)
    have R4 := Lib.hid hr
    obtain ⟨⟨a0, a1, a2⟩, b0, b1, b2⟩ := three_of A4
    have HA4 := Lib.hid A4
    clear hr A4 hRw
    go_wp2_with fail
    exact bodyPost_ret (results_cell_row rfl _ _ w.heap.size 27 #[.int .i64 0, .int .i64 0, .string ⟨#[]⟩] (0, 0) _ rfl (set3 HA4.out) Tryz.underlying27 rfl (by kernel_rfl)) rfl ⟨rfl, RdGo.stored HS.out ⟨R4.out.1, GB.out.trans' R4.out.2⟩ (Nat.le_refl _) (grown3 _ _ _ _ _)⟩
theorem sign_nat (k : Nat) (h1 : 1 ≤ k) (h2 : k ≤ 6) : signS k ≠ ⟨#[]⟩ ∧ ∀ t : ByteArray, (t = signS k → relT t = k) := by
  have hk : k = 1 ∨ k = 2 ∨ k = 3 ∨ k = 4 ∨ k = 5 ∨ k = 6 := by omega
  rcases hk with rfl | rfl | rfl | rfl | rfl | rfl <;> exact ⟨by decide, fun t ht => by subst ht; decide⟩
theorem relT_no {t : ByteArray} (h : ∀ k : Nat, 1 ≤ k → k ≤ 6 → ¬ t = signS k) : relT t = 0 := by
  unfold relT
  have e1 : (signS (1 : Nat)) = ⟨#[61]⟩ := by decide
  have e2 : (signS (2 : Nat)) = ⟨#[60, 62]⟩ := by decide
  have e3 : (signS (3 : Nat)) = ⟨#[60]⟩ := by decide
  have e4 : (signS (4 : Nat)) = ⟨#[60, 61]⟩ := by decide
  have e5 : (signS (5 : Nat)) = ⟨#[62]⟩ := by decide
  have e6 : (signS (6 : Nat)) = ⟨#[62, 61]⟩ := by decide
  rw [if_neg (e1 ▸ h 1 (by omega) (by omega)), if_neg (e2 ▸ h 2 (by omega) (by omega)), if_neg (e3 ▸ h 3 (by omega) (by omega)), if_neg (e4 ▸ h 4 (by omega) (by omega)), if_neg (e5 ▸ h 5 (by omega) (by omega)), if_neg (e6 ▸ h 6 (by omega) (by omega))]
set_option maxRecDepth 100000 in
set_option maxHeartbeats 1600000 in
theorem prel_any (R b deep : Nat) (s : RS) (w : World) (h : RdA R b deep s w) :
    Calls Tryz.prog 192 #[.pointer (some ⟨R, 0, none⟩)] w fun e w' => e = .returned (.int .i64 s.rel.2) ∧ RdGo R b deep s.rel.1 w w' := by
  have HS := Lib.hid h
  have HT := Lib.hid (fun (k : Nat) (h1 : 1 ≤ k) (h2 : k ≤ 6) W (hW : RdA R b deep s W) => took_any R b deep s (signS k) W hW (sign_nat k h1 h2).1)
  have HG := Lib.hid (fun (k : Nat) W => lsign_any (k : Int) W)
  clear h
  go_enter Tryz.func192, Tryz.ntmps192
  go_wp2_with fail
  go_loopw [3] (fun s3 wr => ∃ k : Nat, s3 = .int .i64 k ∧ 1 ≤ k ∧ k ≤ 7 ∧ Hid ((∀ j : Nat, 1 ≤ j → j < k → ¬ s.hd.text = signS j) ∧ RdGo R b deep s w wr)) (fun s3 _ => 7 - (intOf s3).toNat)
  case atStart => exact ⟨1, rfl, by omega, by omega, Lib.hid ⟨fun j h1 h2 => by omega, RdGo.self HS.out⟩⟩
  case round =>
    obtain ⟨k, rfl, h1, h7, K⟩ := hrel
    by_cases hk : k ≤ 6
    · have HG1 := Lib.hid (HG.out k wr)
      have HT1 := Lib.hid (HT.out k h1 hk wr K.out.2.1)
      by_cases hc : s.hd.text = signS k
      · have hcc : s.comes (signS k) = true := decide_eq_true hc
        rw [hcc] at HT1
        simp only [if_true] at HT1
        have HR := Lib.hid (show s.rel = (s.pass, k) by
          have e := (sign_nat k h1 hk).2 _ hc
          unfold RS.rel
          rw [e, if_neg (by omega)])
        generalize signS (k : Int) = sg at *
        have k1 : (1 : Int) ≤ k := by omega
        have k2 : (k : Int) ≤ 6 := by omega
        clear hc hcc
        go_wp2_with fail
        refine HG1.out.mono ?_
        rintro e w2 ⟨rfl, rfl⟩
        go_wp2_with fail
        refine HT1.out.mono ?_
        rintro e w3 ⟨rfl, hr⟩
        go_wp2_with fail
        go_ret
        rw [HR.out]
        exact ⟨rfl, K.out.2.then hr⟩
      · have hcc : s.comes (signS k) = false := decide_eq_false hc
        rw [hcc] at HT1
        simp only [Bool.false_eq_true, if_false] at HT1
        have HN := Lib.hid (show ∀ j : Nat, 1 ≤ j → j < k + 1 → ¬ s.hd.text = signS j from fun j hj1 hj2 => by
          rcases Nat.lt_or_ge j k with h | h
          · exact K.out.1 j hj1 h
          · obtain rfl : j = k := by omega
            exact hc)
        generalize signS (k : Int) = sg at *
        have k1 : (1 : Int) ≤ k := by omega
        have k2 : (k : Int) ≤ 6 := by omega
        clear hc hcc
        go_wp2_with fail
        refine HG1.out.mono ?_
        rintro e w2 ⟨rfl, rfl⟩
        go_wp2_with fail
        refine HT1.out.mono ?_
        rintro e w3 ⟨rfl, hr⟩
        have R3 := Lib.hid (K.out.2.then hr)
        clear hr
        go_wp2_with fail
        go_roundw
        case rel => exact ⟨k + 1, by go_num, by omega, by omega, Lib.hid ⟨HN.out, R3.out⟩⟩
        case measure => simp [intOf]; omega
    · obtain rfl : k = 7 := by omega
      have HR := Lib.hid (show s.rel = (s, 0) by
        have e := relT_no (t := s.hd.text) (fun j h1 h2 => K.out.1 j h1 (by omega))
        unfold RS.rel
        rw [if_pos e])
      go_wp2_with fail
      go_ret
      rw [HR.out]
      exact ⟨rfl, K.out.2⟩
end Go.Proofs.YtppigamibgefaaaGreatDoor
namespace Go.Proofs.YtppigamibgefaaaGreatDoor
open Go.RowKit

/-- The rest of a list, behind k things. -/
def restL {β : Type} (most : Nat) (nx : RS → RS × β) (k : Nat) (st : RS) (acc : List β) : RS × List β :=
  if k = 0 then listF most nx (most + 1) st acc
  else if st.comes bComma then listF most nx (most + 1 - k) st.pass acc else (st, acc)
theorem listF_step {β : Type} (most : Nat) (nx : RS → RS × β) (k : Nat) (st : RS) (acc : List β) (hk : acc.length = k) (h : k < most) :
    listF most nx (most + 1 - k) st acc = restL most nx (k + 1) (nx st).1 (acc ++ [(nx st).2]) := by
  obtain ⟨f, hf⟩ : ∃ f, most + 1 - k = f + 1 := ⟨most - k, by omega⟩
  rw [hf, listF, if_neg (by omega)]
  unfold restL
  rw [if_neg (show ¬ k + 1 = 0 by omega), show most + 1 - (k + 1) = f by omega]
theorem listF_full {β : Type} (most : Nat) (nx : RS → RS × β) (st : RS) (acc : List β) (hk : acc.length = most) :
    listF most nx (most + 1 - most) st acc = (st.wrong 3, acc) := by
  rw [show most + 1 - most = 0 + 1 by omega, listF, if_pos hk]
set_option maxRecDepth 100000 in
set_option maxHeartbeats 1600000 in
theorem plist_any {β : Type} (R b deep most N : Nat) (p q : Value) (nx : RS → RS × β) (J : World → List β → Prop) (s : RS) (w : World) (h : RdA R b deep s w) (hj : J w []) (hm : most ≤ 100) (hm1 : 1 ≤ most)
    (hJ : ∀ W W' acc, J W acc → W.grownBy W' (some R) → J W' acc)
    (hE : ∀ args W, Sem.run Tryz.prog (callFunc N args) W = .ok (.enter N args) W)
    (hN : ∀ W st acc, RdA R b deep st W → J W acc → acc.length < most → Calls Tryz.prog N #[p, q] W fun e w' => e = .returned (.tuple #[]) ∧ RdA R b deep (nx st).1 w' ∧ J w' (acc ++ [(nx st).2])) :
    Calls Tryz.prog 84 #[.pointer (some ⟨R, 0, none⟩), .int .i64 most, .func (.func N) #[] #[p, q]] w fun e w' => e = .returned (.tuple #[]) ∧ RdA R b deep (listF most nx (most + 1) s []).1 w' ∧ J w' (listF most nx (most + 1) s []).2 := by
  have HN := Lib.hid hN
  have HJ := Lib.hid hJ
  have H0 := Lib.hid (And.intro h hj)
  have HT := Lib.hid (fun st W (hW : RdA R b deep st W) => took_any R b deep st bComma W hW (by decide))
  have HW := Lib.hid (fun st W (hW : RdA R b deep st W) => wrong_any R b deep st 3 W hW)
  obtain ⟨r, hr⟩ : ∃ r, r = listF most nx (most + 1) s [] := ⟨_, rfl⟩
  rw [← hr]
  have Hr := Lib.hid hr
  have m1 : (1 : Int) ≤ most := by omega
  have m2 : (most : Int) ≤ 100 := by omega
  clear h hj hJ hN hr
  go_enter Tryz.func84, Tryz.ntmps84
  go_wp2_with fail
  go_loopw [6] (fun s6 wr => ∃ k : Nat, s6 = .int .i64 k ∧ k ≤ most ∧ Hid (∃ st acc, RdA R b deep st wr ∧ J wr acc ∧ acc.length = k ∧ r = restL most nx k st acc)) (fun s6 _ => most + 1 - (intOf s6).toNat)
  case atStart => exact ⟨0, rfl, by omega, Lib.hid ⟨s, [], H0.out.1, H0.out.2, rfl, by rw [Hr.out]; unfold restL; rw [if_pos rfl]⟩⟩
  case round =>
    obtain ⟨k, rfl, hk, K⟩ := hrel
    obtain ⟨st, acc, hR, hA, hl, hrr⟩ := K.out
    by_cases h0 : k = 0
    · subst h0
      have HN1 := Lib.hid (HN.out wr st acc hR hA (by omega))
      have hrr2 : r = restL most nx 1 (nx st).1 (acc ++ [(nx st).2]) := by
        rw [hrr]; unfold restL; rw [if_pos rfl]
        exact listF_step most nx 0 st acc hl (by omega)
      have H2 := Lib.hid (And.intro hl hrr2)
      have z1 : ((0 : Int) == most) = false := by rw [beq_eq_false_iff_ne]; omega
      clear hR hA hl hrr hrr2 K
      go_wp2_with fail
      refine HN1.out.mono ?_
      rintro e w2 ⟨rfl, hR2, hA2⟩
      have H3 := Lib.hid (And.intro hR2 hA2)
      clear hR2 hA2
      go_wp2_with fail
      go_roundw
      case rel => exact ⟨1, by go_num, by omega, Lib.hid ⟨_, _, H3.out.1, H3.out.2, by simp [H2.out.1], H2.out.2⟩⟩
      case measure => simp [intOf]
    · have HT1 := Lib.hid (HT.out st wr hR)
      have k0 : ((k : Int) == 0) = false := by rw [beq_eq_false_iff_ne]; omega
      have k1 : (1 : Int) ≤ k := by omega
      cases hc : st.comes bComma with
      | false =>
        rw [hc] at HT1
        simp only [Bool.false_eq_true, if_false] at HT1
        have H2 := Lib.hid (show r = (st, acc) by
          rw [hrr]; unfold restL; rw [if_neg h0, if_neg (by simp [hc])])
        have HA := Lib.hid hA
        clear hR hA hl hrr hc K h0
        go_wp2_with fail
        refine HT1.out.mono ?_
        rintro e w2 ⟨rfl, hg⟩
        have G := Lib.hid hg
        clear hg
        go_wp2_with fail
        go_end0
        rw [H2.out]
        exact ⟨rfl, G.out.1, HJ.out _ _ _ HA.out G.out.2⟩
      | true =>
        rw [hc] at HT1
        simp only [if_true] at HT1
        have HA := Lib.hid hA
        have hrr2 : r = listF most nx (most + 1 - k) st.pass acc := by rw [hrr]; unfold restL; rw [if_neg h0, if_pos hc]
        have Hl := Lib.hid hl
        by_cases hm : k = most
        · subst hm
          have H2 := Lib.hid (hrr2.trans (listF_full k nx st.pass acc hl))
          clear hR hA hl hrr hrr2 hc K h0
          go_wp2_with fail
          refine HT1.out.mono ?_
          rintro e w2 ⟨rfl, hg⟩
          have G := Lib.hid hg
          clear hg
          go_wp2_with fail
          refine (HW.out _ _ G.out.1).mono ?_
          rintro e w3 ⟨rfl, hg3⟩
          have G3 := Lib.hid hg3
          clear hg3
          go_wp2_with fail
          refine bodyPost_ret (results_none rfl _ _ _) rfl ?_
          rw [H2.out]
          exact ⟨rfl, G3.out.1, HJ.out _ _ _ (HJ.out _ _ _ HA.out G.out.2) G3.out.2⟩
        · have H2 := Lib.hid (hrr2.trans (listF_step most nx k st.pass acc hl (by omega)))
          have km : ((k : Int) == most) = false := by rw [beq_eq_false_iff_ne]; omega
          clear hR hA hl hrr hrr2 hc K h0
          go_wp2_with fail
          refine HT1.out.mono ?_
          rintro e w2 ⟨rfl, hg⟩
          have G := Lib.hid hg
          have HN1 := Lib.hid (HN.out w2 st.pass acc hg.1 (HJ.out _ _ _ HA.out hg.2) (by have := Hl.out; omega))
          clear hg
          go_wp2_with fail
          refine HN1.out.mono ?_
          rintro e w3 ⟨rfl, hR2, hA2⟩
          have H3 := Lib.hid (And.intro hR2 hA2)
          clear hR2 hA2
          go_wp2_with fail
          go_roundw
          case rel => exact ⟨k + 1, by go_num, by omega, Lib.hid ⟨_, _, H3.out.1, H3.out.2, by simp [Hl.out], H2.out⟩⟩
          case measure => simp [intOf]; omega
end Go.Proofs.YtppigamibgefaaaGreatDoor
namespace Go.Proofs.YtppigamibgefaaaGreatDoor
open Go.RowKit

def Itm.c (x : Itm) : List Value := [.int .i64 x.agg, .string x.col, .int .i64 x.pos]
def Kyo.c (x : Kyo) : List Value := [.int .i64 x.item.agg, .string x.item.col, .int .i64 x.item.pos, .bool x.desc]
set_option maxRecDepth 100000 in
theorem pcolumn_any (R b deep : Nat) (s : RS) (w : World) (h : RdA R b deep s w) :
    Calls Tryz.prog 90 #[.pointer (some ⟨R, 0, none⟩)] w fun e w' => e = .returned (.agg (columnL s).2.c.toArray) ∧ RdGo R b deep (columnL s).1 w w' := by
  have HC := Lib.hid (fun W (hW : w.grownBy W none) => comes_any R b deep s W (h.keep hW))
  have HN := Lib.hid (fun W (hW : w.grownBy W none) => pname_any R b deep s W (h.keep hW))
  have HS := Lib.hid h
  unfold columnL Itm.c
  generalize s.hd.kind = kd at *
  generalize s.hd.text = tx at *
  generalize s.hd.pos = ps at *
  generalize s.name = nm at *
  obtain ⟨s1, n1⟩ := nm
  simp only at HN ⊢
  clear h
  go_enter Tryz.func90, Tryz.ntmps90
  have GA := Lib.hid (World.grownBy_alloc w (.cells #[.int .i64 0, .string ⟨#[]⟩, .int .i64 0] 81) none)
  go_wp2_with fail
  refine (HC.out _ GA.out).mono ?_
  rintro e w2 ⟨rfl, hg⟩
  have G2 := Lib.hid (GA.out.trans hg)
  have A2 := Lib.hid (blk_grown hg (heap_alloc_new w _))
  have t1 := field_tk2 (.int .i64 kd) (.string tx) (.int .i64 ps) w2
  clear hg
  go_wp2_with fail
  refine (HN.out _ G2.out).mono ?_
  rintro e w3 ⟨rfl, hr⟩
  have hRw := HS.out.lt'
  have A3 := hr.blk A2.out (by omega)
  have R3 := Lib.hid hr
  obtain ⟨⟨a0, a1, a2⟩, b0, b1, b2⟩ := three_of A3
  have HA3 := Lib.hid A3
  clear hr A3 hRw
  go_wp2_with fail
  exact bodyPost_ret (results_cell_row rfl _ _ w.heap.size 81 #[.int .i64 0, .string n1, .int .i64 ps] (0, 0) _ rfl (set3 HA3.out) Tryz.underlying81 rfl (by kernel_rfl)) rfl ⟨rfl, RdGo.stored HS.out ⟨R3.out.1, G2.out.trans' R3.out.2⟩ (Nat.le_refl _) (grown3 _ _ _ _ _)⟩
theorem aggT_cases (t : ByteArray) : (t = bCount ∧ aggT t = 2) ∨ (¬ t = bCount ∧ t = bSum ∧ aggT t = 3) ∨ (¬ t = bCount ∧ ¬ t = bSum ∧ t = bMin ∧ aggT t = 4) ∨ (¬ t = bCount ∧ ¬ t = bSum ∧ ¬ t = bMin ∧ t = bMax ∧ aggT t = 5) ∨ (¬ t = bCount ∧ ¬ t = bSum ∧ ¬ t = bMin ∧ ¬ t = bMax ∧ aggT t = 0) := by
  unfold aggT
  by_cases h1 : t = bCount
  · exact .inl ⟨h1, if_pos h1⟩
  · rw [if_neg h1]
    by_cases h2 : t = bSum
    · exact .inr (.inl ⟨h1, h2, if_pos h2⟩)
    · rw [if_neg h2]
      by_cases h3 : t = bMin
      · exact .inr (.inr (.inl ⟨h1, h2, h3, if_pos h3⟩))
      · rw [if_neg h3]
        by_cases h4 : t = bMax
        · exact .inr (.inr (.inr (.inl ⟨h1, h2, h3, h4, if_pos h4⟩)))
        · exact .inr (.inr (.inr (.inr ⟨h1, h2, h3, h4, if_neg h4⟩)))
theorem took_yes (R b deep : Nat) (s : RS) (t : ByteArray) (w : World) (h : RdA R b deep s w) (ht : t ≠ ⟨#[]⟩) (hc : s.comes t = true) :
    Calls Tryz.prog 83 #[.pointer (some ⟨R, 0, none⟩), .string t] w fun e w' => e = .returned (.bool true) ∧ RdGo R b deep s.pass w w' := by
  have := took_any R b deep s t w h ht
  rw [hc] at this
  exact this
theorem took_no (R b deep : Nat) (s : RS) (t : ByteArray) (w : World) (h : RdA R b deep s w) (ht : t ≠ ⟨#[]⟩) (hc : s.comes t = false) :
    Calls Tryz.prog 83 #[.pointer (some ⟨R, 0, none⟩), .string t] w fun e w' => e = .returned (.bool false) ∧ RdGo R b deep s w w' := by
  have := took_any R b deep s t w h ht
  rw [hc] at this
  exact this
theorem comes_yes {s : RS} {t : ByteArray} (h : s.hd.text = t) : s.comes t = true := decide_eq_true h
theorem comes_no {s : RS} {t : ByteArray} (h : ¬ s.hd.text = t) : s.comes t = false := decide_eq_false h
set_option maxRecDepth 100000 in
theorem pagg_any (R b deep : Nat) (s : RS) (w : World) (h : RdA R b deep s w) :
    Calls Tryz.prog 120 #[.pointer (some ⟨R, 0, none⟩)] w fun e w' => e = .returned (.int .i64 (aggT s.hd.text : Nat)) ∧ RdGo R b deep (if aggT s.hd.text = 0 then s else s.pass) w w' := by
  have HY := Lib.hid (fun t (ht : t ≠ ⟨#[]⟩) (hc : s.comes t = true) W (hW : RdA R b deep s W) => took_yes R b deep s t W hW ht hc)
  have HN := Lib.hid (fun t (ht : t ≠ ⟨#[]⟩) (hc : s.comes t = false) W (hW : RdA R b deep s W) => took_no R b deep s t W hW ht hc)
  have HS := Lib.hid h
  rcases aggT_cases s.hd.text with ⟨h1, e⟩ | ⟨h1, h2, e⟩ | ⟨h1, h2, h3, e⟩ | ⟨h1, h2, h3, h4, e⟩ | ⟨h1, h2, h3, h4, e⟩
  · rw [e]
    have H1 := Lib.hid (HY.out bCount (by decide) (comes_yes h1))
    clear h h1 e HY HN
    go_enter Tryz.func120, Tryz.ntmps120
    go_wp2_with fail
    refine (H1.out _ HS.out).mono ?_
    rintro e w2 ⟨rfl, hr⟩
    go_wp2_with fail
    go_ret
    exact ⟨rfl, hr⟩
  · rw [e]
    have H1 := Lib.hid (HN.out bCount (by decide) (comes_no h1))
    have H2 := Lib.hid (HY.out bSum (by decide) (comes_yes h2))
    clear h h1 h2 e HY HN
    go_enter Tryz.func120, Tryz.ntmps120
    go_wp2_with fail
    refine (H1.out _ HS.out).mono ?_
    rintro e w2 ⟨rfl, hr⟩
    have R2 := Lib.hid hr
    clear hr
    go_wp2_with fail
    refine (H2.out _ R2.out.1).mono ?_
    rintro e w3 ⟨rfl, hr⟩
    go_wp2_with fail
    go_ret
    exact ⟨rfl, R2.out.then hr⟩
  · rw [e]
    have H1 := Lib.hid (HN.out bCount (by decide) (comes_no h1))
    have H2 := Lib.hid (HN.out bSum (by decide) (comes_no h2))
    have H3 := Lib.hid (HY.out bMin (by decide) (comes_yes h3))
    clear h h1 h2 h3 e HY HN
    go_enter Tryz.func120, Tryz.ntmps120
    go_wp2_with fail
    refine (H1.out _ HS.out).mono ?_
    rintro e w2 ⟨rfl, hr⟩
    have R2 := Lib.hid hr
    clear hr
    go_wp2_with fail
    refine (H2.out _ R2.out.1).mono ?_
    rintro e w3 ⟨rfl, hr⟩
    have R3 := Lib.hid (R2.out.then hr)
    clear hr
    go_wp2_with fail
    refine (H3.out _ R3.out.1).mono ?_
    rintro e w4 ⟨rfl, hr⟩
    go_wp2_with fail
    go_ret
    exact ⟨rfl, R3.out.then hr⟩
  · rw [e]
    have H1 := Lib.hid (HN.out bCount (by decide) (comes_no h1))
    have H2 := Lib.hid (HN.out bSum (by decide) (comes_no h2))
    have H3 := Lib.hid (HN.out bMin (by decide) (comes_no h3))
    have H4 := Lib.hid (HY.out bMax (by decide) (comes_yes h4))
    clear h h1 h2 h3 h4 e HY HN
    go_enter Tryz.func120, Tryz.ntmps120
    go_wp2_with fail
    refine (H1.out _ HS.out).mono ?_
    rintro e w2 ⟨rfl, hr⟩
    have R2 := Lib.hid hr
    clear hr
    go_wp2_with fail
    refine (H2.out _ R2.out.1).mono ?_
    rintro e w3 ⟨rfl, hr⟩
    have R3 := Lib.hid (R2.out.then hr)
    clear hr
    go_wp2_with fail
    refine (H3.out _ R3.out.1).mono ?_
    rintro e w4 ⟨rfl, hr⟩
    have R4 := Lib.hid (R3.out.then hr)
    clear hr
    go_wp2_with fail
    refine (H4.out _ R4.out.1).mono ?_
    rintro e w5 ⟨rfl, hr⟩
    go_wp2_with fail
    go_ret
    exact ⟨rfl, R4.out.then hr⟩
  · rw [e]
    have H1 := Lib.hid (HN.out bCount (by decide) (comes_no h1))
    have H2 := Lib.hid (HN.out bSum (by decide) (comes_no h2))
    have H3 := Lib.hid (HN.out bMin (by decide) (comes_no h3))
    have H4 := Lib.hid (HN.out bMax (by decide) (comes_no h4))
    clear h h1 h2 h3 h4 e HY HN
    go_enter Tryz.func120, Tryz.ntmps120
    go_wp2_with fail
    refine (H1.out _ HS.out).mono ?_
    rintro e w2 ⟨rfl, hr⟩
    have R2 := Lib.hid hr
    clear hr
    go_wp2_with fail
    refine (H2.out _ R2.out.1).mono ?_
    rintro e w3 ⟨rfl, hr⟩
    have R3 := Lib.hid (R2.out.then hr)
    clear hr
    go_wp2_with fail
    refine (H3.out _ R3.out.1).mono ?_
    rintro e w4 ⟨rfl, hr⟩
    have R4 := Lib.hid (R3.out.then hr)
    clear hr
    go_wp2_with fail
    refine (H4.out _ R4.out.1).mono ?_
    rintro e w5 ⟨rfl, hr⟩
    go_wp2_with fail
    go_ret
    exact ⟨rfl, R4.out.then hr⟩
end Go.Proofs.YtppigamibgefaaaGreatDoor
