/- The store's Catalog: memory of one's own. The laws' Tells at a store just made. The law StoreNews walked. PROVED: the card of StoreNews: at every input, in whatever memory that meets the row's listed variables (which the card ties to the program's text), the call returns true and its arguments read as they did. No condition of our own. -/
import Derived.Test.YtaggacffjbjchaaGreatDoorStBbZ
import Derived.Test.YtaggacffjbjchaaGreatDoorZa34
import Derived.Test.YtaggacffjbjchaaGreatDoorZa22
import Derived.Deep.RegionHeld
import Derived.Test.YtaggacffjbjchaaGreatDoorZa10
import Derived.Test.YtaggacffjbjchaaGreatDoorZa01
import Derived.Test.YtaggacffjbjchaaGreatDoorCards
import Derived.Test.YtaggacffjbjchaaGreatDoorTie
import Derived.SevenTiedAt
namespace Go.Proofs.YtaggacffjbjchaaGreatDoor
open Go.RowKit

set_option maxRecDepth 100000 in
set_option maxHeartbeats 6400000 in
theorem copiedO_any (S : Nat → Prop) (a : Ptr) (cap : Nat) (l : List Tb) (w : World) (h : TbsS S w a l) (hl : l.length ≤ 100) (hcl : ∀ t ∈ l, t.l.length ≤ 100) :
    Calls Tryz.prog 37 #[.slice a l.length cap] w fun e w' => (∃ (a' : Ptr) (cap' : Nat) (l' : List Tb), e = .returned (.slice a' l.length cap') ∧ l'.map Tb.p = l.map Tb.p ∧ w'.ownsRow w.heap.size 38 3 (.slice a' l.length cap') l.length (l'.flatMap Tb.c)) ∧ w.grownBy w' none := by
  have HC := Lib.hid (cloneTb_any S a cap l w h hl)
  have HR := Lib.hid (fun k (hk : k < l.length) W (hW : Below w.heap.size w W) => cloneCl_any S (l.getD k default).a (l.getD k default).cap (l.getD k default).l W ((h.2.1 _ (tb_mem hk)).keep (.of (grown_belowT hW none))) (hcl _ (tb_mem hk)))
  obtain ⟨n, hn⟩ : ∃ n, n = l.length := ⟨_, rfl⟩
  have Hn := Lib.hid hn
  rw [← hn] at HC HR hl ⊢
  clear h hn hcl
  go_enter Tryz.func37, Tryz.ntmps37
  go_wp2_with fail
  refine HC.out.mono ?_
  rintro e w1 ⟨⟨a', cap', rfl, hcap', hown⟩, hg1⟩
  have I0 := Lib.hid (show CopT (fun b => w.heap.size ≤ b ∧ ¬ bk a' b) 0 w1 l [] ∧ w1.ownsRow w.heap.size 38 3 (.slice a' n cap') n (([] ++ l.drop 0).flatMap Tb.c) ∧ Below w.heap.size w w1 from ⟨⟨rfl, Nat.zero_le _, by simp, by simp⟩, by simpa using hown, below_grownT hg1⟩)
  clear hg1 hown
  go_wp2_with fail
  go_loopw [8] (fun i wr => ∃ k : Nat, i = .int .i64 k ∧ k ≤ n ∧ Hid (∃ D, CopT (fun b => w.heap.size ≤ b ∧ ¬ bk a' b) k wr l D ∧ wr.ownsRow w.heap.size 38 3 (.slice a' n cap') n ((D ++ l.drop k).flatMap Tb.c) ∧ Below w.heap.size w wr)) (fun i _ => n - (intOf i).toNat)
  case atStart => exact ⟨0, rfl, by omega, Lib.hid ⟨[], I0.out⟩⟩
  case round =>
    obtain ⟨k, rfl, hk, I⟩ := hrel
    obtain ⟨D, hD, hown, hb⟩ := I.out
    by_cases hlt : k < n
    · obtain ⟨g, cp, e, hgB, hgl⟩ := World.ownsRow.form hown (by omega)
      obtain ⟨rfl, rfl⟩ : a' = some ⟨g, 0, none⟩ ∧ cap' = cp := by simpa using e
      have hkl : k < l.length := by rw [← Hn.out]; exact hlt
      have HX := Lib.hid (HR.out k hlt)
      have hd := tb_drop hkl
      have hlen1 := hD.len
      have hcl := tb_len D
      have c1 := World.ownsRow.cellAt hown (k * 3 + 1) (by omega)
      rw [List.flatMap_append, List.getElem?_append_right (by omega), hcl, hlen1, show k * 3 + 1 - k * 3 = 1 by omega, hd] at c1
      simp only [List.flatMap_cons, Tb.c, List.cons_append, List.getElem?_cons_zero, List.getElem?_cons_succ] at c1
      obtain ⟨x, hx⟩ : ∃ x, x = l.getD k default := ⟨_, rfl⟩
      rw [← hx] at c1 hd HX
      have Hx := Lib.hid (And.intro hx (And.intro hD (And.intro hb (And.intro hown hd))))
      obtain ⟨xn, xa, xc, xl, xk⟩ := x
      simp only at c1 HX
      obtain ⟨q, hq⟩ : ∃ q, q = xl.length := ⟨_, rfl⟩
      rw [← hq] at c1 HX
      have Hq := Lib.hid hq
      have HXb := Lib.hid (HX.out wr hb)
      clear hx hD hb hown hd I hq hcl
      go_wp2_with fail
      refine HXb.out.mono ?_
      rintro e w2 ⟨⟨ya, yc, rfl, hyc, hys⟩, hg2⟩
      have c2 := hg2.cell c1 (by simp)
      have f2 : w2.frozen? ⟨g, k * 3 + 1, none⟩ = false := World.ownsRow.frozenAt (World.ownsRow.kept Hx.out.2.2.2.1 hg2 (.inr (by simp [Value.ownBlock]))) _
      have Z := Lib.hid (And.intro hyc (And.intro hys hg2))
      clear c1 hys hg2 hyc
      go_wp2_with fail
      go_roundw
      case rel =>
        obtain ⟨hyc, hys, hg2⟩ := Z.out
        obtain ⟨hx, hD, hb, hown, hd⟩ := Hx.out
        have h5 := World.ownsRow.stored (World.ownsRow.kept hown hg2 (.inr (by simp [Value.ownBlock]))) (k * 3 + 1) (.slice ya q yc)
        have h6 := copT_set D (l.drop (k + 1)) ⟨xn, xa, xc, xl, xk⟩ ya yc k hlen1
        simp only at h6
        rw [← Hq.out] at h6
        rw [hd, h6] at h5
        have hst : Stays (fun b => w.heap.size ≤ b ∧ ¬ bk (some ⟨g, 0, none⟩ : Ptr) b) w2 (w2.setCell ⟨g, k * 3 + 1, none⟩ (.slice ya q yc)) := (Only.one g w2 _ _).stays (fun b hb _ e => hb.2 (by rw [bk_some]; exact e.symm))
        refine ⟨k + 1, by go_num, by omega, Lib.hid ⟨D ++ [⟨(l.getD k default).n, ya, yc, (l.getD k default).l, (l.getD k default).k⟩], ?_, ?_, ?_⟩⟩
        · refine ((hD.keep (.of hg2)).keep hst).push hkl ?_ (by rw [← hx]; simp only; rw [← Hq.out]; exact hyc)
          rw [← hx]
          exact (hys.mono (fun b _ hb5 => ⟨by have := hb.size; omega, fun e => by rw [bk_some] at e; omega⟩)).keep hst
        · rw [List.append_assoc, ← hx]
          exact h5.1
        · exact (hb.trans ((below_grownT hg2).mono hb.size)).setCell (p := ⟨g, _, none⟩) hgB _
      case measure => simp [intOf]; omega
    · obtain rfl : k = n := by omega
      go_wp2_with fail
      go_ret
      have hkl : k = l.length := Hn.out
      have hd0 : l.drop k = [] := List.drop_of_length_le (by omega)
      rw [hd0, List.append_nil] at hown
      have hs := hD.same
      rw [List.take_of_length_le (by omega)] at hs
      exact ⟨⟨a', cap', D, rfl, hs, hown⟩, grown_belowT hb none⟩
set_option maxRecDepth 100000 in
set_option maxHeartbeats 3200000 in
theorem catalogO_any (B : Nat) (s : Stm) (w : World) (h : SAt B w s) :
    Calls Tryz.prog 12 #[.pointer (some ⟨s.b, 0, none⟩)] w fun e w' => (∃ (a' : Ptr) (cap' : Nat) (l' : List Tb), e = .returned (.slice a' s.ts.length cap') ∧ l'.map Tb.p = s.ts.map Tb.p ∧ w'.ownsRow w.heap.size 38 3 (.slice a' s.ts.length cap') s.ts.length (l'.flatMap Tb.c)) ∧ w.grownBy w' none := by
  have HL := Lib.hid (last_any B s w h)
  have HC := Lib.hid (fun W (hW : w.grownBy W none) => copiedO_any (fun b => ¬ s.M b) s.ca s.cc s.ts W (h.cat.keep (.of hW)) h.tsl.1 h.tsl.2)
  clear h
  unfold snV at HL
  go_enter Tryz.func12, Tryz.ntmps12
  go_wp2_with fail
  refine HL.out.mono ?_
  rintro e w2 ⟨rfl, hg2⟩
  have F1 := field_sn0 s.ca s.ts.length s.cc s.top.v (s.top.ps 0) (s.top.ps 1) (s.top.ps 2) (s.top.ps 3) (s.top.ps 4) (s.top.ps 5) w2
  go_wp2_with fail
  refine (HC.out _ hg2).mono ?_
  rintro e w3 ⟨⟨a', cap', l', rfl, h1, h2⟩, hg3⟩
  go_wp2_with fail
  go_ret
  exact ⟨⟨a', cap', l', rfl, h1, ⟨h2.1, h2.2.imp id fun ⟨g, cp, cu, e1, e2, e3⟩ => ⟨g, cp, cu, e1, Nat.le_trans hg2.size e2, e3⟩⟩⟩, hg2.trans hg3⟩
end Go.Proofs.YtaggacffjbjchaaGreatDoor
namespace Go.Proofs.YtaggacffjbjchaaGreatDoor
open Go.RowKit

theorem name_q : nameB ⟨#[63]⟩ = false := by decide +kernel
theorem bytes_of {a b : ByteArray} (h : (a.toList == b.toList) = true) : a = b := by
  rw [beq_iff_eq, Lib.toList_data, Lib.toList_data] at h
  exact ByteArray.ext (Array.toList_inj.1 h)
theorem noQ {ts : List Tb} (hc : CatOk ts) {k : Nat} (h : TxIs ⟨#[63]⟩ ts k) : False := by
  rcases h with ⟨h, _⟩ | ⟨i, e, hi, hb, _⟩
  · omega
  · have hn := hc.name i hi
    rw [bytes_of hb, name_q] at hn
    cases hn
theorem isT {ts : List Tb} {i : Nat} (hi : i < ts.length) (h : TxIs (ts.getD i default).n ts (-1)) : False := by
  rcases h.tabI with ⟨_, h⟩ | ⟨k, e, _⟩
  · unfold tabI at h
    rw [List.findIdx?_eq_none_iff] at h
    have := h (ts.getD i default) (tb_mem hi)
    simp at this
  · omega
set_option maxRecDepth 100000 in
set_option maxHeartbeats 12800000 in
theorem tellsF_any (S : Nat → Prop) (a ca : Ptr) (n cap cc p pp q : Nat) (l ts : List Tb) (x : Sn) (w : World) (hp : Snp S w p ca cc ts x) (hx : x.v = 0) (hxt : x.tr = fun _ => .nil) (hc : CatOk ts) (hl : ts.map Tb.p = l.map Tb.p) (hn : n = l.length) (hcap : n ≤ cap) (hT : TabsAt w.heap.size w a l)
    (h0 : w.cell? ⟨pp, 0, none⟩ = some (.slice (some ⟨q, 0, none⟩) n n)) (h1 : ∀ i, i < n → w.cell? ⟨q, i, none⟩ = some (.slice none 0 0)) :
    Calls Tryz.prog 14 #[.pointer (some ⟨p, 0, none⟩), .agg #[.slice a n cap, .slice (some ⟨pp, 0, none⟩) 1 1, .slice none 0 0], .int .i64 0] w fun e w' => e = .returned (.bool true) ∧ w.grownBy w' none := by
  have hlt : ts.length = n := by rw [hn]; have := congrArg List.length hl; simpa using this
  have hsix := hc.six
  have htr : TrsOk x.tr 200 := fun i _ => by rw [hxt]; exact ⟨trivial, List.Pairwise.nil, Nat.zero_le _⟩
  have gB := World.grownBy_alloc w (.cells #[.slice a n cap, .slice (some ⟨pp, 0, none⟩) 1 1, .slice none 0 0] 32) none
  have bB := heap_alloc_new w (.cells #[.slice a n cap, .slice (some ⟨pp, 0, none⟩) 1 1, .slice none 0 0] 32)
  have HV := Lib.hid (fun W (hW : (w.alloc (.cells #[.slice a n cap, .slice (some ⟨pp, 0, none⟩) 1 1, .slice none 0 0] 32)).grownBy W none) => by have h := versionP_any S p ca cc ts x W (hp.keep (.of (gB.trans hW))); rw [hx] at h; exact h)
  have HCt := Lib.hid (fun W (hW : (w.alloc (.cells #[.slice a n cap, .slice (some ⟨pp, 0, none⟩) 1 1, .slice none 0 0] 32)).grownBy W none) => show Calls Tryz.prog 40 #[.pointer (some ⟨p, 0, none⟩)] W (fun e w' => (∃ (a' : Ptr) (cap' : Nat), e = .returned (.slice a' n cap')) ∧ W.grownBy w' none) from (catalogP_any S p ca cc ts x W (hp.keep (.of (gB.trans hW))) (by omega) (fun t ht => by obtain ⟨i, hi, rfl⟩ := List.getElem_of_mem ht; have := (hc.tab i hi).2.2.1; simp only [List.getD, List.getElem?_eq_getElem hi, Option.getD_some] at this; omega)).mono fun e w' ⟨⟨a', cap', l', e1, _⟩, h2⟩ => ⟨⟨a', cap', by rw [e1, hlt]⟩, h2⟩)
  have HP := Lib.hid (fun W (hW : (w.alloc (.cells #[.slice a n cap, .slice (some ⟨pp, 0, none⟩) 1 1, .slice none 0 0] 32)).grownBy W none) => hp.keep (.of (gB.trans hW)))
  have BB := Lib.hid (fun W (hW : (w.alloc (.cells #[.slice a n cap, .slice (some ⟨pp, 0, none⟩) 1 1, .slice none 0 0] 32)).grownBy W none) => (hW.block _ (Array.getElem?_eq_some_iff.1 bB).1 (by simp)).trans bB)
  have SS := Lib.hid (fun W (hW : (w.alloc (.cells #[.slice a n cap, .slice (some ⟨pp, 0, none⟩) 1 1, .slice none 0 0] 32)).grownBy W none) => show W.cell? ⟨w.heap.size, 0, none⟩ = some (.slice a n cap) from cell_of_row _ _ 0 _ _ _ (BB.out W hW))
  have HT := Lib.hid (fun W (hW : (w.alloc (.cells #[.slice a n cap, .slice (some ⟨pp, 0, none⟩) 1 1, .slice none 0 0] 32)).grownBy W none) => TbsS.of ((hT.keep (gB.trans hW) (by simp)).mono (gB.trans hW).size))
  have HC := Lib.hid (fun W (hW : (w.alloc (.cells #[.slice a n cap, .slice (some ⟨pp, 0, none⟩) 1 1, .slice none 0 0] 32)).grownBy W none) => show W.cell? ⟨pp, 0, none⟩ = some (.slice (some ⟨q, 0, none⟩) n n) ∧ (∀ i, i < n → W.cell? ⟨q, i, none⟩ = some (.slice none 0 0)) from ⟨(gB.trans hW).cell h0 (by simp), fun i hi => (gB.trans hW).cell (h1 i hi) (by simp)⟩)
  have HH := Lib.hid (And.intro hc (And.intro hl (And.intro hn (And.intro hlt (And.intro htr (And.intro hxt gB))))))
  clear hp hx hxt hc hl hlt htr gB bB hT h0 h1 hn
  go_enter Tryz.func14, Tryz.ntmps14
  go_wp2_with fail
  refine wp_region_held_drew (S := (fun W => W.cell? ⟨w.heap.size, 0, none⟩ = some (.slice a n cap))) (by kernel_rfl) (SS.out _ (grown_drewT (grown_reflT _ none))) (fun hHeld => ?_)
  refine wpAnyH_take (i := 0) (v := ?va0) rfl (by kernel_rfl) (by kernel_rfl) (by kernel_rfl) (fun _ _ _ h => h) (Or.inl ⟨by rfl, ?ya0⟩) (by assumption) ?ra0
  case ya0 => (intro w hSw; (try dsimp only at hSw); go_simp; try with_reducible rfl)
  simp only [Act.put, List.getElem_toArray, List.getElem_cons_zero, List.size_toArray, List.length_cons, List.length_nil, Nat.reduceAdd, Array.replicate, List.replicate, List.setIfInBounds_toArray, List.set_cons_zero, List.set_cons_succ]
  refine wpAnyH_take (i := 1) (v := ?va1) rfl (by kernel_rfl) (by kernel_rfl) (by kernel_rfl) (fun _ _ _ h => h) (Or.inl ⟨by rfl, ?ya1⟩) (by assumption) ?ra1
  case ya1 => (intro w hSw; (try dsimp only at hSw); go_simp; try with_reducible rfl)
  simp only [Act.put, List.getElem_toArray, List.getElem_cons_succ, List.getElem_cons_zero, List.setIfInBounds_toArray, List.set_cons_zero, List.set_cons_succ]
  refine wpAnyH_take (i := 2) (v := ?va2) rfl (by kernel_rfl) (by kernel_rfl) (by kernel_rfl) (fun _ _ _ h => h) (Or.inl ⟨by rfl, ?ya2⟩) (by assumption) ?ra2
  case ya2 => (intro w hSw; (try dsimp only at hSw); go_simp; try with_reducible rfl)
  simp only [Act.put, List.getElem_toArray, List.getElem_cons_succ, List.getElem_cons_zero, List.setIfInBounds_toArray, List.set_cons_zero, List.set_cons_succ]
  refine wpAnyH_take (i := 3) (v := ?va3) rfl (by kernel_rfl) (by kernel_rfl) (by kernel_rfl) (fun _ _ _ h => h) (Or.inl ⟨by rfl, ?ya3⟩) (by assumption) ?ra3
  case ya3 => (intro w hSw; (try dsimp only at hSw); go_simp; try with_reducible rfl)
  simp only [Act.put, List.getElem_toArray, List.getElem_cons_succ, List.getElem_cons_zero, List.setIfInBounds_toArray, List.set_cons_zero, List.set_cons_succ]
  refine wpAnyH_take (i := 5) (v := ?va5) rfl (by kernel_rfl) (by kernel_rfl) (by kernel_rfl) (fun _ _ _ h => h) (Or.inl ⟨by rfl, ?ya5⟩) (by assumption) ?ra5
  case ya5 => (intro w hSw; (try dsimp only at hSw); go_simp; try with_reducible rfl)
  simp only [Act.put, List.getElem_toArray, List.getElem_cons_succ, List.getElem_cons_zero, List.setIfInBounds_toArray, List.set_cons_zero, List.set_cons_succ]
  refine wpAnyH_ready (rs := [4]) (by kernel_rfl) (by simp) ?_
  refine AllReadyH.cons rfl (fun K' hK => ?_) AllReadyH.nil
  go_simp
  go_at_call 22
  refine (HV.out _ (grown_drewT (grown_reflT _ none))).mono ?_
  rintro e wv ⟨rfl, rfl⟩
  refine hK.out _ _ (SS.out _ (grown_drewT (grown_reflT _ none))) (fun hHeld => ?_)
  clear hK K'
  simp only [List.setIfInBounds_toArray, List.set_cons_zero, List.set_cons_succ]
  refine wpAnyH_take (i := 6) (v := ?va6) rfl (by kernel_rfl) (by kernel_rfl) (by kernel_rfl) (fun _ _ _ h => h) (Or.inl ⟨by rfl, ?ya6⟩) (by assumption) ?ra6
  case ya6 => (intro w hSw; (try dsimp only at hSw); go_simp; try with_reducible rfl)
  simp only [Act.put, List.getElem_toArray, List.getElem_cons_succ, List.getElem_cons_zero, List.setIfInBounds_toArray, List.set_cons_zero, List.set_cons_succ]
  refine wpAnyH_take (i := 7) (v := ?va7) rfl (by kernel_rfl) (by kernel_rfl) (by kernel_rfl) (fun _ _ _ h => h) (Or.inl ⟨by rfl, ?ya7⟩) (by assumption) ?ra7
  case ya7 => (intro w hSw; (try dsimp only at hSw); go_simp; try with_reducible rfl)
  simp only [Act.put, List.getElem_toArray, List.getElem_cons_succ, List.getElem_cons_zero, List.setIfInBounds_toArray, List.set_cons_zero, List.set_cons_succ]
  refine wpAnyH_take (i := 8) (v := ?va8) rfl (by kernel_rfl) (by kernel_rfl) (by kernel_rfl) (fun _ _ _ h => h) (Or.inl ⟨by rfl, ?ya8⟩) (by assumption) ?ra8
  case ya8 => (intro w hSw; (try dsimp only at hSw); go_simp; try with_reducible rfl)
  simp only [Act.put, List.getElem_toArray, List.getElem_cons_succ, List.getElem_cons_zero, List.setIfInBounds_toArray, List.set_cons_zero, List.set_cons_succ]
  refine wpAnyH_take (i := 9) (v := ?va9) rfl (by kernel_rfl) (by kernel_rfl) (by kernel_rfl) (fun _ _ _ h => h) (Or.inl ⟨by rfl, ?ya9⟩) (by assumption) ?ra9
  case ya9 => (intro w hSw; (try dsimp only at hSw); go_simp; try with_reducible rfl)
  simp only [Act.put, List.getElem_toArray, List.getElem_cons_succ, List.getElem_cons_zero, List.setIfInBounds_toArray, List.set_cons_zero, List.set_cons_succ]
  refine wpAnyH_take (i := 12) (v := ?va12) rfl (by kernel_rfl) (by kernel_rfl) (by kernel_rfl) (fun _ _ _ h => h) (Or.inl ⟨by rfl, ?ya12⟩) (by assumption) ?ra12
  case ya12 => (intro w hSw; (try dsimp only at hSw); go_simp; try with_reducible rfl)
  simp only [Act.put, List.getElem_toArray, List.getElem_cons_succ, List.getElem_cons_zero, List.setIfInBounds_toArray, List.set_cons_zero, List.set_cons_succ]
  refine wpAnyH_take (i := 13) (v := ?va13) rfl (by kernel_rfl) (by kernel_rfl) (by kernel_rfl) (fun _ _ _ h => h) (Or.inl ⟨by rfl, ?ya13⟩) (by assumption) ?ra13
  case ya13 => (intro w hSw; (try dsimp only at hSw); go_simp; try with_reducible rfl)
  simp only [Act.put, List.getElem_toArray, List.getElem_cons_succ, List.getElem_cons_zero, List.setIfInBounds_toArray, List.set_cons_zero, List.set_cons_succ]
  refine wpAnyH_take (i := 14) (v := ?va14) rfl (by kernel_rfl) (by kernel_rfl) (by kernel_rfl) (fun _ _ _ h => h) (Or.inl ⟨by rfl, ?ya14⟩) (by assumption) ?ra14
  case ya14 => (intro w hSw; (try dsimp only at hSw); go_simp; try with_reducible rfl)
  simp only [Act.put, List.getElem_toArray, List.getElem_cons_succ, List.getElem_cons_zero, List.setIfInBounds_toArray, List.set_cons_zero, List.set_cons_succ]
  refine wpAnyH_ready (rs := [10]) (by kernel_rfl) (by simp) ?_
  refine AllReadyH.cons rfl (fun K' hK => ?_) AllReadyH.nil
  go_simp
  go_at_call 40
  refine (HCt.out _ (grown_drewT (grown_reflT _ none))).mono ?_
  rintro e w3 ⟨⟨a', cap', rfl⟩, hg3⟩
  have G3 := Lib.hid ((grown_drewT (grown_reflT _ none)).trans hg3)
  clear hg3
  refine hK.out _ _ (SS.out _ G3.out) (fun hHeld => ?_)
  clear hK K'
  simp only [List.setIfInBounds_toArray, List.set_cons_zero, List.set_cons_succ]
  refine wpAnyH_take (i := 11) (v := ?va11) rfl (by kernel_rfl) (by kernel_rfl) (by kernel_rfl) (fun _ _ _ h => h) (Or.inl ⟨by rfl, ?ya11⟩) (by assumption) ?ra11
  case ya11 => (intro w hSw; (try dsimp only at hSw); go_simp; try with_reducible rfl)
  simp only [Act.put, List.getElem_toArray, List.getElem_cons_succ, List.getElem_cons_zero, List.setIfInBounds_toArray, List.set_cons_zero, List.set_cons_succ]
  refine wpAnyH_take (i := 15) (v := ?va15) rfl (by kernel_rfl) (by kernel_rfl) (by kernel_rfl) (fun _ _ _ h => h) (Or.inl ⟨by rfl, ?ya15⟩) (by assumption) ?ra15
  case ya15 => (intro w hSw; (try dsimp only at hSw); go_simp; try with_reducible rfl)
  simp only [Act.put, List.getElem_toArray, List.getElem_cons_succ, List.getElem_cons_zero, List.setIfInBounds_toArray, List.set_cons_zero, List.set_cons_succ]
  refine wpAnyH_take (i := 16) (v := ?va16) rfl (by kernel_rfl) (by kernel_rfl) (by kernel_rfl) (fun _ _ _ h => h) (Or.inl ⟨by rfl, ?ya16⟩) (by assumption) ?ra16
  case ya16 => (intro w hSw; (try dsimp only at hSw); go_simp; try with_reducible rfl)
  simp only [Act.put, List.getElem_toArray, List.getElem_cons_succ, List.getElem_cons_zero, List.setIfInBounds_toArray, List.set_cons_zero, List.set_cons_succ]
  refine wpAnyH_done (by kernel_rfl) ?_ _
  have hn6 : n ≤ 6 := by rw [← HH.out.2.2.2.1]; exact hsix
  have GB := Lib.hid (show (w.alloc (.cells #[.slice a n cap, .slice (some ⟨pp, 0, none⟩) 1 1, .slice none 0 0] 32)).grownBy w3 none from G3.out)
  go_wp2_with fail
  go_loopw [40] (fun s40 wr => ∃ i : Nat, s40 = .int .i64 i ∧ i ≤ n ∧ Hid ((w.alloc (.cells #[.slice a n cap, .slice (some ⟨pp, 0, none⟩) 1 1, .slice none 0 0] 32)).grownBy wr none)) (fun s40 _ => n - (intOf s40).toNat)
  case atStart => exact ⟨0, rfl, by omega, GB⟩
  case round =>
    obtain ⟨i, rfl, hi, K⟩ := hrel
    by_cases hlt : i < n
    · obtain ⟨tb, tof, hta, _, c0, c1, c2⟩ := (HT.out wr K.out).at (i := i) (by rw [← HH.out.2.2.1]; exact hlt)
      have hnm : (l.getD i default).n = (ts.getD i default).n := (congrArg (·.1) (p_at HH.out.2.1 i)).symm
      obtain ⟨nm, hnm2⟩ : ∃ nm, nm = (l.getD i default).n := ⟨_, rfl⟩
      have Nm := Lib.hid (show nm = (ts.getD i default).n from hnm2.trans hnm)
      rw [← hnm2] at c0
      generalize (l.getD i default).a = ta at *
      generalize (l.getD i default).l.length = tl at *
      generalize (l.getD i default).cap = tc at *
      generalize (l.getD i default).k = tk at *
      have i0 : (i : Int) ≤ cap := by omega
      have i1 : (i : Int) < n := by omega
      have bx := Lib.hid (box3_new6 wr (.string nm) (.slice ta tl tc) (.int .i64 tk) 38)
      have gA := World.grownBy_alloc wr (.cells #[.string nm, .slice ta tl tc, .int .i64 tk] 38) none
      have KA := Lib.hid (K.out.trans gA)
      obtain ⟨e0, e1⟩ := HC.out _ KA.out
      have e1 := e1 i hlt
      have b1 := cell_of_row _ _ 1 _ _ _ (BB.out _ KA.out)
      simp at b1
      have HR1 := Lib.hid (show Calls Tryz.prog 19 #[.pointer (some ⟨p, 0, none⟩), .string nm] (wr.alloc (.cells #[.string nm, .slice ta tl tc, .int .i64 tk] 38)) (fun e w' => (∃ (ra : Ptr) (rc : Nat), e = .returned (.tuple #[.slice ra 0 rc, .int .i64 0])) ∧ (wr.alloc (.cells #[.string nm, .slice ta tl tc, .int .i64 tk] 38)).grownBy w' none) from
        (rowsP_any S p ca cc 200 ts x nm _ (HP.out _ KA.out) hsix HH.out.2.2.2.2.1 (by decide)).mono fun e w' hh => ⟨by
          rcases hh.1 with ⟨_, h⟩ | ⟨k, vo, done, _, he, _, ho, hr, hd⟩
          · rw [Nm.out] at h; exact (isT (by rw [HH.out.2.2.2.1]; exact hlt) h).elim
          · rw [HH.out.2.2.2.2.2.1] at hd
            have hd0 : done = [] := by simpa [Tr.toL] using hd
            subst hd0
            obtain ⟨a', cp', e2, _, _⟩ := own_rs ho (by simp) hr
            exact ⟨a', cp', by rw [he, e2]; rfl⟩, hh.2⟩)
      have HRr := Lib.hid (fun W => refRowsP_any (fun _ => True) none 0 [] W ⟨by simp, by simp, .inl rfl⟩ (Nat.le_refl _) (by simp))
      have HSm := Lib.hid (fun (ra rb : Ptr) (rc rd : Nat) W => sameRows_any ra rb rc rd [] [] W ⟨by simp, by simp, .inl rfl⟩ ⟨by simp, by simp, .inl rfl⟩ (Nat.zero_le _) (Nat.zero_le _) rfl)
      have HLe := Lib.hid (fun W (hW : (w.alloc (.cells #[.slice a n cap, .slice (some ⟨pp, 0, none⟩) 1 1, .slice none 0 0] 32)).grownBy W none) => show Calls Tryz.prog 31 #[.pointer (some ⟨p, 0, none⟩), .string nm] W (fun e w' => e = .returned (.int .i64 0) ∧ W.grownBy w' none) from (lenP_any S p ca cc ts x nm W (HP.out _ hW) hsix).mono fun e w' hh => ⟨by
        rcases hh.1 with ⟨h, _⟩ | ⟨k, _, h, _⟩
        · exact h
        · rw [h, HH.out.2.2.2.2.2.1]; rfl, hh.2⟩)
      simp only [List.length_nil] at HRr HSm
      clear hnm hnm2 gA K
      subst hta
      go_wp2_with fail
      refine HR1.out.mono ?_
      rintro e w5 ⟨⟨ra, rc, rfl⟩, hg5⟩
      have K5 := Lib.hid (KA.out.trans hg5)
      have d0 := hg5.cell bx.out.1 (by simp)
      have D5 := Lib.hid d0
      clear hg5 HR1
      go_wp2_with fail
      refine (HRr.out _).mono ?_
      rintro e w6 ⟨⟨ao, co, rfl, _, _⟩, hg6⟩
      have K6 := Lib.hid (K5.out.trans hg6)
      have d1 := hg6.cell d0 (by simp)
      clear hg6 d0
      go_wp2_with fail
      refine (HSm.out _ _ _ _ _).mono ?_
      rintro e w7 ⟨rfl, hg7⟩
      have K7 := Lib.hid (K6.out.trans hg7)
      have d2 := hg7.cell d1 (by simp)
      clear hg7 d1
      go_wp2_with fail
      refine (HLe.out _ K7.out).mono ?_
      rintro e w8 ⟨rfl, hg8⟩
      have K8 := Lib.hid (K7.out.trans hg8)
      clear hg8 d2
      go_wp2_with fail
      generalize hwr : wr = w9 at *
      clear hwr
      go_loopw [80] (fun s80 wv => s80 = .int .i64 0 ∧ Hid ((w.alloc (.cells #[.slice (some ⟨tb, tof, none⟩) n cap, .slice (some ⟨pp, 0, none⟩) 1 1, .slice none 0 0] 32)).grownBy wv none)) (fun _ _ => 0)
      case atStart => exact ⟨rfl, K8⟩
      case round =>
        obtain ⟨rfl, K9⟩ := hrel
        go_wp2_with fail
        go_roundw
        case rel => exact ⟨i + 1, by go_num, by omega, K9⟩
        case measure => simp [intOf]; omega
    · obtain rfl : n = i := by omega
      have HRq := Lib.hid (fun W (hW : (w.alloc (.cells #[.slice a n cap, .slice (some ⟨pp, 0, none⟩) 1 1, .slice none 0 0] 32)).grownBy W none) => show Calls Tryz.prog 19 #[.pointer (some ⟨p, 0, none⟩), .string ⟨#[63]⟩] W (fun e w' => e = .returned (.tuple #[.slice none 0 0, .int .i64 14]) ∧ W.grownBy w' none) from
        (rowsP_any S p ca cc 200 ts x ⟨#[63]⟩ W (HP.out _ hW) hsix HH.out.2.2.2.2.1 (by decide)).mono fun e w' hh => ⟨by
          rcases hh.1 with ⟨h, _⟩ | ⟨k, vo, done, _, _, h, _⟩
          · exact h
          · exact (noQ HH.out.1 h).elim, hh.2⟩)
      have HGq := Lib.hid (fun W (hW : (w.alloc (.cells #[.slice a n cap, .slice (some ⟨pp, 0, none⟩) 1 1, .slice none 0 0] 32)).grownBy W none) => show Calls Tryz.prog 33 #[.pointer (some ⟨p, 0, none⟩), .string ⟨#[63]⟩, .slice none 0 0] W (fun e w' => e = .returned (.tuple #[.slice none 0 0, .bool false]) ∧ W.grownBy w' none) from
        (getP_any S p ca none cc 0 200 ts x ⟨#[63]⟩ [] W (HP.out _ hW) hsix HH.out.2.2.2.2.1 (by decide) ⟨by simp, by simp, .inl rfl⟩ (by simp)).mono fun e w' hh => ⟨by
          rcases hh.1 with ⟨h, _⟩ | ⟨k, _, h, _⟩
          · exact h
          · exact (noQ HH.out.1 h).elim, hh.2⟩)
      have HLq := Lib.hid (fun W (hW : (w.alloc (.cells #[.slice a n cap, .slice (some ⟨pp, 0, none⟩) 1 1, .slice none 0 0] 32)).grownBy W none) => show Calls Tryz.prog 31 #[.pointer (some ⟨p, 0, none⟩), .string ⟨#[63]⟩] W (fun e w' => e = .returned (.int .i64 0) ∧ W.grownBy w' none) from (lenP_any S p ca cc ts x ⟨#[63]⟩ W (HP.out _ hW) hsix).mono fun e w' hh => ⟨by
        rcases hh.1 with ⟨h, _⟩ | ⟨k, _, h, _⟩
        · exact h
        · rw [h, HH.out.2.2.2.2.2.1]; rfl, hh.2⟩)
      go_wp2_with fail
      refine (HRq.out _ K.out).mono ?_
      rintro e w5 ⟨rfl, hg5⟩
      have K5 := Lib.hid (K.out.trans hg5)
      clear hg5
      go_wp2_with fail
      refine (HGq.out _ K5.out).mono ?_
      rintro e w6 ⟨rfl, hg6⟩
      have K6 := Lib.hid (K5.out.trans hg6)
      clear hg6
      go_wp2_with fail
      refine (HLq.out _ K6.out).mono ?_
      rintro e w7 ⟨rfl, hg7⟩
      have K7 := Lib.hid (HH.out.2.2.2.2.2.2.trans (K6.out.trans hg7))
      clear hg7
      go_wp2_with fail
      go_ret
      exact ⟨rfl, K7.out⟩
end Go.Proofs.YtaggacffjbjchaaGreatDoor
namespace Go.Proofs.YtaggacffjbjchaaGreatDoor
open Go.RowKit

set_option maxRecDepth 100000 in
set_option maxHeartbeats 12800000 in
theorem StoreNews_any (G : Nat) (a : Ptr) (cap : Nat) (l : List Tb) (w : World) (h : TabsAt w.heap.size w a l) (hcap : l.length ≤ cap) (hcs : ∀ t ∈ l, t.l.length ≤ t.cap) (hN : ∀ t ∈ l, t.n.size ≤ 9223372036854775807 ∧ ∀ i, i < t.l.length → (t.l.getD i default).n.size ≤ 9223372036854775807) (hw : WhyG w) (hE : ErrT G w) (hG : G ≤ w.heap.size) :
    Calls Tryz.prog 3 #[.slice a l.length cap] w fun e w' => e = .returned (.bool true) ∧ Below w.heap.size w w' := by
  have HA := Lib.hid (fun W (hW : w.grownBy W none) => awake9_any G W (hw.grown hW) (hE.grown hW) (Nat.le_trans hG hW.size))
  have HT := Lib.hid (fun W (hW : w.grownBy W none) => (h.keep hW (by simp)).mono hW.size)
  have HF := Lib.hid (fun W (hW : w.grownBy W none) => few_any (fun _ => True) a cap l W (.of (HT.out W hW)) hcap)
  have HNo1 := Lib.hid (fun (hr : RightG l) W (hW : w.grownBy W none) => newS_ok9 a cap G (fun _ => True) l W (.of (HT.out W hW)) hcap hcs (hw.grown hW) (hE.grown hW) hr)
  have HNb1 := Lib.hid (fun (hr : ¬ RightG l) W (hW : w.grownBy W none) => newS_bad a cap G l W (HT.out W hW) hcap hcs (hw.grown hW) (hE.grown hW) hr)
  have HRn := Lib.hid (fun W (hW : w.grownBy W none) => refNew_any a cap l W (HT.out W hW) hcap hcs hN)
  obtain ⟨fb, hfb⟩ : ∃ fb, fb = fewB l := ⟨_, rfl⟩
  obtain ⟨n, hn⟩ : ∃ n, n = l.length := ⟨_, rfl⟩
  have Hn := Lib.hid hn
  rw [← hfb] at HF
  rw [← hn] at HF HNo1 HNb1 HRn hcap ⊢
  clear h hcs hN hw hE hG hn hfb
  go_enter Tryz.func3, Tryz.ntmps3
  go_wp2_with fail
  refine (HA.out _ (grown_reflT _ none)).mono ?_
  rintro e w0 ⟨rfl, hg0⟩
  have G0 := Lib.hid hg0
  clear hg0
  go_wp2_with fail
  refine (HF.out _ G0.out).mono ?_
  rintro e w1 ⟨rfl, hg1⟩
  have G1 := Lib.hid (G0.out.trans hg1)
  clear hg1 HF
  cases fb
  · go_wp2_with fail
    refine (HA.out _ G1.out).mono ?_
    rintro e w2 ⟨rfl, hg2⟩
    have G2 := Lib.hid (G1.out.trans hg2)
    clear hg2
    go_wp2_with fail
    go_ret
    exact ⟨rfl, below_grownT G2.out⟩
  by_cases hr : RightG l
  · have HX := Lib.hid (HNo1.out hr w1 G1.out)
    have HR2 := Lib.hid (fun W (hW : w.grownBy W none) => show Calls Tryz.prog 11 #[.slice a n cap] W (fun e w' => (∃ pp q, e = .returned (.tuple #[.agg #[.slice a n cap, .slice (some ⟨pp, 0, none⟩) 1 1, .slice none 0 0], .int .i64 0]) ∧ w'.cell? ⟨pp, 0, none⟩ = some (.slice (some ⟨q, 0, none⟩) n n) ∧ (∀ i, i < n → w'.cell? ⟨q, i, none⟩ = some (.slice none 0 0))) ∧ W.grownBy w' none) from (HRn.out W hW).mono fun e w' hh => ⟨by
      rcases hh.1 with ⟨_, v, ⟨pp, q, rfl, _, _, h1, h2⟩, he⟩ | ⟨k, y, hf, _⟩
      · exact ⟨pp, q, he, h1, h2⟩
      · rw [Hn.out] at hf
        exact absurd hr hf.not, hh.2⟩)
    have hn6 : n ≤ 6 := by rw [Hn.out]; rcases Nat.lt_or_ge 6 l.length with h | h; (have := (hr 6 h).1.1; omega); exact h
    clear HNo1 HNb1 HRn hr
    go_wp2_with fail
    refine HX.out.mono ?_
    rintro e w2 ⟨⟨s, rfl, hs, hv0, _, hsn, hts, _⟩, hg2⟩
    have X2 := Lib.hid hs
    have F2 := Lib.hid (And.intro hv0 (And.intro hsn hts))
    have G2 := Lib.hid (G1.out.trans hg2)
    obtain ⟨b, hb⟩ : ∃ b, s.b = b := ⟨_, rfl⟩
    rw [hb]
    have Hb := Lib.hid hb
    clear hs hv0 hsn hts hg2 HX hb
    go_wp2_with fail
    refine (HR2.out _ G2.out).mono ?_
    rintro e w3 ⟨⟨pp, q, rfl, hc0, hc1⟩, hg3⟩
    have G3 := Lib.hid hg3
    have g4 := World.grownBy_alloc w3 (.cells #[.slice a n cap, .slice (some ⟨pp, 0, none⟩) 1 1, .slice none 0 0] 32) none
    have b4 := heap_alloc_new w3 (.cells #[.slice a n cap, .slice (some ⟨pp, 0, none⟩) 1 1, .slice none 0 0] 32)
    have X4 := Lib.hid (X2.out.keepG (hg3.trans g4))
    have SS := Lib.hid (fun W (hW : (w3.alloc (.cells #[.slice a n cap, .slice (some ⟨pp, 0, none⟩) 1 1, .slice none 0 0] 32)).grownBy W none) => show W.cell? ⟨w3.heap.size, 0, none⟩ = some (.slice a n cap) ∧ W.cell? ⟨w3.heap.size, 1, none⟩ = some (.slice (some ⟨pp, 0, none⟩) 1 1) ∧ W.cell? ⟨w3.heap.size, 2, none⟩ = some (.slice none 0 0) from ⟨hW.cell (cell_of_row _ _ 0 _ _ _ b4) (by simp), hW.cell (cell_of_row _ _ 1 _ _ _ b4) (by simp), hW.cell (cell_of_row _ _ 2 _ _ _ b4) (by simp)⟩)
    have HCq := Lib.hid (fun W (hW : (w3.alloc (.cells #[.slice a n cap, .slice (some ⟨pp, 0, none⟩) 1 1, .slice none 0 0] 32)).grownBy W none) => show W.cell? ⟨pp, 0, none⟩ = some (.slice (some ⟨q, 0, none⟩) n n) ∧ (∀ i, i < n → W.cell? ⟨q, i, none⟩ = some (.slice none 0 0)) from ⟨(g4.trans hW).cell hc0 (by simp), fun i hi => (g4.trans hW).cell (hc1 i hi) (by simp)⟩)
    have hln : s.ts.length = n := by rw [Hn.out]; have := congrArg List.length F2.out.2.2; simpa using this
    have HCa := Lib.hid (catalogO_any w1.heap.size s _ X4.out)
    rw [Hb.out, hln] at HCa
    have G4 := Lib.hid (G2.out.trans (hg3.trans g4))
    clear hc0 hc1 hg3 g4 b4 hln
    go_wp2_with fail
    refine HCa.out.mono ?_
    rintro e w4 ⟨⟨a', cap', l', rfl, hp4, hown⟩, hg4⟩
    have I0 := Lib.hid (show ∃ xs, w4.ownsRow (w3.alloc (.cells #[.slice a n cap, .slice (some ⟨pp, 0, none⟩) 1 1, .slice none 0 0] 32)).heap.size 38 3 (.slice a' n cap') n xs ∧ (∀ j, 0 ≤ j → j < n → xs[j * 3]? = some (.string (l.getD j default).n) ∧ ∃ ca cc, xs[j * 3 + 1]? = some (.slice ca (l.getD j default).l.length cc)) ∧ (w3.alloc (.cells #[.slice a n cap, .slice (some ⟨pp, 0, none⟩) 1 1, .slice none 0 0] 32)).grownBy w4 none from ⟨_, hown, fun j _ hj => by
      have hpp := hp4.trans F2.out.2.2
      have hl' : l'.length = n := by rw [Hn.out]; have := congrArg List.length hpp; simpa using this
      have e := p_at hpp j
      have en : (l'.getD j default).n = (l.getD j default).n := congrArg (·.1) e
      have el : (l'.getD j default).l = (l.getD j default).l := congrArg (·.2.1) e
      obtain ⟨k1, k2, _⟩ := tb_at l' j (by omega)
      rw [en] at k1
      rw [el] at k2
      exact ⟨k1, _, _, k2⟩, hg4⟩)
    clear hp4 hown hg4 HCa
    go_wp2_with fail
    go_loopw [43] (fun s43 wr => ∃ i : Nat, s43 = .int .i64 i ∧ i ≤ n ∧ Hid (∃ xs, wr.ownsRow (w3.alloc (.cells #[.slice a n cap, .slice (some ⟨pp, 0, none⟩) 1 1, .slice none 0 0] 32)).heap.size 38 3 (.slice a' n cap') n xs ∧ (∀ j, i ≤ j → j < n → xs[j * 3]? = some (.string (l.getD j default).n) ∧ ∃ ca cc, xs[j * 3 + 1]? = some (.slice ca (l.getD j default).l.length cc)) ∧ (w3.alloc (.cells #[.slice a n cap, .slice (some ⟨pp, 0, none⟩) 1 1, .slice none 0 0] 32)).grownBy wr none)) (fun s43 _ => n - (intOf s43).toNat)
    case atStart => exact ⟨0, rfl, by omega, I0⟩
    case round =>
      obtain ⟨i, rfl, hi, K⟩ := hrel
      obtain ⟨xs, hown, hxs, hgr⟩ := K.out
      by_cases hlt : i < n
      · obtain ⟨g, cp, ea, hgB, hgl⟩ := World.ownsRow.form hown (by omega)
        obtain ⟨rfl, rfl⟩ : a' = some ⟨g, 0, none⟩ ∧ cap' = cp := by simpa using ea
        obtain ⟨k1, ca, cc, k2⟩ := hxs i (Nat.le_refl _) hlt
        have x0 := (World.ownsRow.cellAt hown (i * 3) (by omega)).trans k1
        have x1 := (World.ownsRow.cellAt hown (i * 3 + 1) (by omega)).trans k2
        have f0 := World.ownsRow.frozenAt hown (i * 3)
        have gW : w.grownBy wr none := G4.out.trans hgr
        obtain ⟨tb, tof, hta, _, c0, c1, c2⟩ := (TbsS.of (HT.out wr gW)).at (i := i) (by rw [← Hn.out]; exact hlt)
        have HK := Lib.hid (show ∃ xs', (wr.drew.setCell ⟨g, i * 3, none⟩ (.string ⟨#[63]⟩)).ownsRow (w3.alloc (.cells #[.slice a n cap, .slice (some ⟨pp, 0, none⟩) 1 1, .slice none 0 0] 32)).heap.size 38 3 (.slice (some ⟨g, 0, none⟩) n cap') n xs' ∧ (∀ j, i + 1 ≤ j → j < n → xs'[j * 3]? = some (.string (l.getD j default).n) ∧ ∃ ca cc, xs'[j * 3 + 1]? = some (.slice ca (l.getD j default).l.length cc)) ∧ (w3.alloc (.cells #[.slice a n cap, .slice (some ⟨pp, 0, none⟩) 1 1, .slice none 0 0] 32)).grownBy (wr.drew.setCell ⟨g, i * 3, none⟩ (.string ⟨#[63]⟩)) none from ⟨_, (World.ownsRow.stored (w := wr.drew) hown (i * 3) _).1, fun j hj1 hj2 => by
          obtain ⟨m1, m2⟩ := hxs j (by omega) hj2
          rw [List.getElem?_set_ne (by omega), List.getElem?_set_ne (by omega)]
          exact ⟨m1, m2⟩, grown_thenT (grown_drewT hgr) (World.ownsRow.stored (w := wr.drew) hown (i * 3) (.string ⟨#[63]⟩)).2 (fun j hj => by have := Option.some.inj hj; omega)⟩)
        obtain ⟨nm, hnm⟩ : ∃ nm, nm = (l.getD i default).n := ⟨_, rfl⟩
        obtain ⟨q2, hq2⟩ : ∃ q2, q2 = (l.getD i default).l.length := ⟨_, rfl⟩
        rw [← hnm] at x0 c0
        rw [← hq2] at x1 c1
        generalize (l.getD i default).a = ta at *
        generalize (l.getD i default).cap = tc at *
        have hcap' : (i : Int) ≤ cap' := by
          rcases hown.2 with ⟨hv, _⟩ | ⟨g2, cp2, cu2, hv, _, _, hc2, _⟩
          · cases hv
          · cases hv; omega
        have i0 : (i : Int) ≤ cap := by omega
        have i1 : (i : Int) < n := by omega
        clear k1 k2 hown hxs hgr gW c2 hnm hq2 K hgB hgl ea
        subst hta
        go_wp2_with fail
        refine wp_region_held_drew (S := (fun W => W.cell? ⟨g, i * 3, none⟩ = some (.string nm) ∧ W.cell? ⟨g, i * 3 + 1, none⟩ = some (.slice ca q2 cc) ∧ W.cell? ⟨tb, tof + i * 3, none⟩ = some (.string nm) ∧ W.cell? ⟨tb, tof + i * 3 + 1, none⟩ = some (.slice ta q2 tc))) (by kernel_rfl) ⟨x0, x1, c0, c1⟩ (fun hHeld => ?_)
        refine wpAnyH_take (i := 0) (v := ?va0) rfl (by kernel_rfl) (by kernel_rfl) (by kernel_rfl) (fun _ _ _ h => h) (Or.inl ⟨by rfl, ?ya0⟩) (by assumption) ?ra0
        case ya0 => (intro w hSw; (try dsimp only at hSw); go_simp; try with_reducible rfl)
        simp only [Act.put, List.getElem_toArray, List.getElem_cons_zero, List.size_toArray, List.length_cons, List.length_nil, Nat.reduceAdd, Array.replicate, List.replicate, List.setIfInBounds_toArray, List.set_cons_zero, List.set_cons_succ]
        refine wpAnyH_take (i := 1) (v := ?va1) rfl (by kernel_rfl) (by kernel_rfl) (by kernel_rfl) (fun _ _ _ h => h) (Or.inl ⟨by rfl, ?ya1⟩) (by assumption) ?ra1
        case ya1 => (intro w hSw; (try dsimp only at hSw); go_simp; try with_reducible rfl)
        simp only [Act.put, List.getElem_toArray, List.getElem_cons_succ, List.getElem_cons_zero, List.setIfInBounds_toArray, List.set_cons_zero, List.set_cons_succ]
        refine wpAnyH_take (i := 2) (v := ?va2) rfl (by kernel_rfl) (by kernel_rfl) (by kernel_rfl) (fun _ _ _ h => h) (Or.inl ⟨by rfl, ?ya2⟩) (by assumption) ?ra2
        case ya2 => (intro w hSw; (try dsimp only at hSw); go_simp; try with_reducible rfl)
        simp only [Act.put, List.getElem_toArray, List.getElem_cons_succ, List.getElem_cons_zero, List.setIfInBounds_toArray, List.set_cons_zero, List.set_cons_succ]
        refine wpAnyH_take (i := 3) (v := ?va3) rfl (by kernel_rfl) (by kernel_rfl) (by kernel_rfl) (fun _ _ _ h => h) (Or.inl ⟨by rfl, ?ya3⟩) (by assumption) ?ra3
        case ya3 => (intro w hSw; (try dsimp only at hSw); go_simp; try with_reducible rfl)
        simp only [Act.put, List.getElem_toArray, List.getElem_cons_succ, List.getElem_cons_zero, List.setIfInBounds_toArray, List.set_cons_zero, List.set_cons_succ]
        refine wpAnyH_take (i := 4) (v := ?va4) rfl (by kernel_rfl) (by kernel_rfl) (by kernel_rfl) (fun _ _ _ h => h) (Or.inl ⟨by rfl, ?ya4⟩) (by assumption) ?ra4
        case ya4 => (intro w hSw; (try dsimp only at hSw); go_simp; try with_reducible rfl)
        simp only [Act.put, List.getElem_toArray, List.getElem_cons_succ, List.getElem_cons_zero, List.setIfInBounds_toArray, List.set_cons_zero, List.set_cons_succ]
        refine wpAnyH_take (i := 5) (v := ?va5) rfl (by kernel_rfl) (by kernel_rfl) (by kernel_rfl) (fun _ _ _ h => h) (Or.inl ⟨by rfl, ?ya5⟩) (by assumption) ?ra5
        case ya5 => (intro w hSw; (try dsimp only at hSw); go_simp; try with_reducible rfl)
        simp only [Act.put, List.getElem_toArray, List.getElem_cons_succ, List.getElem_cons_zero, List.setIfInBounds_toArray, List.set_cons_zero, List.set_cons_succ]
        refine wpAnyH_take (i := 6) (v := ?va6) rfl (by kernel_rfl) (by kernel_rfl) (by kernel_rfl) (fun _ _ _ h => h) (Or.inl ⟨by rfl, ?ya6⟩) (by assumption) ?ra6
        case ya6 => (intro w hSw; (try dsimp only at hSw); go_simp; try with_reducible rfl)
        simp only [Act.put, List.getElem_toArray, List.getElem_cons_succ, List.getElem_cons_zero, List.setIfInBounds_toArray, List.set_cons_zero, List.set_cons_succ]
        refine wpAnyH_take (i := 7) (v := ?va7) rfl (by kernel_rfl) (by kernel_rfl) (by kernel_rfl) (fun _ _ _ h => h) (Or.inl ⟨by rfl, ?ya7⟩) (by assumption) ?ra7
        case ya7 => (intro w hSw; (try dsimp only at hSw); go_simp; try with_reducible rfl)
        simp only [Act.put, List.getElem_toArray, List.getElem_cons_succ, List.getElem_cons_zero, List.setIfInBounds_toArray, List.set_cons_zero, List.set_cons_succ]
        refine wpAnyH_take (i := 8) (v := ?va8) rfl (by kernel_rfl) (by kernel_rfl) (by kernel_rfl) (fun _ _ _ h => h) (Or.inl ⟨by rfl, ?ya8⟩) (by assumption) ?ra8
        case ya8 => (intro w hSw; (try dsimp only at hSw); go_simp; try with_reducible rfl)
        simp only [Act.put, List.getElem_toArray, List.getElem_cons_succ, List.getElem_cons_zero, List.setIfInBounds_toArray, List.set_cons_zero, List.set_cons_succ]
        refine wpAnyH_take (i := 9) (v := ?va9) rfl (by kernel_rfl) (by kernel_rfl) (by kernel_rfl) (fun _ _ _ h => h) (Or.inl ⟨by rfl, ?ya9⟩) (by assumption) ?ra9
        case ya9 => (intro w hSw; (try dsimp only at hSw); go_simp; try with_reducible rfl)
        simp only [Act.put, List.getElem_toArray, List.getElem_cons_succ, List.getElem_cons_zero, List.setIfInBounds_toArray, List.set_cons_zero, List.set_cons_succ]
        refine wpAnyH_take (i := 10) (v := ?va10) rfl (by kernel_rfl) (by kernel_rfl) (by kernel_rfl) (fun _ _ _ h => h) (Or.inl ⟨by rfl, ?ya10⟩) (by assumption) ?ra10
        case ya10 => (intro w hSw; (try dsimp only at hSw); go_simp; try with_reducible rfl)
        simp only [Act.put, List.getElem_toArray, List.getElem_cons_succ, List.getElem_cons_zero, List.setIfInBounds_toArray, List.set_cons_zero, List.set_cons_succ]
        refine wpAnyH_take (i := 11) (v := ?va11) rfl (by kernel_rfl) (by kernel_rfl) (by kernel_rfl) (fun _ _ _ h => h) (Or.inl ⟨by rfl, ?ya11⟩) (by assumption) ?ra11
        case ya11 => (intro w hSw; (try dsimp only at hSw); go_simp; try with_reducible rfl)
        simp only [Act.put, List.getElem_toArray, List.getElem_cons_succ, List.getElem_cons_zero, List.setIfInBounds_toArray, List.set_cons_zero, List.set_cons_succ]
        refine wpAnyH_take (i := 12) (v := ?va12) rfl (by kernel_rfl) (by kernel_rfl) (by kernel_rfl) (fun _ _ _ h => h) (Or.inl ⟨by rfl, ?ya12⟩) (by assumption) ?ra12
        case ya12 => (intro w hSw; (try dsimp only at hSw); go_simp; try with_reducible rfl)
        simp only [Act.put, List.getElem_toArray, List.getElem_cons_succ, List.getElem_cons_zero, List.setIfInBounds_toArray, List.set_cons_zero, List.set_cons_succ]
        refine wpAnyH_take (i := 13) (v := ?va13) rfl (by kernel_rfl) (by kernel_rfl) (by kernel_rfl) (fun _ _ _ h => h) (Or.inl ⟨by rfl, ?ya13⟩) (by assumption) ?ra13
        case ya13 => (intro w hSw; (try dsimp only at hSw); go_simp; try with_reducible rfl)
        simp only [Act.put, List.getElem_toArray, List.getElem_cons_succ, List.getElem_cons_zero, List.setIfInBounds_toArray, List.set_cons_zero, List.set_cons_succ]
        refine wpAnyH_take (i := 14) (v := ?va14) rfl (by kernel_rfl) (by kernel_rfl) (by kernel_rfl) (fun _ _ _ h => h) (Or.inl ⟨by rfl, ?ya14⟩) (by assumption) ?ra14
        case ya14 => (intro w hSw; (try dsimp only at hSw); go_simp; try with_reducible rfl)
        simp only [Act.put, List.getElem_toArray, List.getElem_cons_succ, List.getElem_cons_zero, List.setIfInBounds_toArray, List.set_cons_zero, List.set_cons_succ]
        refine wpAnyH_take (i := 15) (v := ?va15) rfl (by kernel_rfl) (by kernel_rfl) (by kernel_rfl) (fun _ _ _ h => h) (Or.inl ⟨by rfl, ?ya15⟩) (by assumption) ?ra15
        case ya15 => (intro w hSw; (try dsimp only at hSw); go_simp; try with_reducible rfl)
        simp only [Act.put, List.getElem_toArray, List.getElem_cons_succ, List.getElem_cons_zero, List.setIfInBounds_toArray, List.set_cons_zero, List.set_cons_succ]
        refine wpAnyH_take (i := 16) (v := ?va16) rfl (by kernel_rfl) (by kernel_rfl) (by kernel_rfl) (fun _ _ _ h => h) (Or.inl ⟨by rfl, ?ya16⟩) (by assumption) ?ra16
        case ya16 => (intro w hSw; (try dsimp only at hSw); go_simp; try with_reducible rfl)
        simp only [Act.put, List.getElem_toArray, List.getElem_cons_succ, List.getElem_cons_zero, List.setIfInBounds_toArray, List.set_cons_zero, List.set_cons_succ]
        refine wpAnyH_take (i := 17) (v := ?va17) rfl (by kernel_rfl) (by kernel_rfl) (by kernel_rfl) (fun _ _ _ h => h) (Or.inl ⟨by rfl, ?ya17⟩) (by assumption) ?ra17
        case ya17 => (intro w hSw; (try dsimp only at hSw); go_simp; try with_reducible rfl)
        simp only [Act.put, List.getElem_toArray, List.getElem_cons_succ, List.getElem_cons_zero, List.setIfInBounds_toArray, List.set_cons_zero, List.set_cons_succ]
        refine wpAnyH_take (i := 18) (v := ?va18) rfl (by kernel_rfl) (by kernel_rfl) (by kernel_rfl) (fun _ _ _ h => h) (Or.inl ⟨by rfl, ?ya18⟩) (by assumption) ?ra18
        case ya18 => (intro w hSw; (try dsimp only at hSw); go_simp; try with_reducible rfl)
        simp only [Act.put, List.getElem_toArray, List.getElem_cons_succ, List.getElem_cons_zero, List.setIfInBounds_toArray, List.set_cons_zero, List.set_cons_succ]
        refine wpAnyH_take (i := 19) (v := ?va19) rfl (by kernel_rfl) (by kernel_rfl) (by kernel_rfl) (fun _ _ _ h => h) (Or.inl ⟨by rfl, ?ya19⟩) (by assumption) ?ra19
        case ya19 => (intro w hSw; (try dsimp only at hSw); go_simp; try with_reducible rfl)
        simp only [Act.put, List.getElem_toArray, List.getElem_cons_succ, List.getElem_cons_zero, List.setIfInBounds_toArray, List.set_cons_zero, List.set_cons_succ]
        refine wpAnyH_take (i := 20) (v := ?va20) rfl (by kernel_rfl) (by kernel_rfl) (by kernel_rfl) (fun _ _ _ h => h) (Or.inl ⟨by rfl, ?ya20⟩) (by assumption) ?ra20
        case ya20 => (intro w hSw; (try dsimp only at hSw); go_simp; try with_reducible rfl)
        simp only [Act.put, List.getElem_toArray, List.getElem_cons_succ, List.getElem_cons_zero, List.setIfInBounds_toArray, List.set_cons_zero, List.set_cons_succ]
        refine wpAnyH_take (i := 21) (v := ?va21) rfl (by kernel_rfl) (by kernel_rfl) (by kernel_rfl) (fun _ _ _ h => h) (Or.inl ⟨by rfl, ?ya21⟩) (by assumption) ?ra21
        case ya21 => (intro w hSw; (try dsimp only at hSw); go_simp; try with_reducible rfl)
        simp only [Act.put, List.getElem_toArray, List.getElem_cons_succ, List.getElem_cons_zero, List.setIfInBounds_toArray, List.set_cons_zero, List.set_cons_succ]
        refine wpAnyH_take (i := 22) (v := ?va22) rfl (by kernel_rfl) (by kernel_rfl) (by kernel_rfl) (fun _ _ _ h => h) (Or.inl ⟨by rfl, ?ya22⟩) (by assumption) ?ra22
        case ya22 => (intro w hSw; (try dsimp only at hSw); go_simp; try with_reducible rfl)
        simp only [Act.put, List.getElem_toArray, List.getElem_cons_succ, List.getElem_cons_zero, List.setIfInBounds_toArray, List.set_cons_zero, List.set_cons_succ]
        refine wpAnyH_take (i := 23) (v := ?va23) rfl (by kernel_rfl) (by kernel_rfl) (by kernel_rfl) (fun _ _ _ h => h) (Or.inl ⟨by rfl, ?ya23⟩) (by assumption) ?ra23
        case ya23 => (intro w hSw; (try dsimp only at hSw); go_simp; try with_reducible rfl)
        simp only [Act.put, List.getElem_toArray, List.getElem_cons_succ, List.getElem_cons_zero, List.setIfInBounds_toArray, List.set_cons_zero, List.set_cons_succ]
        refine wpAnyH_take (i := 24) (v := ?va24) rfl (by kernel_rfl) (by kernel_rfl) (by kernel_rfl) (fun _ _ _ h => h) (Or.inl ⟨by rfl, ?ya24⟩) (by assumption) ?ra24
        case ya24 => (intro w hSw; (try dsimp only at hSw); go_simp; try with_reducible rfl)
        simp only [Act.put, List.getElem_toArray, List.getElem_cons_succ, List.getElem_cons_zero, List.setIfInBounds_toArray, List.set_cons_zero, List.set_cons_succ]
        refine wpAnyH_take (i := 25) (v := ?va25) rfl (by kernel_rfl) (by kernel_rfl) (by kernel_rfl) (fun _ _ _ h => h) (Or.inl ⟨by rfl, ?ya25⟩) (by assumption) ?ra25
        case ya25 => (intro w hSw; (try dsimp only at hSw); go_simp; try with_reducible rfl)
        simp only [Act.put, List.getElem_toArray, List.getElem_cons_succ, List.getElem_cons_zero, List.setIfInBounds_toArray, List.set_cons_zero, List.set_cons_succ]
        refine wpAnyH_done (by kernel_rfl) ?_ _
        go_wp2_with fail
        go_roundw
        case rel => exact ⟨i + 1, by go_num, by omega, HK⟩
        case measure => simp [intOf]; omega
      · obtain rfl : n = i := by omega
        have XR := Lib.hid (X4.out.keepG hgr)
        have HVs := Lib.hid (fun W (hW : wr.grownBy W none) => versionS_any w1.heap.size s W (XR.out.keepG hW))
        have HNo := Lib.hid (fun W (hW : wr.grownBy W none) => now_any w1.heap.size s W (XR.out.keepG hW))
        rw [Hb.out] at HVs HNo
        rw [F2.out.1] at HVs
        have SS := Lib.hid (fun W (hW : wr.grownBy W none) => SS.out W (hgr.trans hW))
        have htv : s.top.v = 0 := XR.out.topV.trans F2.out.1
        have htt : s.top.tr = fun _ => .nil := by unfold Stm.top; rw [F2.out.2.1]; rfl
        have HTl := Lib.hid (fun (p : Nat) W (hW : wr.grownBy W none) (hsn : Snp (fun k => ¬ s.M k) W p s.ca s.cc s.ts s.top) => tellsF_any _ a s.ca n cap s.cc p pp q l s.ts s.top W hsn htv htt XR.out.ok F2.out.2.2 Hn.out hcap (HT.out W (G4.out.trans (hgr.trans hW))) (HCq.out W (hgr.trans hW)).1 (HCq.out W (hgr.trans hW)).2)
        have GE := Lib.hid (G4.out.trans hgr)
        clear hown hxs hgr htv htt K
        go_wp2_with fail
        refine wp_region_held_drew (S := (fun W => W.cell? ⟨w3.heap.size, 0, none⟩ = some (.slice a n cap) ∧ W.cell? ⟨w3.heap.size, 1, none⟩ = some (.slice (some ⟨pp, 0, none⟩) 1 1) ∧ W.cell? ⟨w3.heap.size, 2, none⟩ = some (.slice none 0 0))) (by kernel_rfl) (SS.out _ (grown_drewT (grown_reflT _ none))) (fun hHeld => ?_)
        refine wpAnyH_take (i := 0) (v := ?vb0) rfl (by kernel_rfl) (by kernel_rfl) (by kernel_rfl) (fun _ _ _ h => h) (Or.inl ⟨by rfl, ?yb0⟩) (by assumption) ?rb0
        case yb0 => (intro w hSw; (try dsimp only at hSw); go_simp; try with_reducible rfl)
        simp only [Act.put, List.getElem_toArray, List.getElem_cons_zero, List.size_toArray, List.length_cons, List.length_nil, Nat.reduceAdd, Array.replicate, List.replicate, List.setIfInBounds_toArray, List.set_cons_zero, List.set_cons_succ]
        refine wpAnyH_ready (rs := [1]) (by kernel_rfl) (by simp) ?_
        refine AllReadyH.cons rfl (fun K' hK => ?_) AllReadyH.nil
        go_simp
        go_at_call 13
        refine (HVs.out _ (grown_drewT (grown_reflT _ none))).mono ?_
        rintro e w5 ⟨rfl, hg5⟩
        have Z5 := Lib.hid ((grown_drewT (grown_reflT _ none)).trans hg5)
        clear hg5
        refine hK.out _ _ (SS.out _ Z5.out) (fun hHeld => ?_)
        clear hK K'
        simp only [List.setIfInBounds_toArray, List.set_cons_zero, List.set_cons_succ]
        refine wpAnyH_take (i := 2) (v := ?vb2) rfl (by kernel_rfl) (by kernel_rfl) (by kernel_rfl) (fun _ _ _ h => h) (Or.inl ⟨by rfl, ?yb2⟩) (by assumption) ?rb2
        case yb2 => (intro w hSw; (try dsimp only at hSw); go_simp; try with_reducible rfl)
        simp only [Act.put, List.getElem_toArray, List.getElem_cons_succ, List.getElem_cons_zero, List.setIfInBounds_toArray, List.set_cons_zero, List.set_cons_succ]
        refine wpAnyH_take (i := 3) (v := ?vb3) rfl (by kernel_rfl) (by kernel_rfl) (by kernel_rfl) (fun _ _ _ h => h) (Or.inl ⟨by rfl, ?yb3⟩) (by assumption) ?rb3
        case yb3 => (intro w hSw; (try dsimp only at hSw); go_simp; try with_reducible rfl)
        simp only [Act.put, List.getElem_toArray, List.getElem_cons_succ, List.getElem_cons_zero, List.setIfInBounds_toArray, List.set_cons_zero, List.set_cons_succ]
        refine wpAnyH_take (i := 4) (v := ?vb4) rfl (by kernel_rfl) (by kernel_rfl) (by kernel_rfl) (fun _ _ _ h => h) (Or.inl ⟨by rfl, ?yb4⟩) (by assumption) ?rb4
        case yb4 => (intro w hSw; (try dsimp only at hSw); go_simp; try with_reducible rfl)
        simp only [Act.put, List.getElem_toArray, List.getElem_cons_succ, List.getElem_cons_zero, List.setIfInBounds_toArray, List.set_cons_zero, List.set_cons_succ]
        refine wpAnyH_take (i := 6) (v := ?vb6) rfl (by kernel_rfl) (by kernel_rfl) (by kernel_rfl) (fun _ _ _ h => h) (Or.inl ⟨by rfl, ?yb6⟩) (by assumption) ?rb6
        case yb6 => (intro w hSw; (try dsimp only at hSw); go_simp; try with_reducible rfl)
        simp only [Act.put, List.getElem_toArray, List.getElem_cons_succ, List.getElem_cons_zero, List.setIfInBounds_toArray, List.set_cons_zero, List.set_cons_succ]
        refine wpAnyH_ready (rs := [5]) (by kernel_rfl) (by simp) ?_
        refine AllReadyH.cons rfl (fun K' hK => ?_) AllReadyH.nil
        go_simp
        go_at_call 15
        refine (HNo.out _ Z5.out).mono ?_
        rintro e w6 ⟨⟨p, rfl, _, hsn⟩, hg6⟩
        have Z6 := Lib.hid (Z5.out.trans hg6)
        have P6 := Lib.hid hsn
        clear hg6 hsn
        refine hK.out _ _ (SS.out _ Z6.out) (fun hHeld => ?_)
        clear hK K'
        simp only [List.setIfInBounds_toArray, List.set_cons_zero, List.set_cons_succ]
        refine wpAnyH_ready (rs := [7]) (by kernel_rfl) (by simp) ?_
        refine AllReadyH.cons rfl (fun K' hK => ?_) AllReadyH.nil
        go_simp
        go_at_call 14
        refine (HTl.out p w6 Z6.out P6.out).mono ?_
        rintro e w7 ⟨rfl, hg7⟩
        have Z7 := Lib.hid (Z6.out.trans hg7)
        clear hg7
        refine hK.out _ _ (SS.out _ Z7.out) (fun hHeld => ?_)
        clear hK K'
        simp only [List.setIfInBounds_toArray, List.set_cons_zero, List.set_cons_succ]
        refine wpAnyH_take (i := 8) (v := ?vb8) rfl (by kernel_rfl) (by kernel_rfl) (by kernel_rfl) (fun _ _ _ h => h) (Or.inl ⟨by rfl, ?yb8⟩) (by assumption) ?rb8
        case yb8 => (intro w hSw; (try dsimp only at hSw); go_simp; try with_reducible rfl)
        simp only [Act.put, List.getElem_toArray, List.getElem_cons_succ, List.getElem_cons_zero, List.setIfInBounds_toArray, List.set_cons_zero, List.set_cons_succ]
        refine wpAnyH_take (i := 9) (v := ?vb9) rfl (by kernel_rfl) (by kernel_rfl) (by kernel_rfl) (fun _ _ _ h => h) (Or.inl ⟨by rfl, ?yb9⟩) (by assumption) ?rb9
        case yb9 => (intro w hSw; (try dsimp only at hSw); go_simp; try with_reducible rfl)
        simp only [Act.put, List.getElem_toArray, List.getElem_cons_succ, List.getElem_cons_zero, List.setIfInBounds_toArray, List.set_cons_zero, List.set_cons_succ]
        refine wpAnyH_done (by kernel_rfl) ?_ _
        go_wp2_with fail
        go_ret
        exact ⟨rfl, below_grownT (GE.out.trans Z7.out)⟩
  · have HX := Lib.hid (HNb1.out hr w1 G1.out)
    have HR2 := Lib.hid (fun W (hW : w.grownBy W none) => show Calls Tryz.prog 11 #[.slice a n cap] W (fun e w' => (∃ k y, Flaw6 (FullG l) (MalG l) (TwcG l) l.length k y ∧ e = .returned (.tuple #[.agg #[.slice none 0 0, .slice none 0 0, .slice none 0 0], .int .i64 y])) ∧ W.grownBy w' none) from (HRn.out W hW).mono fun e w' hh => ⟨by
      rcases hh.1 with ⟨h, _⟩ | ⟨k, y, hf, he⟩
      · exact absurd h hr
      · rw [Hn.out] at hf
        exact ⟨k, y, hf, he⟩, hh.2⟩)
    clear HNo1 HNb1 HRn
    go_wp2_with fail
    refine HX.out.mono ?_
    rintro e w2 ⟨⟨k, y, hf, rfl⟩, hg2⟩
    have G2 := Lib.hid (G1.out.trans hg2)
    have HFl := Lib.hid (show Flaw6 (FullG l) (MalG l) (TwcG l) l.length k y by rw [← Hn.out]; exact hf)
    clear hf hg2 HX
    go_wp2_with fail
    refine (HR2.out _ G2.out).mono ?_
    rintro e w3 ⟨⟨k', y', hf', rfl⟩, hg3⟩
    obtain ⟨_, rfl⟩ := HFl.out.one hf'
    have G3 := Lib.hid (G2.out.trans (hg3.trans (World.grownBy_alloc w3 (.cells #[.slice none 0 0, .slice none 0 0, .slice none 0 0] 32) none)))
    have hy : y = 3 ∨ y = 2 ∨ y = 23 := by rcases hf'.2.2 with ⟨_, h⟩ | ⟨_, _, h⟩ | ⟨_, _, _, h⟩ <;> simp [h]
    clear hf' hg3 HFl
    rcases hy with rfl | rfl | rfl
    all_goals
      go_wp2_with fail
      go_ret
      exact ⟨rfl, below_grownT G3.out⟩
end Go.Proofs.YtaggacffjbjchaaGreatDoor
namespace Go.Proofs.YtaggacffjbjchaaGreatDoor
open Go.ChangeShapes Go.WideShapes Go.ChangeAt Go.RowKit Go.Joins
open Go.ChangeMaps (open_string shut_string)

set_option maxRecDepth 100000 in
theorem storeNews_lifted (os : Os) (started : os.Started) (H : Type) (enc : TypeId × Value → H) :
    ReturnsInHanded {} Tryz.checked os 3 .any (fun w args => (Rows.storeNewsSpec.pre enc Tryz.prog Tryz.f3 [] false w args ∧ laidMetH Tryz.prog laid9s w) ∧ sizedMet enc Tryz.prog Tryz.f3 (OpenSpec.ofChange Rows.storeNewsSpec) false w args)
      (Rows.storeNewsSpec.post enc Tryz.prog Tryz.f3 false true false false) := by
  refine returnsInHanded_of_change_and (C := Tryz.checked) (X := fun w _ => laidMetH Tryz.prog laid9s w) (fun _ _ _ hh h => h.of_heap hh) own started (by kernel_rfl) Tryz.func3
    (ChangeSpec.witness_shaped (enc := enc) (C := Tryz.checked) (os := os) (X := fun w _ => laidMetH Tryz.prog laid9s w) false (World.doorLaid Tryz.prog 400 os) #[.slice none 0 0] 8 rfl (World.shaped_of_RefB (by kernel_rfl) (by kernel_rfl)) (by kernel_rfl) (by kernel_rfl) (by kernel_rfl) (door_met9s os _)) ?_
  intro W base args ds gs before hval0 hW _ _ hL _
  have hval : ∀ (j : Nat) t v, Tryz.f3.params[j]? = some t → args[j]? = some v → Value.okWide Tryz.prog W .any base t v := hval0
  have hW' := hW
  obtain ⟨p, q, hA0, hV, rfl, hfz, hnd⟩ := hW
  have hA : DataW.TrodAll enc Tryz.prog W 0 (fun _ => true) true Tryz.f3.params.toList args.toList ds p := hA0
  rw [Tryz.params3] at hA hval
  obtain ⟨v0, d0, rfl, rfl, h0⟩ := trodAll_one hA
  obtain ⟨rfl, rfl⟩ := trodVars_none hV
  have kk0 := h0
  have lt0 : ∀ x ∈ p, x.block < W.heap.size := by obtain ⟨m, hm⟩ := kk0; exact DataW.trod_lt m _ _ _ hm
  obtain ⟨a0, cap0, l0, rfl, hc0, row0, hcs0, hN0⟩ := open_tables9 (hval 0 22 v0 rfl rfl) h0
  clear hA0 hval0
  simp only [List.append_nil] at hW'
  refine (StoreNews_any W.heap.size a0 cap0 l0 W row0 hc0 hcs0 hN0 (whyG_of9s hL) (errT_of9s hL) (Nat.le_refl _)).mono fun e W' ⟨he, hb⟩ => ?_
  subst he
  exact ⟨_, rfl, _, _, _, [], _, [], hW', trodAll_mk1 (shut_bool Tryz.underlying4 _), trodAll_mk1 (Below.trod laidOut (by kernel_rfl) (of_decide_eq_true (by kernel_rfl)) kk0 hb lt0), rfl, hb.frame _, fun h => by cases h⟩

theorem storeNews_holds : Rows.StoreNewsSaid :=
  OpenClaim.holds_of_wide 3 Tryz.f3 rfl rfl rfl rfl rfl rfl rfl ⟨rfl, rfl, rfl, rfl, rfl⟩ rfl rfl rfl rfl rfl (by kernel_rfl) Tryz.func3 (by kernel_rfl)
    (of_decide_eq_true (by kernel_rfl)) (by unfold Func.isWrapper; first | (rw [if_pos (by decide +kernel)]; kernel_rfl) | (rw [if_neg (by decide +kernel)]; exact ⟨rfl, rfl⟩))
    (fun os started H enc _ => storeNews_lifted os started H enc)

theorem storeNews_card : Rows.StoreNewsCardSaid :=
  Claim7.holds_tied_plain_at .later [] [.handle, .sentinel, .sentinel, .sentinel, .sentinel, .sentinel, .sentinel, .sentinel, .sentinel] true Rows.storeNewsCard.stood.harness true
    storeNews_holds (fun _ h => by cases h) (by kernel_rfl) (fun _ h => by cases h) storeNews_row_tie rfl ⟨rfl, rfl⟩ (by kernel_rfl) rfl
    (fun f fn hf hfn => by
      obtain rfl : f = 3 := Option.some.inj ((show Tryz.prog.funcNamed "stillroom/stillroomlaw09.StoreNews" = some 3 by kernel_rfl).symm.trans hf) |>.symm
      obtain rfl : fn = Tryz.f3 := (Option.some.inj (Tryz.func3.symm.trans hfn)).symm
      exact ⟨by kernel_rfl, fun j t ht => by
        rw [Tryz.params3] at ht
        have hm : t ∈ [22] := by simpa using Array.mem_of_getElem? ht
        have hall : ([22].all fun u => !Tryz.prog.wantsStandIn u) = true := by kernel_rfl
        exact (show Tryz.prog.wantsStandIn t = false by simpa using List.all_eq_true.1 hall t hm)⟩)
    (by kernel_rfl)
#print axioms storeNews_card
end Go.Proofs.YtaggacffjbjchaaGreatDoor
