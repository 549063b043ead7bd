/- The laws' Few, Fits and Make; the document's New. Commits on the document's example: what each of the laws' commits makes. The laws' Make. -/
import Derived.Test.YtnfpomjcofhppaaGreatDoorZb38
import Derived.Test.YtnfpomjcofhppaaGreatDoorZb12
import Derived.Test.YtnfpomjcofhppaaGreatDoorZb14
import Derived.Deep.OwnRows
import Derived.Deep.RegionHeld
namespace Go.Proofs.YtnfpomjcofhppaaGreatDoor
open Go.RowKit

/-- It answers a truth. -/
def BoolR (e : Ending) : Prop := ∃ b : Bool, e = .returned (.bool b)
def fewB (l : List Tb) : Bool := decide (l.length ≤ 20) && l.all (fun t => decide (t.l.length ≤ 20))
set_option maxRecDepth 100000 in
set_option maxHeartbeats 1600000 in
theorem few_any (S : Nat → Prop) (a : Option Addr) (cap : Nat) (l : List Tb) (w : World) (h : TbsS S w a l) (hcap : l.length ≤ cap) :
    Calls Tryz.prog 22 #[.slice a l.length cap] w fun e w' => e = .returned (.bool (fewB l)) ∧ w.grownBy w' none := by
  have H := Lib.hid h
  have hn9 := h.1
  obtain ⟨fb, hfb⟩ : ∃ fb, fb = fewB l := ⟨_, rfl⟩
  have HB := Lib.hid hfb
  rw [← hfb]
  clear hfb
  obtain ⟨n, hn⟩ : ∃ n, n = l.length := ⟨_, rfl⟩
  have Hn := Lib.hid hn
  rw [← hn] at hcap hn9 ⊢
  clear h hn
  go_enter Tryz.func22, Tryz.ntmps22
  by_cases h20 : (20 : Int) < n
  · go_wp2_with fail
    go_ret
    exact ⟨ret_bool (by rw [HB.out]; unfold fewB; rw [← Hn.out, show decide (n ≤ 20) = false by simp; omega]; rfl), grown_reflT _ _⟩
  go_wp2_with fail
  go_loopw [10] (fun s10 wr => ∃ j : Nat, s10 = .int .i64 j ∧ j ≤ n ∧ Hid ((∀ i, i < j → (l.getD i default).l.length ≤ 20) ∧ w.grownBy wr none)) (fun s10 _ => n - (intOf s10).toNat)
  case atStart => exact ⟨0, rfl, by omega, Lib.hid ⟨fun i hi => by omega, grown_reflT _ _⟩⟩
  case round =>
    obtain ⟨j, rfl, hj, K⟩ := hrel
    by_cases hlt : j < n
    · obtain ⟨b, off, rfl, _, c0, c1, c2⟩ := (H.out.keep (.of K.out.2)).at (i := j) (by rw [← Hn.out]; exact hlt)
      have HX : Hid (∀ q, (l.getD j default).l.length = q → (q ≤ 20 → ∀ i, i < j + 1 → (l.getD i default).l.length ≤ 20) ∧ (20 < q → fewB l = false)) := Lib.hid fun q hq => ⟨fun h i hi => by
        rcases Nat.lt_or_ge i j with e | e
        · exact K.out.1 i e
        · rw [show i = j by omega, hq]; exact h, fun h => by
        unfold fewB
        rw [Bool.and_eq_false_iff]
        right
        rw [List.all_eq_false]
        exact ⟨_, tb_mem (by rw [← Hn.out]; exact hlt), by rw [hq]; simpa using h⟩⟩
      generalize l.getD j default = x at *
      obtain ⟨xn, xa, xc, xl, xk⟩ := x
      simp only at c0 c1 c2 HX
      obtain ⟨xm, hxm⟩ : ∃ xm, xl.length = xm := ⟨_, rfl⟩
      have HX := Lib.hid (HX.out xm hxm)
      rw [hxm] at c1
      clear hxm
      have j0 : (j : Int) ≤ cap := by omega
      have KA := Lib.hid (K.out.2.trans (World.grownBy_alloc wr (.cells #[.string xn, .slice xa xm xc, .int .i64 xk] 50) none))
      by_cases hq : (20 : Int) < xm
      · go_wp2_with fail
        go_ret
        exact ⟨ret_bool (by rw [HB.out]; exact (HX.out.2 (by omega)).symm), KA.out⟩
      · go_wp2_with fail
        go_roundw
        case rel => exact ⟨j + 1, by go_num, by omega, Lib.hid ⟨HX.out.1 (by omega), KA.out⟩⟩
        case measure => simp [intOf]; omega
    · obtain rfl : n = j := by omega
      go_wp2_with fail
      go_ret
      refine ⟨ret_bool ?_, K.out.2⟩
      rw [HB.out]
      unfold fewB
      rw [← Hn.out, show decide (n ≤ 20) = true by simp; omega, Bool.true_and]
      symm
      rw [List.all_eq_true]
      intro t ht
      obtain ⟨i, hi, rfl⟩ := List.getElem_of_mem ht
      have := K.out.1 i (by rw [Hn.out]; exact hi)
      simp only [List.getD, List.getElem?_eq_getElem hi, Option.getD_some] at this
      simpa using this
set_option maxRecDepth 100000 in
set_option maxHeartbeats 1600000 in
theorem fits_any9 (S : Nat → Prop) (a : Option Addr) (cap : Nat) (l : List Om) (w : World) (h : OpS S w a l) (hcap : l.length ≤ cap) :
    Calls Tryz.prog 6 #[.slice a l.length cap] w fun e w' => BoolR e ∧ w.grownBy w' none := by
  have H := Lib.hid h
  have hn9 := h.1
  obtain ⟨n, hn⟩ : ∃ n, n = l.length := ⟨_, rfl⟩
  have Hn := Lib.hid hn
  rw [← hn] at hcap hn9 ⊢
  clear h hn
  go_enter Tryz.func6, Tryz.ntmps6
  go_wp2_with fail
  go_loopw [7] (fun s7 wr => ∃ j : Nat, s7 = .int .i64 j ∧ j ≤ n ∧ Hid (w.grownBy wr none)) (fun s7 _ => n - (intOf s7).toNat)
  case atStart => exact ⟨0, rfl, by omega, Lib.hid (grown_reflT _ _)⟩
  case round =>
    obtain ⟨j, rfl, hj, K⟩ := hrel
    by_cases hlt : j < n
    · obtain ⟨⟨b, off, rfl, _, c0, c1, c2⟩, _⟩ := (H.out.keep (.of K.out)).at (i := j) (by rw [← Hn.out]; exact hlt)
      generalize l.getD j default = x at *
      obtain ⟨xk, xn, ⟨xa, xc, xl⟩⟩ := x
      simp only [Rw.v] at c0 c1 c2
      generalize xl.length = xm at *
      have j0 : (j : Int) ≤ cap := by omega
      have KA := Lib.hid (K.out.trans (World.grownBy_alloc wr (.cells #[.int .i64 xk, .string xn, .slice xa xm xc] 70) none))
      by_cases hq : (20 : Int) < xm
      · go_wp2_with fail
        go_ret
        exact ⟨⟨_, rfl⟩, KA.out⟩
      · go_wp2_with fail
        go_roundw
        case rel => exact ⟨j + 1, by go_num, by omega, KA⟩
        case measure => simp [intOf]; omega
    · obtain rfl : n = j := by omega
      go_wp2_with fail
      all_goals
        go_ret
        exact ⟨⟨_, rfl⟩, K.out⟩
abbrev cSt9 (a : Ptr) (n c : Nat) (a2 : Ptr) (n2 c2 : Nat) (a3 : Ptr) (n3 c3 : Nat) : Obj := .cells #[.slice a n c, .slice a2 n2 c2, .slice a3 n3 c3] 29
theorem pairs_info : (Tryz.prog.info? 56).map (fun i => (i.zero, i.size, i.bytes)) = some (some (.slice none 0 0), 1, 24) := by kernel_rfl
theorem made_tabs (n : Nat) (hn : n ≤ 1000) : ∃ C : Array Value, (∀ w : World, (Instr.makeSlice 47 (.int .i64 n) (.int .i64 n)).run Tryz.prog w = .ok (.slice (some ⟨w.heap.size, 0, none⟩) n n) (w.alloc (.cells C 56))) ∧ ∀ i, i < n → C[i]? = some (.slice none 0 0) :=
  ⟨madeCells #[.slice none 0 0] n, fun w => run_make_row' _ _ (.slice none 0 0) 24 Tryz.underlying47 pairs_info rfl .i64 .i64 n (by omega) (by omega) w, fun i hi => by
    rw [← Array.getElem?_toList, toList_madeCells_one]
    simp [hi]⟩
/-- The document's store of a catalog, without rows. -/
def New9 (a : Ptr) (n cap : Nat) (w w' : World) (v : Value) : Prop :=
  ∃ p q, v = .agg #[.slice a n cap, .slice (some ⟨p, 0, none⟩) 1 1, .slice none 0 0] ∧ w.heap.size ≤ p ∧ w.heap.size ≤ q ∧ w'.cell? ⟨p, 0, none⟩ = some (.slice (some ⟨q, 0, none⟩) n n) ∧ (∀ i, i < n → w'.cell? ⟨q, i, none⟩ = some (.slice none 0 0))
set_option maxRecDepth 100000 in
set_option maxHeartbeats 1600000 in
theorem refNew_any (a : Option Addr) (cap : Nat) (l : List Tb) (w : World) (h : TabsAt w.heap.size w a l) (hcap : l.length ≤ cap) (hcs : ∀ t ∈ l, t.l.length ≤ t.cap) (hN : ∀ t ∈ l, t.n.size ≤ 9223372036854775807 ∧ ∀ i, i < t.l.length → (t.l.getD i default).n.size ≤ 9223372036854775807) :
    Calls Tryz.prog 21 #[.slice a l.length cap] w fun e w' => ((RightG l ∧ ∃ v, New9 a l.length cap w w' v ∧ e = .returned (.tuple #[v, .int .i64 0])) ∨ ∃ k y, Flaw6 (FullG l) (MalG l) (TwcG l) l.length k y ∧ e = .returned (.tuple #[.agg #[.slice none 0 0, .slice none 0 0, .slice none 0 0], .int .i64 y])) ∧ w.grownBy w' none := by
  by_cases hr : RightG l
  · have HK : Hid (∀ W, w.grownBy W none → Calls Tryz.prog 39 #[.slice a l.length cap] W fun e w' => e = .returned (.tuple #[.int .i64 0, .int .i64 0]) ∧ W.grownBy w' none) := Lib.hid fun W hW => (refCheck_all a cap l W ((h.keep hW (by simp)).mono hW.size) hcap hcs hN).mono fun e w' h => ⟨by
      rcases h.1 with ⟨_, h⟩ | ⟨k, y, h, _⟩
      · exact h
      · exact absurd hr h.not, h.2⟩
    have HR := Lib.hid hr
    have hn6 : l.length ≤ 6 := by
      rcases Nat.lt_or_ge 6 l.length with h | h
      · have := (hr 6 h).1.1; omega
      · exact h
    clear h hcap hcs hN hr
    generalize hn : l.length = n at *
    go_enter Tryz.func21, Tryz.ntmps21
    go_wp2_with fail
    refine (HK.out _ (World.grownBy_alloc _ _ _)).mono ?_
    rintro e w2 ⟨rfl, hg2⟩
    obtain ⟨C, hmk, hC⟩ := made_tabs n (by omega)
    have HC := Lib.hid hC
    clear hC
    have b0 := (hg2.block w.heap.size (by simp) (by simp)).trans (heap_alloc_new w _)
    have hlt := (Array.getElem?_eq_some_iff.1 b0).1
    obtain ⟨b, hb⟩ : ∃ b, b = w.heap.size := ⟨_, rfl⟩
    rw [← hb] at b0 hlt
    have up : ∀ (W : World) (x : Obj) o o', b < W.heap.size → W.heap[b]? = some x → ((W.alloc o).alloc o').heap[b]? = some x := fun W x o o' hl hx => (((World.grownBy_alloc W o none).trans (World.grownBy_alloc _ o' none)).block b hl (by simp)).trans hx
    have b1 : ∀ v o o', (((w2.alloc o).alloc o').setCell ⟨b, 0, none⟩ v).heap[b]? = some (.cells #[v, .slice none 0 0, .slice none 0 0] 29 (0, 0)) := fun v o o' => by simpa using heap_setCell_same _ _ 0 _ _ v (up w2 _ o o' hlt b0)
    have b2 : ∀ v u o o', ((((w2.alloc o).alloc o').setCell ⟨b, 0, none⟩ v).setCell ⟨b, 1, none⟩ u).heap[b]? = some (.cells #[v, u, .slice none 0 0] 29 (0, 0)) := fun v u o o' => by simpa using heap_setCell_same _ _ 1 _ _ u (b1 v o o')
    have b3 : ∀ v u z o o', (((((w2.alloc o).alloc o').setCell ⟨b, 0, none⟩ v).setCell ⟨b, 1, none⟩ u).setCell ⟨b, 2, none⟩ z).heap[b]? = some (.cells #[v, u, z] 29 (0, 0)) := fun v u z o o' => by simpa using heap_setCell_same _ _ 2 _ _ z (b2 v u o o')
    have c0 := fun o o' => cell_of_row _ _ 0 _ _ _ (up w2 _ o o' hlt b0)
    have c1 := fun v o o' => cell_of_row _ _ 1 _ _ _ (b1 v o o')
    have c2 := fun v u o o' => cell_of_row _ _ 2 _ _ _ (b2 v u o o')
    have f0 := fun o o' => froz_of (up w2 _ o o' hlt b0) 0
    have f1 := fun v o o' => froz_of (b1 v o o') 1
    have f2 := fun v u o o' => froz_of (b2 v u o o') 2
    have z0 := fun v u z o o' => cell_of_row _ _ 0 _ _ _ (b3 v u z o o')
    have z1 := fun v u z o o' => cell_of_row _ _ 1 _ _ _ (b3 v u z o o')
    have z2 := fun v u z o o' => cell_of_row _ _ 2 _ _ _ (b3 v u z o o')
    simp only [List.getElem?_toArray, List.getElem?_cons_zero, List.getElem?_cons_succ] at c0 c1 c2 z0 z1 z2
    have K2 := Lib.hid ((World.grownBy_alloc w _ none).trans hg2)
    have L2 := Lib.hid hlt
    clear b0 b1 b2 b3 up hg2 hlt
    subst hb
    go_wp2_with fail
    refine bodyPost_ret (v := .tuple #[.agg #[.slice a n cap, .slice (some ⟨w2.heap.size + 1, 0, none⟩) 1 1, .slice none 0 0], .int .i64 0]) (by simp [results, Tryz.results21, go_sem, z0, z1, z2]) rfl ?_
    have hlt := K2.out.size
    have hlt2 : w.heap.size < w2.heap.size := L2.out
    have e1 := heap_alloc_new w2 (.cells C 56)
    have s1 : (w2.alloc (.cells C 56)).heap.size = w2.heap.size + 1 := by simp
    have g1 := World.grownBy_alloc w2 (.cells C 56) none
    generalize w2.alloc (.cells C 56) = wa at *
    have e2 := heap_alloc_new wa (.cells #[.slice (some ⟨w2.heap.size, 0, none⟩) n n] 47)
    have g2 := World.grownBy_alloc wa (.cells #[.slice (some ⟨w2.heap.size, 0, none⟩) n n] 47) none
    rw [s1] at e2
    have e3 := (g2.block w2.heap.size (by omega) (by simp)).trans e1
    generalize wa.alloc (.cells #[.slice (some ⟨w2.heap.size, 0, none⟩) n n] 47) = wb at *
    obtain ⟨wf, hwf⟩ : ∃ wf, wf = (((wb.setCell ⟨w.heap.size, 0, none⟩ (.slice a n cap)).setCell ⟨w.heap.size, 1, none⟩ (.slice (some ⟨w2.heap.size + 1, 0, none⟩) 1 1)).setCell ⟨w.heap.size, 2, none⟩ (.slice none 0 0)) := ⟨_, rfl⟩
    have ho : Only (fun k => k = w.heap.size) wb wf := by
      rw [hwf]
      exact ((Only.one _ wb 0 _).trans (Only.one _ _ 1 _) (fun _ e => .inl e)).trans (Only.one _ _ 2 _) (fun _ e => .inl e)
    rw [← hwf]
    have l2 := (Array.getElem?_eq_some_iff.1 e2).1
    have l3 := (Array.getElem?_eq_some_iff.1 e3).1
    have e2 := (ho.block _ l2 (by omega)).trans e2
    have e3 := (ho.block _ l3 (by omega)).trans e3
    refine ⟨.inl ⟨HR.out, _, ⟨w2.heap.size + 1, w2.heap.size, rfl, by omega, by omega, cell_of_row _ _ 0 _ _ _ e2, fun i hi => ?_⟩, rfl⟩, only_grown (K2.out.trans (g1.trans g2)) ho (fun k hk => by have e : k = w.heap.size := hk; omega)⟩
    rw [cell_of_row _ _ i _ _ _ e3]
    exact HC.out i hi
  · have HK : Hid (∀ W, w.grownBy W none → Calls Tryz.prog 39 #[.slice a l.length cap] W fun e w' => (∃ k y, Flaw6 (FullG l) (MalG l) (TwcG l) l.length k y ∧ (y = 3 ∨ y = 2 ∨ y = 23) ∧ e = .returned (.tuple #[.int .i64 k, .int .i64 y])) ∧ W.grownBy w' none) := Lib.hid fun W hW => (refCheck_all a cap l W ((h.keep hW (by simp)).mono hW.size) hcap hcs hN).mono fun e w' h => ⟨by
      rcases h.1 with ⟨h, _⟩ | ⟨k, y, h, e⟩
      · exact absurd h hr
      · exact ⟨k, y, h, by rcases h.2.2 with ⟨_, h⟩ | ⟨_, _, h⟩ | ⟨_, _, _, h⟩ <;> simp [h], e⟩, h.2⟩
    obtain ⟨FL, hFL⟩ : ∃ FL : Nat → Int → Prop, FL = fun k y => Flaw6 (FullG l) (MalG l) (TwcG l) l.length k y := ⟨_, rfl⟩
    refine (?_ : Calls Tryz.prog 21 #[.slice a l.length cap] w fun e w' => (∃ (k : Nat) (y : Int), FL k y ∧ e = .returned (.tuple #[.agg #[.slice none 0 0, .slice none 0 0, .slice none 0 0], .int .i64 y])) ∧ w.grownBy w' none).mono fun e w' h => ⟨.inr (by rw [hFL] at h; exact h.1), h.2⟩
    have HK2 : Hid (∀ W, w.grownBy W none → Calls Tryz.prog 39 #[.slice a l.length cap] W fun e w' => (∃ (k : Nat) (y : Int), FL k y ∧ (y = 3 ∨ y = 2 ∨ y = 23) ∧ e = .returned (.tuple #[.int .i64 k, .int .i64 y])) ∧ W.grownBy w' none) := Lib.hid (by rw [hFL]; exact HK.out)
    clear h hcap hcs hN hr hFL HK
    generalize l.length = n at *
    go_enter Tryz.func21, Tryz.ntmps21
    go_wp2_with fail
    refine (HK2.out _ (World.grownBy_alloc _ _ _)).mono ?_
    rintro e w2 ⟨⟨k, y, hfl, hy, rfl⟩, hg2⟩
    have FH := Lib.hid hfl
    have b0 := (hg2.block w.heap.size (by simp) (by simp)).trans (heap_alloc_new w _)
    have K2 := Lib.hid ((World.grownBy_alloc w _ none).trans hg2)
    clear hfl hg2
    have c0 := cell_of_row _ _ 0 _ _ _ b0
    have c1 := cell_of_row _ _ 1 _ _ _ b0
    have c2 := cell_of_row _ _ 2 _ _ _ b0
    have f0 := froz_of b0 0
    have f1 := froz_of b0 1
    have f2 := froz_of b0 2
    simp at c0 c1 c2
    clear b0
    rcases hy with rfl | rfl | rfl
    all_goals
      go_wp2_with fail
      refine bodyPost_ret (v := .tuple #[.agg #[.slice none 0 0, .slice none 0 0, .slice none 0 0], .int .i64 _]) (by simp [results, Tryz.results21, go_sem, c0, c1, c2]) rfl ⟨⟨k, _, FH.out, rfl⟩, ?_⟩
      exact grown_cell9 (grown_cell9 (grown_cell9 K2.out (Nat.le_refl _) _ _) (Nat.le_refl _) _ _) (Nat.le_refl _) _ _
end Go.Proofs.YtnfpomjcofhppaaGreatDoor
namespace Go.Proofs.YtnfpomjcofhppaaGreatDoor
open Go.RowKit

section
variable {ts : List Tb} {tr : Nat → Tre} {k : Nat} {f : Int → Option (List Vl)}
theorem nil_ne_rX (n : Int) (s : ByteArray) : (([] : List Vl)) ≠ rX n s := by simp [rX]
theorem ExT.one_new (hx : ExT ts) (h : Xs tr k f) (n : Int) (s : ByteArray) (a : Ptr) (c : Nat) (hs : s.size ≤ 60) (hf : f n = none) (hk : k < 200) :
    ∃ ms, commitM ts tr [⟨1, ⟨#[116]⟩, ⟨a, c, rX n s⟩⟩] = .ok ms ∧ Xs ms.tr (k + 1) (updX f n (some (rX n s))) := by
  have hd := h.doPut hx [] [] n s a c hs rfl (by rw [hf]; exact nil_ne_rX n s)
  have hX := h.put_new n s hf
  exact ⟨_, commit_one hd (by rw [hX.full]; omega), hX⟩
theorem ExT.one_over (hx : ExT ts) (h : Xs tr k f) (n : Int) (s : ByteArray) (a : Ptr) (c : Nat) (hs : s.size ≤ 60) (hf : f n = none) (hk : 200 ≤ k) :
    commitM ts tr [⟨1, ⟨#[116]⟩, ⟨a, c, rX n s⟩⟩] = .error 3 := by
  have hd := h.doPut hx [] [] n s a c hs rfl (by rw [hf]; exact nil_ne_rX n s)
  have hX := h.put_new n s hf
  exact commit_one_full hd (by rw [hX.full]; omega)
theorem ExT.one_old (hx : ExT ts) (h : Xs tr k f) (n : Int) (s : ByteArray) (a : Ptr) (c : Nat) {r : List Vl} (hs : s.size ≤ 60) (hf : f n = some r) (hr : r ≠ rX n s) (hk : k ≤ 200) :
    ∃ ms, commitM ts tr [⟨1, ⟨#[116]⟩, ⟨a, c, rX n s⟩⟩] = .ok ms ∧ Xs ms.tr k (updX f n (some (rX n s))) := by
  have hd := h.doPut hx [] [] n s a c hs rfl (by rw [hf]; exact hr)
  have hX := h.put_old n s hf
  exact ⟨_, commit_one hd (by rw [hX.full]; omega), hX⟩
theorem ExT.same (hx : ExT ts) (h : Xs tr k f) (n : Int) (s : ByteArray) (a : Ptr) (c : Nat) (hs : s.size ≤ 60) (hf : f n = some (rX n s)) (hk : k ≤ 200) :
    ∃ ms, commitM ts tr [⟨1, ⟨#[116]⟩, ⟨a, c, rX n s⟩⟩] = .ok ms ∧ ms.ch.length = 0 ∧ Xs ms.tr k f := by
  have hd := h.doSame hx [] [] n s a c hs rfl hf
  exact ⟨_, commit_one hd (by rw [h.full]; omega), rfl, h⟩
theorem ExT.none (hx : ExT ts) (h : Xs tr k f) (n : Int) (a : Ptr) (c : Nat) (hf : f n = .none) : commitM ts tr [⟨2, ⟨#[116]⟩, ⟨a, c, [viV n]⟩⟩] = .error 22 :=
  commit_one_err (h.doNone hx [] [] n a c rfl hf)
theorem ExT.two (hx : ExT ts) (h : Xs tr k f) (n m : Int) (s s' : ByteArray) (a a' : Ptr) (c c' : Nat) (hs : s.size ≤ 60) (hs' : s'.size ≤ 60) (hf : f n = .none) (hf' : f m = .none) (hne : n ≠ m) (hk : k + 2 ≤ 200) :
    ∃ ms, commitM ts tr [⟨1, ⟨#[116]⟩, ⟨a, c, rX n s⟩⟩, ⟨1, ⟨#[116]⟩, ⟨a', c', rX m s'⟩⟩] = .ok ms ∧ ms.ch.length = 2 ∧ Xs ms.tr (k + 1 + 1) (updX (updX f n (some (rX n s))) m (some (rX m s'))) := by
  have hd := h.doPut hx [] [] n s a c hs rfl (by rw [hf]; exact nil_ne_rX n s)
  have hX := h.put_new n s hf
  have hf2 : updX f n (some (rX n s)) m = .none := by unfold updX; rw [if_neg (fun e => hne e.symm)]; exact hf'
  have hd2 := hX.doPut hx ([] ++ [((ts.getD 0 default).n, (f n).getD [], rX n s)]) ([] ++ [(((0 : Nat) : Int), [viV n])]) m s' a' c' hs' (hit_ne hne) (by rw [hf2]; exact nil_ne_rX m s')
  have hX2 := hX.put_new m s' hf2
  exact ⟨_, commit_two hd hd2 (by rw [hX2.full]; omega), rfl, hX2⟩
theorem ExT.swap (hx : ExT ts) (h : Xs tr (k + 1) f) (n m : Int) (s : ByteArray) (a a' : Ptr) (c c' : Nat) {r : List Vl} (hs : s.size ≤ 60) (hf : f n = some r) (hf' : f m = .none) (hne : n ≠ m) (hk : k + 1 ≤ 200) :
    ∃ ms, commitM ts tr [⟨2, ⟨#[116]⟩, ⟨a, c, [viV n]⟩⟩, ⟨1, ⟨#[116]⟩, ⟨a', c', rX m s⟩⟩] = .ok ms ∧ Xs ms.tr (k + 1) (updX (updX f n .none) m (some (rX m s))) := by
  have hd := h.doDel hx [] [] n a c rfl hf
  have hX := h.del n hf
  have hf2 : updX f n .none m = .none := by unfold updX; rw [if_neg (fun e => hne e.symm)]; exact hf'
  have hd2 := hX.doPut hx ([] ++ [((ts.getD 0 default).n, r, [])]) ([] ++ [(((0 : Nat) : Int), [viV n])]) m s a' c' hs (hit_ne hne) (by rw [hf2]; exact nil_ne_rX m s)
  have hX2 := hX.put_new m s hf2
  exact ⟨_, commit_two hd hd2 (by rw [hX2.full]; omega), hX2⟩
end
/-- The example's store in memory, counted. -/
structure XS (w0 : World) (G b : Nat) (w : World) (s : Stm) (k : Nat) (f : Int → Option (List Vl)) : Prop where
  at_ : SAt w0.heap.size w s
  err : ErrT G w
  hb : s.b = b
  ex : ExT s.ts
  xs : Xs s.top.tr k f
  gb : G ≤ w0.heap.size
  gr : w0.grownBy w none
section
variable {w0 w w2 : World} {G b k : Nat} {s : Stm} {f : Int → Option (List Vl)}
theorem XS.keepG (h : XS w0 G b w s k f) (hg : w.grownBy w2 none) : XS w0 G b w2 s k f := ⟨h.at_.keepG hg, h.err.grown hg, h.hb, h.ex, h.xs, h.gb, h.gr.trans hg⟩
theorem XS.commit (h : XS w0 G b w s k f) {k' : Nat} {f' : Int → Option (List Vl)} {ms : Ms} (oa : Ptr) (oc : Nat) (l : List Om) (ho : OpS (fun j => ¬ s.M j) w oa l) (hoc : l.length ≤ oc) (hv : s.v < 100000) (hm : commitM s.ts s.top.tr l = .ok ms) (hX : Xs ms.tr k' f') :
    Calls Tryz.prog 7 #[.pointer (some ⟨b, 0, none⟩), .slice oa l.length oc] w fun e w' => ∃ s' a cap, e = .returned (.tuple #[.agg #[.int .i64 (s.v + 1), .slice a ms.ch.length cap], .int .i64 0]) ∧ XS w0 G b w' s' k' f' ∧ s'.v = s.v + 1 ∧ Only s.M w w' := by
  have hc := commitX_ok w0.heap.size G s oa oc l ms w h.at_ h.err ho hoc hv h.gr.size hm
  rw [h.hb] at hc
  refine hc.mono ?_
  rintro e w' ⟨s', a, cap, rfl, ht⟩
  have hg : w0.grownBy w' none := only_grown h.gr ht.only h.at_.low
  exact ⟨s', a, cap, rfl, ⟨ht.at_, h.err.only ht.only (fun j hj => Nat.le_trans h.gb (h.at_.low j hj)), ht.b.trans h.hb, by rw [ht.ts]; exact h.ex, by rw [ht.tr]; exact hX, h.gb, hg⟩, ht.v, ht.only⟩
theorem XS.commitE (h : XS w0 G b w s k f) (oa : Ptr) (oc : Nat) (l : List Om) (c : Int) (ho : OpS (fun j => ¬ s.M j) w oa l) (hoc : l.length ≤ oc) (hv : s.v < 100000) (hm : commitM s.ts s.top.tr l = .error c) :
    Calls Tryz.prog 7 #[.pointer (some ⟨b, 0, none⟩), .slice oa l.length oc] w fun e w' => e = .returned (.tuple #[.agg #[.int .i64 0, .slice none 0 0], .int .i64 c]) ∧ w.grownBy w' none := by
  have hc := commitX_err w0.heap.size G s oa oc l c w h.at_ h.err ho hoc hv h.gr.size hm
  rw [h.hb] at hc
  exact hc
theorem XS.fresh (h : XS w0 G b w s k f) {a : Ptr} {l : List Vl} (hr : RwS (fun j => w.heap.size ≤ j) w2 a l) : RwS (fun j => ¬ s.M j) w2 a l := hr.mono (fun j _ hj e => by have := h.at_.lt j e; omega)
theorem XS.new (h : XS w0 G b w s k f) (hg : w.grownBy w2 none) : ¬ s.M w2.heap.size := fun e => by have := h.at_.lt _ e; have := hg.size; omega
variable {w3 : World}
theorem XS.putNew (h : XS w0 G b w s k f) (hg : w.grownBy w2 none) (a : Ptr) (n : Int) (sx : ByteArray) (hr : RwS (fun j => w.heap.size ≤ j) w2 a (rX n sx)) (hs : sx.size ≤ 60) (hf : f n = .none) (hk : k < 200) (hv : s.v < 100000) :
    Calls Tryz.prog 7 #[.pointer (some ⟨b, 0, none⟩), .slice (some ⟨w2.heap.size, 0, none⟩) 1 1] (w2.alloc (.cells #[.int .i64 1, .string ⟨#[116]⟩, .slice a 2 2] 70)) fun e w' => ∃ s' v a n' cap, e = .returned (.tuple #[.agg #[.int .i64 v, .slice a n' cap], .int .i64 0]) ∧ XS w0 G b w' s' (k + 1) (updX f n (some (rX n sx))) ∧ s'.v = s.v + 1 := by
  obtain ⟨ms, hm, hX⟩ := h.ex.one_new h.xs n sx a 2 hs hf hk
  refine ((h.keepG (hg.trans (World.grownBy_alloc w2 _ none))).commit (some ⟨w2.heap.size, 0, none⟩) 1 _ (op_one 70 1 ⟨#[116]⟩ a 2 (rX n sx) (h.fresh hr) (Nat.le_refl 2) (h.new hg)) (Nat.le_refl 1) hv hm hX).mono ?_
  rintro e w' ⟨s', a', cap, rfl, h1, h2, _⟩
  exact ⟨s', _, a', _, cap, rfl, h1, h2⟩
theorem XS.putOver (h : XS w0 G b w s k f) (hg : w.grownBy w2 none) (a : Ptr) (n : Int) (sx : ByteArray) (hr : RwS (fun j => w.heap.size ≤ j) w2 a (rX n sx)) (hs : sx.size ≤ 60) (hf : f n = .none) (hk : 200 ≤ k) (hv : s.v < 100000) :
    Calls Tryz.prog 7 #[.pointer (some ⟨b, 0, none⟩), .slice (some ⟨w2.heap.size, 0, none⟩) 1 1] (w2.alloc (.cells #[.int .i64 1, .string ⟨#[116]⟩, .slice a 2 2] 70)) fun e w' => e = .returned (.tuple #[.agg #[.int .i64 0, .slice none 0 0], .int .i64 3]) ∧ XS w0 G b w' s k f := by
  have hm := h.ex.one_over h.xs n sx a 2 hs hf hk
  have hx := h.keepG (hg.trans (World.grownBy_alloc w2 (.cells #[.int .i64 1, .string ⟨#[116]⟩, .slice a 2 2] 70) none))
  refine (hx.commitE (some ⟨w2.heap.size, 0, none⟩) 1 _ 3 (op_one 70 1 ⟨#[116]⟩ a 2 (rX n sx) (h.fresh hr) (Nat.le_refl 2) (h.new hg)) (Nat.le_refl 1) hv hm).mono ?_
  rintro e w' ⟨rfl, h1⟩
  exact ⟨rfl, hx.keepG h1⟩
theorem XS.putOld (h : XS w0 G b w s k f) (hg : w.grownBy w2 none) (a : Ptr) (n : Int) (sx : ByteArray) {r : List Vl} (hr : RwS (fun j => w.heap.size ≤ j) w2 a (rX n sx)) (hs : sx.size ≤ 60) (hf : f n = some r) (hne : r ≠ rX n sx) (hk : k ≤ 200) (hv : s.v < 100000) :
    Calls Tryz.prog 7 #[.pointer (some ⟨b, 0, none⟩), .slice (some ⟨w2.heap.size, 0, none⟩) 1 1] (w2.alloc (.cells #[.int .i64 1, .string ⟨#[116]⟩, .slice a 2 2] 70)) fun e w' => ∃ s' v a n' cap, e = .returned (.tuple #[.agg #[.int .i64 v, .slice a n' cap], .int .i64 0]) ∧ XS w0 G b w' s' k (updX f n (some (rX n sx))) ∧ s'.v = s.v + 1 := by
  obtain ⟨ms, hm, hX⟩ := h.ex.one_old h.xs n sx a 2 hs hf hne hk
  refine ((h.keepG (hg.trans (World.grownBy_alloc w2 _ none))).commit (some ⟨w2.heap.size, 0, none⟩) 1 _ (op_one 70 1 ⟨#[116]⟩ a 2 (rX n sx) (h.fresh hr) (Nat.le_refl 2) (h.new hg)) (Nat.le_refl 1) hv hm hX).mono ?_
  rintro e w' ⟨s', a', cap, rfl, h1, h2, _⟩
  exact ⟨s', _, a', _, cap, rfl, h1, h2⟩
theorem XS.putSame (h : XS w0 G b w s k f) (hg : w.grownBy w2 none) (a : Ptr) (n : Int) (sx : ByteArray) (hr : RwS (fun j => w.heap.size ≤ j) w2 a (rX n sx)) (hs : sx.size ≤ 60) (hf : f n = some (rX n sx)) (hk : k ≤ 200) (hv : s.v < 100000) :
    Calls Tryz.prog 7 #[.pointer (some ⟨b, 0, none⟩), .slice (some ⟨w2.heap.size, 0, none⟩) 1 1] (w2.alloc (.cells #[.int .i64 1, .string ⟨#[116]⟩, .slice a 2 2] 70)) fun e w' => ∃ s' a cap, e = .returned (.tuple #[.agg #[.int .i64 (s.v + 1), .slice a 0 cap], .int .i64 0]) ∧ XS w0 G b w' s' k f ∧ s'.v = s.v + 1 ∧ (∀ j, j < w.heap.size → ¬ s.M j → w'.heap[j]? = w.heap[j]?) := by
  obtain ⟨ms, hm, hl, hX⟩ := h.ex.same h.xs n sx a 2 hs hf hk
  refine ((h.keepG (hg.trans (World.grownBy_alloc w2 _ none))).commit (some ⟨w2.heap.size, 0, none⟩) 1 _ (op_one 70 1 ⟨#[116]⟩ a 2 (rX n sx) (h.fresh hr) (Nat.le_refl 2) (h.new hg)) (Nat.le_refl 1) hv hm hX).mono ?_
  rintro e w' ⟨s', a', cap, rfl, h1, h2, h3⟩
  have hgg := hg.trans (World.grownBy_alloc w2 (.cells #[.int .i64 1, .string ⟨#[116]⟩, .slice a 2 2] 70) none)
  exact ⟨s', a', cap, by rw [hl], h1, h2, fun j hj hM => (h3.block j (Nat.lt_of_lt_of_le hj hgg.size) hM).trans (hgg.block j hj (by simp))⟩
theorem XS.delNone (h : XS w0 G b w s k f) (hg : w.grownBy w2 none) (a : Ptr) (n : Int) (hr : RwS (fun j => w.heap.size ≤ j) w2 a [viV n]) (hf : f n = .none) (hv : s.v < 100000) :
    Calls Tryz.prog 7 #[.pointer (some ⟨b, 0, none⟩), .slice (some ⟨w2.heap.size, 0, none⟩) 1 1] (w2.alloc (.cells #[.int .i64 2, .string ⟨#[116]⟩, .slice a 1 1] 70)) fun e w' => e = .returned (.tuple #[.agg #[.int .i64 0, .slice none 0 0], .int .i64 22]) ∧ XS w0 G b w' s k f ∧ w.grownBy w' none := by
  have hm := h.ex.none h.xs n a 1 hf
  have hx := h.keepG (hg.trans (World.grownBy_alloc w2 (.cells #[.int .i64 2, .string ⟨#[116]⟩, .slice a 1 1] 70) none))
  refine (hx.commitE (some ⟨w2.heap.size, 0, none⟩) 1 _ 22 (op_one 70 2 ⟨#[116]⟩ a 1 [viV n] (h.fresh hr) (Nat.le_refl 1) (h.new hg)) (Nat.le_refl 1) hv hm).mono ?_
  rintro e w' ⟨rfl, h1⟩
  exact ⟨rfl, hx.keepG h1, (hg.trans (World.grownBy_alloc w2 _ none)).trans h1⟩
theorem XS.putTwo (h : XS w0 G b w s k f) (hg : w.grownBy w2 none) (hg3 : w2.grownBy w3 none) (a a' : Ptr) (n m : Int) (sx sy : ByteArray) (hr : RwS (fun j => w.heap.size ≤ j) w2 a (rX n sx)) (hr' : RwS (fun j => w2.heap.size ≤ j) w3 a' (rX m sy)) (hs : sx.size ≤ 60) (hs' : sy.size ≤ 60) (hf : f n = .none) (hf' : f m = .none) (hne : n ≠ m) (hk : k + 2 ≤ 200) (hv : s.v < 100000) :
    Calls Tryz.prog 7 #[.pointer (some ⟨b, 0, none⟩), .slice (some ⟨w3.heap.size, 0, none⟩) 2 2] (w3.alloc (.cells #[.int .i64 1, .string ⟨#[116]⟩, .slice a 2 2, .int .i64 1, .string ⟨#[116]⟩, .slice a' 2 2] 70)) fun e w' => ∃ s' a cap, e = .returned (.tuple #[.agg #[.int .i64 (s.v + 1), .slice a 2 cap], .int .i64 0]) ∧ XS w0 G b w' s' (k + 1 + 1) (updX (updX f n (some (rX n sx))) m (some (rX m sy))) ∧ s'.v = s.v + 1 := by
  obtain ⟨ms, hm, hl, hX⟩ := h.ex.two h.xs n m sx sy a a' 2 2 hs hs' hf hf' hne hk
  refine ((h.keepG ((hg.trans hg3).trans (World.grownBy_alloc w3 _ none))).commit (some ⟨w3.heap.size, 0, none⟩) 2 _ (op_two 70 1 1 ⟨#[116]⟩ ⟨#[116]⟩ a a' 2 2 (rX n sx) (rX m sy) ((h.fresh hr).keep (.of hg3)) (Nat.le_refl 2) ((h.keepG hg).fresh hr') (Nat.le_refl 2) (h.new (hg.trans hg3))) (Nat.le_refl 2) hv hm hX).mono ?_
  rintro e w' ⟨s', a', cap, rfl, h1, h2, _⟩
  exact ⟨s', a', cap, by rw [hl], h1, h2⟩
theorem XS.swap (h : XS w0 G b w s (k + 1) f) (hg : w.grownBy w2 none) (hg3 : w2.grownBy w3 none) (a a' : Ptr) (n m : Int) (sy : ByteArray) {r : List Vl} (hr : RwS (fun j => w.heap.size ≤ j) w2 a [viV n]) (hr' : RwS (fun j => w2.heap.size ≤ j) w3 a' (rX m sy)) (hs' : sy.size ≤ 60) (hf : f n = some r) (hf' : f m = .none) (hne : n ≠ m) (hk : k + 1 ≤ 200) (hv : s.v < 100000) :
    Calls Tryz.prog 7 #[.pointer (some ⟨b, 0, none⟩), .slice (some ⟨w3.heap.size, 0, none⟩) 2 2] (w3.alloc (.cells #[.int .i64 2, .string ⟨#[116]⟩, .slice a 1 1, .int .i64 1, .string ⟨#[116]⟩, .slice a' 2 2] 70)) fun e w' => ∃ s' v a n' cap, e = .returned (.tuple #[.agg #[.int .i64 v, .slice a n' cap], .int .i64 0]) ∧ XS w0 G b w' s' (k + 1) (updX (updX f n .none) m (some (rX m sy))) ∧ s'.v = s.v + 1 := by
  obtain ⟨ms, hm, hX⟩ := h.ex.swap h.xs n m sy a a' 1 2 hs' hf hf' hne hk
  refine ((h.keepG ((hg.trans hg3).trans (World.grownBy_alloc w3 _ none))).commit (some ⟨w3.heap.size, 0, none⟩) 2 _ (op_two 70 2 1 ⟨#[116]⟩ ⟨#[116]⟩ a a' 1 2 [viV n] (rX m sy) ((h.fresh hr).keep (.of hg3)) (Nat.le_refl 1) ((h.keepG hg).fresh hr') (Nat.le_refl 2) (h.new (hg.trans hg3))) (Nat.le_refl 2) hv hm hX).mono ?_
  rintro e w' ⟨s', a', cap, rfl, h1, h2, _⟩
  exact ⟨s', _, a', _, cap, rfl, h1, h2⟩
end
end Go.Proofs.YtnfpomjcofhppaaGreatDoor
namespace Go.Proofs.YtnfpomjcofhppaaGreatDoor
open Go.RowKit

theorem SAt.mono {B B' : Nat} {w : World} {s : Stm} (h : SAt B w s) (hB : B' ≤ B) : SAt B' w s :=
  ⟨h.blk, h.jou, h.win, h.cat, h.tre, h.few, h.kept, h.vers, h.ok, h.hcc, h.trs, h.nsb, fun k hk => Nat.le_trans hB (h.low k hk), h.v0, h.v1⟩
set_option maxRecDepth 100000 in
set_option maxHeartbeats 1600000 in
theorem newS_ok9 (a : Option Addr) (cap G : Nat) (S : Nat → Prop) (l : List Tb) (w : World) (h : TbsS S w a l) (hcap : l.length ≤ cap) (hcs : ∀ t ∈ l, t.l.length ≤ t.cap) (hw : WhyG w) (hE : ErrT G w) (hr : RightG l) :
    Calls Tryz.prog 17 #[.slice a l.length cap] w fun e w' => (∃ s : Stm, e = .returned (.tuple #[.pointer (some ⟨s.b, 0, none⟩), .int .i64 0]) ∧ SAt w.heap.size w' s ∧ s.v = 0 ∧ s.cs = [] ∧ s.sn = [default] ∧ s.ts.map Tb.p = l.map Tb.p ∧ TbsS (fun b => w.heap.size ≤ b ∧ ¬ s.M b) w' s.ca s.ts) ∧ w.grownBy w' none := by
  have hl : l.length ≤ 100 := by
    rcases Nat.lt_or_ge 6 l.length with h | h
    · have := (hr 6 h).1.1; omega
    · omega
  have hcl : ∀ t ∈ l, t.l.length ≤ 100 := fun t ht => by
    obtain ⟨i, hi, rfl⟩ := List.getElem_of_mem ht
    have := (hr i hi).1.2.2
    simp only [List.getD, List.getElem?_eq_getElem hi, Option.getD_some] at this
    omega
  have HC : Hid (Calls Tryz.prog 36 #[.slice a l.length cap] w fun e w' => e = .returned (.tuple #[.int .i64 0, .int .i64 0]) ∧ w.grownBy w' none) := Lib.hid ((check_any a cap G l w h.tabs hcap hcs hw hE).mono fun e w' h => ⟨by
    rcases h.1 with ⟨_, h⟩ | ⟨k, y, h, _⟩
    · exact h
    · exact absurd hr h.not, h.2⟩)
  have HQ := Lib.hid hr
  have HP := Lib.hid (fun W (hW : w.grownBy W none) => copiedT_any S a cap l W (h.keep (.of hW)) hl hcl)
  have HJ := Lib.hid newJ_any
  have Hl := Lib.hid hl
  clear h hl hcl hcap hcs hw hE hr
  go_enter Tryz.func17, Tryz.ntmps17
  go_wp2_with fail
  refine HC.out.mono ?_
  rintro e w2 ⟨rfl, hg⟩
  have K2 := Lib.hid hg
  clear hg
  go_wp2_with fail
  refine (HJ.out _).mono ?_
  rintro e w3 ⟨⟨J, rfl, hJ, hjs⟩, hg⟩
  have K3 := Lib.hid (K2.out.trans hg)
  have J3 := Lib.hid hjs
  have JE := Lib.hid hJ
  have KJ := Lib.hid hg
  clear hg hjs hJ
  go_wp2_with fail
  refine (HP.out _ K3.out).mono ?_
  rintro e w4 ⟨⟨a', cap', l', rfl, e1, e2, e3, e4, e5⟩, hg⟩
  have K4 := Lib.hid hg
  have P1 := Lib.hid e1
  have P2 := Lib.hid e2
  have P3 := Lib.hid e3
  have P4 := Lib.hid e4
  have P5 := Lib.hid e5
  clear hg e1 e2 e3 e4 e5
  go_wp2_with fail
  go_ret2
  refine ⟨⟨newStm (w4.heap.size + 1) J w4.heap.size cap' a' l', rfl, ?_, rfl, rfl, rfl, P3.out, ?_⟩, K3.out.trans (K4.out.trans ((World.grownBy_alloc _ _ _).trans (World.grownBy_alloc _ _ _)))⟩
  rotate_left
  · have hJl := J3.out.jn.lt
    have h3 := K3.out.size
    have h4 := K4.out.size
    refine (P4.out.mono fun b hb1 hb2 => ⟨by omega, fun hm => ?_⟩).keep (.of ((World.grownBy_alloc _ _ none).trans (World.grownBy_alloc _ _ none)))
    rcases hm with h | h | h | h
    · simp only [newStm] at h; omega
    · simp [newStm, bk] at h
    · simp only [newStm] at h; omega
    · simp [newStm, bk] at h; omega
  rw [← P1.out]
  exact new_sat w.heap.size J cap' a' l' w3 w4 J3.out (by rw [JE.out]; exact K2.out.size) K4.out P4.out (catOk_of HQ.out P3.out P5.out) (by rw [P1.out]; exact P2.out)
/-- A store of a catalog, just made. -/
def Fresh9 (l : List Tb) (B : Nat) (w : World) (s : Stm) : Prop := SAt B w s ∧ s.v = 0 ∧ s.cs = [] ∧ s.sn = [default] ∧ s.ts.map Tb.p = l.map Tb.p ∧ TbsS (fun b => B ≤ b ∧ ¬ s.M b) w s.ca s.ts
theorem Fresh9.keep {l : List Tb} {B B' : Nat} {w w' : World} {s : Stm} (h : Fresh9 l B w s) (hB : B' ≤ B) (hg : w.grownBy w' none) : Fresh9 l B' w' s := ⟨(h.1.mono hB).keepG hg, h.2.1, h.2.2.1, h.2.2.2.1, h.2.2.2.2.1, (h.2.2.2.2.2.mono (fun b _ hb => ⟨by omega, hb.2⟩)).keep (.of hg)⟩
/-- An elder block is overwritten. -/
theorem Fresh9.only9 {l : List Tb} {B B' : Nat} {w w' : World} {s : Stm} {M : Nat → Prop} (h : Fresh9 l B w s) (ho : Only M w w') (hM : ∀ k, M k → k < B) (hB : B' ≤ B) : Fresh9 l B' w' s := by
  obtain ⟨h, v0, c0, n0, p0, ct⟩ := h
  have hno : ∀ k, s.M k → ¬ M k := fun k hk e => by have := h.low k hk; have := hM k e; omega
  have ct' : TbsS (fun b => B ≤ b ∧ ¬ s.M b) w' s.ca s.ts := ct.keep (ho.stays (fun b hb _ e => by have := hM b e; omega))
  refine ⟨⟨?_, ⟨?_, h.jou.win.keep ho (fun k hk => hno k (.inr (.inl hk))), fun x hx => by rw [c0] at hx; simp at hx, h.jou.neJ, h.jou.rJ, h.jou.ra, fun k hk => Nat.lt_of_lt_of_le (h.jou.rl k hk) ho.size, h.jou.vers⟩, h.win.keep ho (fun k hk => hno k (.inr (.inr (.inr hk)))), ct'.mono (fun b _ hb => hb.2), fun x hx i hi => ?_, h.few, h.kept, h.vers, h.ok, h.hcc, h.trs, h.nsb, fun k hk => Nat.le_trans hB (h.low k hk), h.v0, h.v1⟩, v0, c0, n0, p0, ct'.mono (fun b _ hb => ⟨by omega, hb.2⟩)⟩
  · exact (ho.block s.b (h.lt _ (.inr (.inr (.inl rfl)))) (hno _ (.inr (.inr (.inl rfl))))).trans h.blk
  · exact (ho.block s.J (h.lt _ (.inl rfl)) (hno _ (.inl rfl))).trans h.jou.jn
  · have ht := h.tre x hx i hi
    rw [n0] at hx
    obtain rfl : x = default := by simpa using hx
    exact ht
theorem few_right {l : List Tb} (h : RightG l) : fewB l = true := by
  have h6 : l.length ≤ 6 := by
    rcases Nat.lt_or_ge 6 l.length with h' | h'
    · have := (h 6 h').1.1; omega
    · exact h'
  unfold fewB
  rw [Bool.and_eq_true, List.all_eq_true]
  refine ⟨by simp; omega, fun t ht => ?_⟩
  obtain ⟨i, hi, rfl⟩ := List.getElem_of_mem ht
  have := (h i hi).1.2.2
  simp only [List.getD, List.getElem?_eq_getElem hi, Option.getD_some] at this
  simp; omega
theorem three_keep {W : World} {g b : Nat} {x0 x1 x2 : Value} (h : W.cell? ⟨g, 0, none⟩ = some x0 ∧ W.cell? ⟨g, 1, none⟩ = some x1 ∧ W.cell? ⟨g, 2, none⟩ = some x2) (hne : b < g) (v0 v1 v2 : Value) :
    ((((W.setCell ⟨b, 0, none⟩ v0).setCell ⟨b, 1, none⟩ v1).setCell ⟨b, 2, none⟩ v2).cell? ⟨g, 0, none⟩ = some x0 ∧ (((W.setCell ⟨b, 0, none⟩ v0).setCell ⟨b, 1, none⟩ v1).setCell ⟨b, 2, none⟩ v2).cell? ⟨g, 1, none⟩ = some x1 ∧ (((W.setCell ⟨b, 0, none⟩ v0).setCell ⟨b, 1, none⟩ v1).setCell ⟨b, 2, none⟩ v2).cell? ⟨g, 2, none⟩ = some x2) := by
  have e : (((W.setCell ⟨b, 0, none⟩ v0).setCell ⟨b, 1, none⟩ v1).setCell ⟨b, 2, none⟩ v2).heap[g]? = W.heap[g]? := by
    rw [Below.heap_setCell _ _ _ _ (by show g ≠ b; omega), Below.heap_setCell _ _ _ _ (by show g ≠ b; omega), Below.heap_setCell _ _ _ _ (by show g ≠ b; omega)]
  exact ⟨(World.cell?_of_block (a := ⟨g, 0, none⟩) e).trans h.1, (World.cell?_of_block (a := ⟨g, 1, none⟩) e).trans h.2.1, (World.cell?_of_block (a := ⟨g, 2, none⟩) e).trans h.2.2⟩
theorem three_block {W : World} {b : Nat} {T : TypeId} {x y z : Value} (h : W.heap[b]? = some (.cells #[x, y, z] T (0, 0))) (v0 v1 v2 : Value) : (((W.setCell ⟨b, 0, none⟩ v0).setCell ⟨b, 1, none⟩ v1).setCell ⟨b, 2, none⟩ v2).heap[b]? = some (.cells #[v0, v1, v2] T (0, 0)) := by
  have h0 := heap_setCell_same _ _ 0 _ _ v0 h
  have h1 := heap_setCell_same _ _ 1 _ _ v1 h0
  have h2 := heap_setCell_same _ _ 2 _ _ v2 h1
  simpa using h2
theorem three_grown {w W : World} {b : Nat} (hg : w.grownBy W none) (hb : w.heap.size ≤ b) (v0 v1 v2 : Value) : w.grownBy (((W.setCell ⟨b, 0, none⟩ v0).setCell ⟨b, 1, none⟩ v1).setCell ⟨b, 2, none⟩ v2) none :=
  grown_cell9 (grown_cell9 (grown_cell9 hg hb 0 v0) hb 1 v1) hb 2 v2
def Made9 (a : Ptr) (n cap : Nat) (l : List Tb) (w : World) (e : Ending) (w' : World) : Prop :=
  (e = .returned (.tuple #[.pointer none, .agg #[.slice none 0 0, .slice none 0 0, .slice none 0 0], .bool false])) ∨ (RightG l ∧ ∃ s p, e = .returned (.tuple #[.pointer (some ⟨Stm.b s, 0, none⟩), .agg #[.slice a n cap, .slice (some ⟨p, 0, none⟩) 1 1, .slice none 0 0], .bool true]) ∧ Fresh9 l w.heap.size w' s)
set_option maxRecDepth 100000 in
set_option maxHeartbeats 6400000 in
theorem make_any (G : Nat) (a : Option Addr) (cap : Nat) (l : List Tb) (w : World) (h : TabsAt w.heap.size w a l) (hcap : l.length ≤ cap) (hcs : ∀ t ∈ l, t.l.length ≤ t.cap) (hN : ∀ t ∈ l, t.n.size ≤ 9223372036854775807 ∧ ∀ i, i < t.l.length → (t.l.getD i default).n.size ≤ 9223372036854775807) (hw : WhyG w) (hE : ErrT G w) :
    Calls Tryz.prog 5 #[.slice a l.length cap] w fun e w' => Made9 a l.length cap l w e w' ∧ w.grownBy w' none := by
  have HF : Hid (∀ W, w.grownBy W none → Calls Tryz.prog 22 #[.slice a l.length cap] W fun e w' => e = .returned (.bool (fewB l)) ∧ W.grownBy w' none) := Lib.hid fun W hW => few_any (fun _ => True) a cap l W (.of ((h.keep hW (by simp)).mono hW.size)) hcap
  by_cases hr : RightG l
  · have HN : Hid (∀ W, w.grownBy W none → Calls Tryz.prog 17 #[.slice a l.length cap] W fun e w' => (∃ b, e = .returned (.tuple #[.pointer (some ⟨b, 0, none⟩), .int .i64 0]) ∧ Hid (∃ s : Stm, s.b = b ∧ Fresh9 l W.heap.size w' s)) ∧ W.grownBy w' none) := Lib.hid fun W hW => (newS_ok9 a cap G (fun _ => True) l W (.of ((h.keep hW (by simp)).mono hW.size)) hcap hcs (hw.grown hW) (hE.grown hW) hr).mono fun e w' ⟨⟨s, h1, h2, h3, h4, h5, h6, h8⟩, h7⟩ => ⟨⟨s.b, h1, Lib.hid ⟨s, rfl, h2, h3, h4, h5, h6, h8⟩⟩, h7⟩
    have HR : Hid (∀ W, w.grownBy W none → Calls Tryz.prog 21 #[.slice a l.length cap] W fun e w' => (∃ p, e = .returned (.tuple #[.agg #[.slice a l.length cap, .slice (some ⟨p, 0, none⟩) 1 1, .slice none 0 0], .int .i64 0])) ∧ W.grownBy w' none) := Lib.hid fun W hW => (refNew_any a cap l W ((h.keep hW (by simp)).mono hW.size) hcap hcs hN).mono fun e w' h => ⟨by
      rcases h.1 with ⟨_, v, ⟨p, q, rfl, _⟩, h⟩ | ⟨k, y, h, _⟩
      · exact ⟨p, h⟩
      · exact absurd hr h.not, h.2⟩
    have Hr := Lib.hid hr
    rw [few_right hr] at HF
    clear h hcap hcs hN hw hE hr
    generalize hn : l.length = n at *
    go_enter Tryz.func5, Tryz.ntmps5
    go_wp2_with fail
    have g0 := World.grownBy_alloc w (.cells #[.slice none 0 0, .slice none 0 0, .slice none 0 0] 29) none
    have b0 := heap_alloc_new w (.cells #[.slice none 0 0, .slice none 0 0, .slice none 0 0] 29)
    refine (HN.out _ g0).mono ?_
    rintro e w2 ⟨⟨b, rfl, hs⟩, hg2⟩
    have b0 := (hg2.block _ (by simp) (by simp)).trans b0
    have G2 := Lib.hid (g0.trans hg2)
    have FS := Lib.hid hs.out
    clear hs hg2 g0
    go_wp2_with fail
    refine (HR.out _ G2.out).mono ?_
    rintro e w3 ⟨⟨p, rfl⟩, hg3⟩
    have b0 := (hg3.block _ (Array.getElem?_eq_some_iff.1 b0).1 (by simp)).trans b0
    have g4 := World.grownBy_alloc w3 (.cells #[.slice a n cap, .slice (some ⟨p, 0, none⟩) 1 1, .slice none 0 0] 29) none
    have d0 := heap_alloc_new w3 (.cells #[.slice a n cap, .slice (some ⟨p, 0, none⟩) 1 1, .slice none 0 0] 29)
    have b4 := (g4.block _ (Array.getElem?_eq_some_iff.1 b0).1 (by simp)).trans b0
    have G4 := Lib.hid (G2.out.trans (hg3.trans g4))
    have G24 := Lib.hid (hg3.trans g4)
    have BB : Hid (∀ W, (w3.alloc (.cells #[.slice a n cap, .slice (some ⟨p, 0, none⟩) 1 1, .slice none 0 0] 29)).grownBy W none → W.heap[w.heap.size]? = some (.cells #[.slice none 0 0, .slice none 0 0, .slice none 0 0] 29 (0, 0)) ∧ W.heap[w3.heap.size]? = some (.cells #[.slice a n cap, .slice (some ⟨p, 0, none⟩) 1 1, .slice none 0 0] 29 (0, 0))) := Lib.hid fun W hW => ⟨(hW.block _ (Array.getElem?_eq_some_iff.1 b4).1 (by simp)).trans b4, (hW.block _ (Array.getElem?_eq_some_iff.1 d0).1 (by simp)).trans d0⟩
    have NE := Lib.hid (show w.heap.size < w3.heap.size from (Array.getElem?_eq_some_iff.1 b0).1)
    clear hg3 b0 g4 d0 b4
    obtain ⟨e0, e1⟩ := BB.out _ (grown_reflT _ none)
    have x0 := cell_of_row _ _ 0 _ _ _ e1
    have x1 := cell_of_row _ _ 1 _ _ _ e1
    have x2 := cell_of_row _ _ 2 _ _ _ e1
    simp at x0 x1 x2
    go_wp2_with fail
    clear e0 e1
    obtain ⟨e0, e1⟩ := BB.out _ (grown_reflT _ none)
    have y0 := cell_of_row _ _ 0 _ _ _ e0
    have y1 := cell_of_row _ _ 1 _ _ _ e0
    have y2 := cell_of_row _ _ 2 _ _ _ e0
    simp at y0 y1 y2
    clear x0 x1 x2
    have SS := Lib.hid (fun W (hW : (w3.alloc (.cells #[.slice a n cap, .slice (some ⟨p, 0, none⟩) 1 1, .slice none 0 0] 29)).grownBy W none) => show W.cell? ⟨w3.heap.size, 0, none⟩ = some (.slice a n cap) ∧ W.cell? ⟨w3.heap.size, 1, none⟩ = some (.slice (some ⟨p, 0, none⟩) 1 1) ∧ W.cell? ⟨w3.heap.size, 2, none⟩ = some (.slice none 0 0) from ⟨cell_of_row _ _ 0 _ _ _ (BB.out _ hW).2, cell_of_row _ _ 1 _ _ _ (BB.out _ hW).2, cell_of_row _ _ 2 _ _ _ (BB.out _ hW).2⟩)
    refine wp_region_held_drew (S := (fun W => W.cell? ⟨w3.heap.size, 0, none⟩ = some (.slice a n cap) ∧ W.cell? ⟨w3.heap.size, 1, none⟩ = some (.slice (some ⟨p, 0, none⟩) 1 1) ∧ W.cell? ⟨w3.heap.size, 2, none⟩ = some (.slice none 0 0))) (by kernel_rfl) (SS.out _ (grown_drewT (grown_reflT _ none))) (fun hHeld => ?_)
    refine wpAnyH_take (i := 0) (v := ?va0) rfl (by kernel_rfl) (by kernel_rfl) (by kernel_rfl) (fun _ _ _ h => h) (Or.inl ⟨by rfl, ?ya0⟩) (by assumption) ?ra0
    case ya0 => (intro w hSw; (try dsimp only at hSw); go_simp; try with_reducible rfl)
    simp only [Act.put, List.getElem_toArray, List.getElem_cons_zero, List.size_toArray, List.length_cons, List.length_nil, Nat.reduceAdd, Array.replicate, List.replicate, List.setIfInBounds_toArray, List.set_cons_zero, List.set_cons_succ]
    refine wpAnyH_take (i := 1) (v := ?va1) rfl (by kernel_rfl) (by kernel_rfl) (by kernel_rfl) (fun _ _ _ h => h) (Or.inl ⟨by rfl, ?ya1⟩) (by assumption) ?ra1
    case ya1 => (intro w hSw; (try dsimp only at hSw); go_simp; try with_reducible rfl)
    simp only [Act.put, List.getElem_toArray, List.getElem_cons_succ, List.getElem_cons_zero, List.setIfInBounds_toArray, List.set_cons_zero, List.set_cons_succ]
    refine wpAnyH_take (i := 2) (v := ?va2) rfl (by kernel_rfl) (by kernel_rfl) (by kernel_rfl) (fun _ _ _ h => h) (Or.inl ⟨by rfl, ?ya2⟩) (by assumption) ?ra2
    case ya2 => (intro w hSw; (try dsimp only at hSw); go_simp; try with_reducible rfl)
    simp only [Act.put, List.getElem_toArray, List.getElem_cons_succ, List.getElem_cons_zero, List.setIfInBounds_toArray, List.set_cons_zero, List.set_cons_succ]
    refine wpAnyH_ready (rs := [3]) (by kernel_rfl) (by simp) ?_
    refine AllReadyH.cons rfl (fun K' hK => ?_) AllReadyH.nil
    go_simp
    go_at_call 22
    refine (HF.out _ (grown_drewT G4.out)).mono ?_
    rintro e w5 ⟨rfl, hg5⟩
    have G5 := Lib.hid ((grown_drewT (grown_reflT _ none)).trans hg5)
    obtain ⟨h0, h1⟩ := BB.out _ G5.out
    have z0 := cell_of_row _ _ 0 _ _ _ h0
    have z1 := cell_of_row _ _ 1 _ _ _ h0
    have z2 := cell_of_row _ _ 2 _ _ _ h0
    have f0 := froz_of h0 0
    have f1 := froz_of h0 1
    have f2 := froz_of h0 2
    simp at z0 z1 z2
    have H0 := Lib.hid h0
    clear hg5 h0 h1 y0 y1 y2
    refine hK.out _ _ (SS.out _ G5.out) (fun hHeld => ?_)
    clear hK K'
    simp only [List.setIfInBounds_toArray, List.set_cons_zero, List.set_cons_succ]
    refine wpAnyH_take (i := 4) (v := ?va4) rfl (by kernel_rfl) (by kernel_rfl) (by kernel_rfl) (fun _ _ _ h => h) (Or.inl ⟨by rfl, ?ya4⟩) (by assumption) ?ra4
    case ya4 => (intro w hSw; (try dsimp only at hSw); go_simp; try with_reducible rfl)
    simp only [Act.put, List.getElem_toArray, List.getElem_cons_succ, List.getElem_cons_zero, List.setIfInBounds_toArray, List.set_cons_zero, List.set_cons_succ]
    refine wpAnyH_take (i := 5) (v := ?va5) rfl (by kernel_rfl) (by kernel_rfl) (by kernel_rfl) (fun _ _ _ h => h) (Or.inl ⟨by rfl, ?ya5⟩) (by assumption) ?ra5
    case ya5 => (intro w hSw; (try dsimp only at hSw); go_simp; try with_reducible rfl)
    simp only [Act.put, List.getElem_toArray, List.getElem_cons_succ, List.getElem_cons_zero, List.setIfInBounds_toArray, List.set_cons_zero, List.set_cons_succ]
    refine wpAnyH_take (i := 6) (v := ?va6) rfl (by kernel_rfl) (by kernel_rfl) (by kernel_rfl) (fun _ _ _ h => h) (Or.inl ⟨by rfl, ?ya6⟩) (by assumption) ?ra6
    case ya6 => (intro w hSw; (try dsimp only at hSw); go_simp; try with_reducible rfl)
    simp only [Act.put, List.getElem_toArray, List.getElem_cons_succ, List.getElem_cons_zero, List.setIfInBounds_toArray, List.set_cons_zero, List.set_cons_succ]
    refine wpAnyH_take (i := 7) (v := ?va7) rfl (by kernel_rfl) (by kernel_rfl) (by kernel_rfl) (fun _ _ _ h => h) (Or.inl ⟨by rfl, ?ya7⟩) (by assumption) ?ra7
    case ya7 => (intro w hSw; (try dsimp only at hSw); go_simp; try with_reducible rfl)
    simp only [Act.put, List.getElem_toArray, List.getElem_cons_succ, List.getElem_cons_zero, List.setIfInBounds_toArray, List.set_cons_zero, List.set_cons_succ]
    refine wpAnyH_take (i := 8) (v := ?va8) rfl (by kernel_rfl) (by kernel_rfl) (by kernel_rfl) (fun _ _ _ h => h) (Or.inl ⟨by rfl, ?ya8⟩) (by assumption) ?ra8
    case ya8 => (intro w hSw; (try dsimp only at hSw); go_simp; try with_reducible rfl)
    simp only [Act.put, List.getElem_toArray, List.getElem_cons_succ, List.getElem_cons_zero, List.setIfInBounds_toArray, List.set_cons_zero, List.set_cons_succ]
    refine wpAnyH_take (i := 9) (v := ?va9) rfl (by kernel_rfl) (by kernel_rfl) (by kernel_rfl) (fun _ _ _ h => h) (Or.inl ⟨by rfl, ?ya9⟩) (by assumption) ?ra9
    case ya9 => (intro w hSw; (try dsimp only at hSw); go_simp; try with_reducible rfl)
    simp only [Act.put, List.getElem_toArray, List.getElem_cons_succ, List.getElem_cons_zero, List.setIfInBounds_toArray, List.set_cons_zero, List.set_cons_succ]
    refine wpAnyH_take (i := 10) (v := ?va10) rfl (by kernel_rfl) (by kernel_rfl) (by kernel_rfl) (fun _ _ _ h => h) (Or.inl ⟨by rfl, ?ya10⟩) (by assumption) ?ra10
    case ya10 => (intro w hSw; (try dsimp only at hSw); go_simp; try with_reducible rfl)
    simp only [Act.put, List.getElem_toArray, List.getElem_cons_succ, List.getElem_cons_zero, List.setIfInBounds_toArray, List.set_cons_zero, List.set_cons_succ]
    refine wpAnyH_take (i := 11) (v := ?va11) rfl (by kernel_rfl) (by kernel_rfl) (by kernel_rfl) (fun _ _ _ h => h) (Or.inl ⟨by rfl, ?ya11⟩) (by assumption) ?ra11
    case ya11 => (intro w hSw; (try dsimp only at hSw); go_simp; try with_reducible rfl)
    simp only [Act.put, List.getElem_toArray, List.getElem_cons_succ, List.getElem_cons_zero, List.setIfInBounds_toArray, List.set_cons_zero, List.set_cons_succ]
    refine wpAnyH_take (i := 12) (v := ?va12) rfl (by kernel_rfl) (by kernel_rfl) (by kernel_rfl) (fun _ _ _ h => h) (Or.inl ⟨by rfl, ?ya12⟩) (by assumption) ?ra12
    case ya12 => (intro w hSw; (try dsimp only at hSw); go_simp; try with_reducible rfl)
    simp only [Act.put, List.getElem_toArray, List.getElem_cons_succ, List.getElem_cons_zero, List.setIfInBounds_toArray, List.set_cons_zero, List.set_cons_succ]
    refine wpAnyH_take (i := 13) (v := ?va13) rfl (by kernel_rfl) (by kernel_rfl) (by kernel_rfl) (fun _ _ _ h => h) (Or.inl ⟨by rfl, ?ya13⟩) (by assumption) ?ra13
    case ya13 => (intro w hSw; (try dsimp only at hSw); go_simp; try with_reducible rfl)
    simp only [Act.put, List.getElem_toArray, List.getElem_cons_succ, List.getElem_cons_zero, List.setIfInBounds_toArray, List.set_cons_zero, List.set_cons_succ]
    refine wpAnyH_take (i := 14) (v := ?va14) rfl (by kernel_rfl) (by kernel_rfl) (by kernel_rfl) (fun _ _ _ h => h) (Or.inl ⟨by rfl, ?ya14⟩) (by assumption) ?ra14
    case ya14 => (intro w hSw; (try dsimp only at hSw); go_simp; try with_reducible rfl)
    simp only [Act.put, List.getElem_toArray, List.getElem_cons_succ, List.getElem_cons_zero, List.setIfInBounds_toArray, List.set_cons_zero, List.set_cons_succ]
    refine wpAnyH_take (i := 15) (v := ?va15) rfl (by kernel_rfl) (by kernel_rfl) (by kernel_rfl) (fun _ _ _ h => h) (Or.inl ⟨by rfl, ?ya15⟩) (by assumption) ?ra15
    case ya15 => (intro w hSw; (try dsimp only at hSw); go_simp; try with_reducible rfl)
    simp only [Act.put, List.getElem_toArray, List.getElem_cons_succ, List.getElem_cons_zero, List.setIfInBounds_toArray, List.set_cons_zero, List.set_cons_succ]
    refine wpAnyH_take (i := 16) (v := ?va16) rfl (by kernel_rfl) (by kernel_rfl) (by kernel_rfl) (fun _ _ _ h => h) (Or.inl ⟨by rfl, ?ya16⟩) (by assumption) ?ra16
    case ya16 => (intro w hSw; (try dsimp only at hSw); go_simp; try with_reducible rfl)
    simp only [Act.put, List.getElem_toArray, List.getElem_cons_succ, List.getElem_cons_zero, List.setIfInBounds_toArray, List.set_cons_zero, List.set_cons_succ]
    refine wpAnyH_ready (rs := [17]) (by kernel_rfl) (by simp) ?_
    refine AllReadyH.cons rfl (fun K' hK => ?_) AllReadyH.nil
    go_simp
    refine hK.out _ _ (three_keep (SS.out _ G5.out) NE.out _ _ _) (fun hHeld => ?_)
    clear hK K'
    simp only [List.setIfInBounds_toArray, List.set_cons_zero, List.set_cons_succ]
    refine wpAnyH_take (i := 18) (v := ?va18) rfl (by kernel_rfl) (by kernel_rfl) (by kernel_rfl) (fun _ _ _ h => h) (Or.inl ⟨by rfl, ?ya18⟩) (by assumption) ?ra18
    case ya18 => (intro w hSw; (try dsimp only at hSw); go_simp; try with_reducible rfl)
    simp only [Act.put, List.getElem_toArray, List.getElem_cons_succ, List.getElem_cons_zero, List.setIfInBounds_toArray, List.set_cons_zero, List.set_cons_succ]
    refine wpAnyH_done (by kernel_rfl) ?_ _
    go_wp2_with fail
    have hb3 := three_block H0.out (.slice a n cap) (.slice (some ⟨p, 0, none⟩) 1 1) (.slice none 0 0)
    have q0 := cell_of_row _ _ 0 _ _ _ hb3
    have q1 := cell_of_row _ _ 1 _ _ _ hb3
    have q2 := cell_of_row _ _ 2 _ _ _ hb3
    simp at q0 q1 q2
    refine bodyPost_ret (v := .tuple #[.pointer (some ⟨b, 0, none⟩), .agg #[.slice a n cap, .slice (some ⟨p, 0, none⟩) 1 1, .slice none 0 0], .bool true]) (by simp [results, Tryz.results5, go_sem, q0, q1, q2]) rfl ?_
    have g6 := three_grown (b := w.heap.size) (G4.out.trans G5.out) (Nat.le_refl _) (.slice a n cap) (.slice (some ⟨p, 0, none⟩) 1 1) (.slice none 0 0)
    obtain ⟨s, rfl, hs⟩ := FS.out
    refine ⟨.inr ⟨Hr.out, s, p, rfl, ?_⟩, g6⟩
    have h9 := hs.keep (Nat.le_refl _) (G24.out.trans G5.out)
    exact h9.only9 (M := fun k => k = w.heap.size) (((Only.one _ w5 0 _).trans (Only.one _ _ 1 _) (fun _ e => .inl e)).trans (Only.one _ _ 2 _) (fun _ e => .inl e)) (fun k e => by have e' : k = w.heap.size := e; simp; omega) (by simp)
  · have HN : Hid (∀ W, w.grownBy W none → Calls Tryz.prog 17 #[.slice a l.length cap] W fun e w' => (∃ y : Int, (y == 0) = false ∧ e = .returned (.tuple #[.pointer none, .int .i64 y])) ∧ W.grownBy w' none) := Lib.hid fun W hW => (newS_bad a cap G l W ((h.keep hW (by simp)).mono hW.size) hcap hcs (hw.grown hW) (hE.grown hW) hr).mono fun e w' ⟨⟨k, y, h1, h2⟩, h3⟩ => ⟨⟨y, by rcases h1.2.2 with ⟨_, h⟩ | ⟨_, _, h⟩ | ⟨_, _, _, h⟩ <;> simp [h], h2⟩, h3⟩
    have HR : Hid (∀ W, w.grownBy W none → Calls Tryz.prog 21 #[.slice a l.length cap] W fun e w' => (∃ y : Int, e = .returned (.tuple #[.agg #[.slice none 0 0, .slice none 0 0, .slice none 0 0], .int .i64 y])) ∧ W.grownBy w' none) := Lib.hid fun W hW => (refNew_any a cap l W ((h.keep hW (by simp)).mono hW.size) hcap hcs hN).mono fun e w' h => ⟨by
      rcases h.1 with ⟨h, _⟩ | ⟨k, y, _, h⟩
      · exact absurd h hr
      · exact ⟨y, h⟩, h.2⟩
    obtain ⟨fb, hfb⟩ : ∃ fb, fb = fewB l := ⟨_, rfl⟩
    rw [← hfb] at HF
    clear h hcap hcs hN hw hE hr hfb
    generalize hn : l.length = n at *
    go_enter Tryz.func5, Tryz.ntmps5
    go_wp2_with fail
    have g0 := World.grownBy_alloc w (.cells #[.slice none 0 0, .slice none 0 0, .slice none 0 0] 29) none
    have b0 := heap_alloc_new w (.cells #[.slice none 0 0, .slice none 0 0, .slice none 0 0] 29)
    refine (HN.out _ g0).mono ?_
    rintro e w2 ⟨⟨y, hy, rfl⟩, hg2⟩
    have b0 := (hg2.block _ (by simp) (by simp)).trans b0
    have G2 := Lib.hid (g0.trans hg2)
    clear hg2 g0
    go_wp2_with fail
    refine (HR.out _ G2.out).mono ?_
    rintro e w3 ⟨⟨y', rfl⟩, hg3⟩
    have b0 := (hg3.block _ (Array.getElem?_eq_some_iff.1 b0).1 (by simp)).trans b0
    have g4 := World.grownBy_alloc w3 (.cells #[.slice none 0 0, .slice none 0 0, .slice none 0 0] 29) none
    have d0 := heap_alloc_new w3 (.cells #[.slice none 0 0, .slice none 0 0, .slice none 0 0] 29)
    have b4 := (g4.block _ (Array.getElem?_eq_some_iff.1 b0).1 (by simp)).trans b0
    have G4 := Lib.hid (G2.out.trans (hg3.trans g4))
    have BB : Hid (∀ W, (w3.alloc (.cells #[.slice none 0 0, .slice none 0 0, .slice none 0 0] 29)).grownBy W none → W.heap[w.heap.size]? = some (.cells #[.slice none 0 0, .slice none 0 0, .slice none 0 0] 29 (0, 0)) ∧ W.heap[w3.heap.size]? = some (.cells #[.slice none 0 0, .slice none 0 0, .slice none 0 0] 29 (0, 0))) := Lib.hid fun W hW => ⟨(hW.block _ (Array.getElem?_eq_some_iff.1 b4).1 (by simp)).trans b4, (hW.block _ (Array.getElem?_eq_some_iff.1 d0).1 (by simp)).trans d0⟩
    have NE := Lib.hid (show w.heap.size < w3.heap.size from (Array.getElem?_eq_some_iff.1 b0).1)
    clear hg3 b0 g4 d0 b4
    have SS := Lib.hid (fun W (hW : (w3.alloc (.cells #[.slice none 0 0, .slice none 0 0, .slice none 0 0] 29)).grownBy W none) => show W.cell? ⟨w3.heap.size, 0, none⟩ = some (.slice none 0 0) ∧ W.cell? ⟨w3.heap.size, 1, none⟩ = some (.slice none 0 0) ∧ W.cell? ⟨w3.heap.size, 2, none⟩ = some (.slice none 0 0) from ⟨cell_of_row _ _ 0 _ _ _ (BB.out _ hW).2, cell_of_row _ _ 1 _ _ _ (BB.out _ hW).2, cell_of_row _ _ 2 _ _ _ (BB.out _ hW).2⟩)
    go_wp2_with fail
    have y0 := 0
    have y1 := 0
    have y2 := 0
    cases fb
    · refine wp_region_held_drew (S := (fun W => W.cell? ⟨w3.heap.size, 0, none⟩ = some (.slice none 0 0) ∧ W.cell? ⟨w3.heap.size, 1, none⟩ = some (.slice none 0 0) ∧ W.cell? ⟨w3.heap.size, 2, none⟩ = some (.slice none 0 0))) (by kernel_rfl) (SS.out _ (grown_drewT (grown_reflT _ none))) (fun hHeld => ?_)
      refine wpAnyH_take (i := 0) (v := ?vc0) rfl (by kernel_rfl) (by kernel_rfl) (by kernel_rfl) (fun _ _ _ h => h) (Or.inl ⟨by rfl, ?yc0⟩) (by assumption) ?rc0
      case yc0 => (intro w hSw; (try dsimp only at hSw); go_simp; try with_reducible rfl)
      simp only [Act.put, List.getElem_toArray, List.getElem_cons_zero, List.size_toArray, List.length_cons, List.length_nil, Nat.reduceAdd, Array.replicate, List.replicate, List.setIfInBounds_toArray, List.set_cons_zero, List.set_cons_succ]
      refine wpAnyH_take (i := 1) (v := ?vc1) rfl (by kernel_rfl) (by kernel_rfl) (by kernel_rfl) (fun _ _ _ h => h) (Or.inl ⟨by rfl, ?yc1⟩) (by assumption) ?rc1
      case yc1 => (intro w hSw; (try dsimp only at hSw); go_simp; try with_reducible rfl)
      simp only [Act.put, List.getElem_toArray, List.getElem_cons_succ, List.getElem_cons_zero, List.setIfInBounds_toArray, List.set_cons_zero, List.set_cons_succ]
      refine wpAnyH_take (i := 2) (v := ?vc2) rfl (by kernel_rfl) (by kernel_rfl) (by kernel_rfl) (fun _ _ _ h => h) (Or.inl ⟨by rfl, ?yc2⟩) (by assumption) ?rc2
      case yc2 => (intro w hSw; (try dsimp only at hSw); go_simp; try with_reducible rfl)
      simp only [Act.put, List.getElem_toArray, List.getElem_cons_succ, List.getElem_cons_zero, List.setIfInBounds_toArray, List.set_cons_zero, List.set_cons_succ]
      refine wpAnyH_ready (rs := [3]) (by kernel_rfl) (by simp) ?_
      refine AllReadyH.cons rfl (fun K' hK => ?_) AllReadyH.nil
      go_simp
      go_at_call 22
      refine (HF.out _ (grown_drewT G4.out)).mono ?_
      rintro e w5 ⟨rfl, hg5⟩
      have G5 := Lib.hid ((grown_drewT (grown_reflT _ none)).trans hg5)
      obtain ⟨h0, h1⟩ := BB.out _ G5.out
      have z0 := cell_of_row _ _ 0 _ _ _ h0
      have z1 := cell_of_row _ _ 1 _ _ _ h0
      have z2 := cell_of_row _ _ 2 _ _ _ h0
      have f0 := froz_of h0 0
      have f1 := froz_of h0 1
      have f2 := froz_of h0 2
      simp at z0 z1 z2
      have H0 := Lib.hid h0
      clear hg5 h0 h1 y0 y1 y2
      refine hK.out _ _ (SS.out _ G5.out) (fun hHeld => ?_)
      clear hK K'
      simp only [List.setIfInBounds_toArray, List.set_cons_zero, List.set_cons_succ]
      refine wpAnyH_take (i := 4) (v := ?vc4) rfl (by kernel_rfl) (by kernel_rfl) (by kernel_rfl) (fun _ _ _ h => h) (Or.inl ⟨by rfl, ?yc4⟩) (by assumption) ?rc4
      case yc4 => (intro w hSw; (try dsimp only at hSw); go_simp; try with_reducible rfl)
      simp only [Act.put, List.getElem_toArray, List.getElem_cons_succ, List.getElem_cons_zero, List.setIfInBounds_toArray, List.set_cons_zero, List.set_cons_succ]
      refine wpAnyH_take (i := 5) (v := undef) rfl (by kernel_rfl) (by kernel_rfl) (by kernel_rfl) (fun _ _ _ h => h) (Or.inr ⟨by rfl, rfl⟩) (by assumption) ?_
      simp only [Act.put, List.getElem_toArray, List.getElem_cons_succ, List.getElem_cons_zero, List.setIfInBounds_toArray, List.set_cons_zero, List.set_cons_succ]
      refine wpAnyH_take (i := 6) (v := undef) rfl (by kernel_rfl) (by kernel_rfl) (by kernel_rfl) (fun _ _ _ h => h) (Or.inr ⟨by rfl, rfl⟩) (by assumption) ?_
      simp only [Act.put, List.getElem_toArray, List.getElem_cons_succ, List.getElem_cons_zero, List.setIfInBounds_toArray, List.set_cons_zero, List.set_cons_succ]
      refine wpAnyH_take (i := 7) (v := ?vc7) rfl (by kernel_rfl) (by kernel_rfl) (by kernel_rfl) (fun _ _ _ h => h) (Or.inl ⟨by rfl, ?yc7⟩) (by assumption) ?rc7
      case yc7 => (intro w hSw; (try dsimp only at hSw); go_simp; try with_reducible rfl)
      simp only [Act.put, List.getElem_toArray, List.getElem_cons_succ, List.getElem_cons_zero, List.setIfInBounds_toArray, List.set_cons_zero, List.set_cons_succ]
      refine wpAnyH_take (i := 8) (v := ?vc8) rfl (by kernel_rfl) (by kernel_rfl) (by kernel_rfl) (fun _ _ _ h => h) (Or.inl ⟨by rfl, ?yc8⟩) (by assumption) ?rc8
      case yc8 => (intro w hSw; (try dsimp only at hSw); go_simp; try with_reducible rfl)
      simp only [Act.put, List.getElem_toArray, List.getElem_cons_succ, List.getElem_cons_zero, List.setIfInBounds_toArray, List.set_cons_zero, List.set_cons_succ]
      refine wpAnyH_take (i := 9) (v := undef) rfl (by kernel_rfl) (by kernel_rfl) (by kernel_rfl) (fun _ _ _ h => h) (Or.inr ⟨by rfl, rfl⟩) (by assumption) ?_
      simp only [Act.put, List.getElem_toArray, List.getElem_cons_succ, List.getElem_cons_zero, List.setIfInBounds_toArray, List.set_cons_zero, List.set_cons_succ]
      refine wpAnyH_take (i := 10) (v := undef) rfl (by kernel_rfl) (by kernel_rfl) (by kernel_rfl) (fun _ _ _ h => h) (Or.inr ⟨by rfl, rfl⟩) (by assumption) ?_
      simp only [Act.put, List.getElem_toArray, List.getElem_cons_succ, List.getElem_cons_zero, List.setIfInBounds_toArray, List.set_cons_zero, List.set_cons_succ]
      refine wpAnyH_take (i := 11) (v := ?vc11) rfl (by kernel_rfl) (by kernel_rfl) (by kernel_rfl) (fun _ _ _ h => h) (Or.inl ⟨by rfl, ?yc11⟩) (by assumption) ?rc11
      case yc11 => (intro w hSw; (try dsimp only at hSw); go_simp; try with_reducible rfl)
      simp only [Act.put, List.getElem_toArray, List.getElem_cons_succ, List.getElem_cons_zero, List.setIfInBounds_toArray, List.set_cons_zero, List.set_cons_succ]
      refine wpAnyH_take (i := 12) (v := ?vc12) rfl (by kernel_rfl) (by kernel_rfl) (by kernel_rfl) (fun _ _ _ h => h) (Or.inl ⟨by rfl, ?yc12⟩) (by assumption) ?rc12
      case yc12 => (intro w hSw; (try dsimp only at hSw); go_simp; try with_reducible rfl)
      simp only [Act.put, List.getElem_toArray, List.getElem_cons_succ, List.getElem_cons_zero, List.setIfInBounds_toArray, List.set_cons_zero, List.set_cons_succ]
      refine wpAnyH_take (i := 13) (v := undef) rfl (by kernel_rfl) (by kernel_rfl) (by kernel_rfl) (fun _ _ _ h => h) (Or.inr ⟨by rfl, rfl⟩) (by assumption) ?_
      simp only [Act.put, List.getElem_toArray, List.getElem_cons_succ, List.getElem_cons_zero, List.setIfInBounds_toArray, List.set_cons_zero, List.set_cons_succ]
      refine wpAnyH_take (i := 14) (v := undef) rfl (by kernel_rfl) (by kernel_rfl) (by kernel_rfl) (fun _ _ _ h => h) (Or.inr ⟨by rfl, rfl⟩) (by assumption) ?_
      simp only [Act.put, List.getElem_toArray, List.getElem_cons_succ, List.getElem_cons_zero, List.setIfInBounds_toArray, List.set_cons_zero, List.set_cons_succ]
      refine wpAnyH_take (i := 15) (v := ?vc15) rfl (by kernel_rfl) (by kernel_rfl) (by kernel_rfl) (fun _ _ _ h => h) (Or.inl ⟨by rfl, ?yc15⟩) (by assumption) ?rc15
      case yc15 => (intro w hSw; (try dsimp only at hSw); go_simp; try with_reducible rfl)
      simp only [Act.put, List.getElem_toArray, List.getElem_cons_succ, List.getElem_cons_zero, List.setIfInBounds_toArray, List.set_cons_zero, List.set_cons_succ]
      refine wpAnyH_take (i := 16) (v := ?vc16) rfl (by kernel_rfl) (by kernel_rfl) (by kernel_rfl) (fun _ _ _ h => h) (Or.inl ⟨by rfl, ?yc16⟩) (by assumption) ?rc16
      case yc16 => (intro w hSw; (try dsimp only at hSw); go_simp; try with_reducible rfl)
      simp only [Act.put, List.getElem_toArray, List.getElem_cons_succ, List.getElem_cons_zero, List.setIfInBounds_toArray, List.set_cons_zero, List.set_cons_succ]
      refine wpAnyH_ready (rs := [17]) (by kernel_rfl) (by simp) ?_
      refine AllReadyH.cons rfl (fun K' hK => ?_) AllReadyH.nil
      go_simp
      refine hK.out _ _ (three_keep (SS.out _ G5.out) NE.out _ _ _) (fun hHeld => ?_)
      clear hK K'
      simp only [List.setIfInBounds_toArray, List.set_cons_zero, List.set_cons_succ]
      refine wpAnyH_take (i := 18) (v := ?vc18) rfl (by kernel_rfl) (by kernel_rfl) (by kernel_rfl) (fun _ _ _ h => h) (Or.inl ⟨by rfl, ?yc18⟩) (by assumption) ?rc18
      case yc18 => (intro w hSw; (try dsimp only at hSw); go_simp; try with_reducible rfl)
      simp only [Act.put, List.getElem_toArray, List.getElem_cons_succ, List.getElem_cons_zero, List.setIfInBounds_toArray, List.set_cons_zero, List.set_cons_succ]
      refine wpAnyH_done (by kernel_rfl) ?_ _
      go_wp2_with fail
      have hb3 := three_block H0.out (.slice none 0 0) (.slice none 0 0) (.slice none 0 0)
      have q0 := cell_of_row _ _ 0 _ _ _ hb3
      have q1 := cell_of_row _ _ 1 _ _ _ hb3
      have q2 := cell_of_row _ _ 2 _ _ _ hb3
      simp at q0 q1 q2
      refine bodyPost_ret (v := .tuple #[.pointer none, .agg #[.slice none 0 0, .slice none 0 0, .slice none 0 0], .bool false]) (by simp [results, Tryz.results5, go_sem, q0, q1, q2]) rfl ?_
      exact ⟨.inl rfl, three_grown (b := w.heap.size) (G4.out.trans G5.out) (Nat.le_refl _) _ _ _⟩
    · refine wp_region_held_drew (S := (fun W => W.cell? ⟨w3.heap.size, 0, none⟩ = some (.slice none 0 0) ∧ W.cell? ⟨w3.heap.size, 1, none⟩ = some (.slice none 0 0) ∧ W.cell? ⟨w3.heap.size, 2, none⟩ = some (.slice none 0 0))) (by kernel_rfl) (SS.out _ (grown_drewT (grown_reflT _ none))) (fun hHeld => ?_)
      refine wpAnyH_take (i := 0) (v := ?vb0) rfl (by kernel_rfl) (by kernel_rfl) (by kernel_rfl) (fun _ _ _ h => h) (Or.inl ⟨by rfl, ?yb0⟩) (by assumption) ?rb0
      case yb0 => (intro w hSw; (try dsimp only at hSw); go_simp; try with_reducible rfl)
      simp only [Act.put, List.getElem_toArray, List.getElem_cons_zero, List.size_toArray, List.length_cons, List.length_nil, Nat.reduceAdd, Array.replicate, List.replicate, List.setIfInBounds_toArray, List.set_cons_zero, List.set_cons_succ]
      refine wpAnyH_take (i := 1) (v := ?vb1) rfl (by kernel_rfl) (by kernel_rfl) (by kernel_rfl) (fun _ _ _ h => h) (Or.inl ⟨by rfl, ?yb1⟩) (by assumption) ?rb1
      case yb1 => (intro w hSw; (try dsimp only at hSw); go_simp; try with_reducible rfl)
      simp only [Act.put, List.getElem_toArray, List.getElem_cons_succ, List.getElem_cons_zero, List.setIfInBounds_toArray, List.set_cons_zero, List.set_cons_succ]
      refine wpAnyH_take (i := 2) (v := ?vb2) rfl (by kernel_rfl) (by kernel_rfl) (by kernel_rfl) (fun _ _ _ h => h) (Or.inl ⟨by rfl, ?yb2⟩) (by assumption) ?rb2
      case yb2 => (intro w hSw; (try dsimp only at hSw); go_simp; try with_reducible rfl)
      simp only [Act.put, List.getElem_toArray, List.getElem_cons_succ, List.getElem_cons_zero, List.setIfInBounds_toArray, List.set_cons_zero, List.set_cons_succ]
      refine wpAnyH_ready (rs := [3]) (by kernel_rfl) (by simp) ?_
      refine AllReadyH.cons rfl (fun K' hK => ?_) AllReadyH.nil
      go_simp
      go_at_call 22
      refine (HF.out _ (grown_drewT G4.out)).mono ?_
      rintro e w5 ⟨rfl, hg5⟩
      have G5 := Lib.hid ((grown_drewT (grown_reflT _ none)).trans hg5)
      obtain ⟨h0, h1⟩ := BB.out _ G5.out
      have z0 := cell_of_row _ _ 0 _ _ _ h0
      have z1 := cell_of_row _ _ 1 _ _ _ h0
      have z2 := cell_of_row _ _ 2 _ _ _ h0
      have f0 := froz_of h0 0
      have f1 := froz_of h0 1
      have f2 := froz_of h0 2
      simp at z0 z1 z2
      have H0 := Lib.hid h0
      clear hg5 h0 h1 y0 y1 y2
      refine hK.out _ _ (SS.out _ G5.out) (fun hHeld => ?_)
      clear hK K'
      simp only [List.setIfInBounds_toArray, List.set_cons_zero, List.set_cons_succ]
      refine wpAnyH_take (i := 4) (v := ?vb4) rfl (by kernel_rfl) (by kernel_rfl) (by kernel_rfl) (fun _ _ _ h => h) (Or.inl ⟨by rfl, ?yb4⟩) (by assumption) ?rb4
      case yb4 => (intro w hSw; (try dsimp only at hSw); go_simp; try with_reducible rfl)
      simp only [Act.put, List.getElem_toArray, List.getElem_cons_succ, List.getElem_cons_zero, List.setIfInBounds_toArray, List.set_cons_zero, List.set_cons_succ]
      refine wpAnyH_take (i := 5) (v := ?vb5) rfl (by kernel_rfl) (by kernel_rfl) (by kernel_rfl) (fun _ _ _ h => h) (Or.inl ⟨by rfl, ?yb5⟩) (by assumption) ?rb5
      case yb5 => (intro w hSw; (try dsimp only at hSw); go_simp; try with_reducible rfl)
      simp only [Act.put, List.getElem_toArray, List.getElem_cons_succ, List.getElem_cons_zero, List.setIfInBounds_toArray, List.set_cons_zero, List.set_cons_succ]
      refine wpAnyH_take (i := 6) (v := ?vb6) rfl (by kernel_rfl) (by kernel_rfl) (by kernel_rfl) (fun _ _ _ h => h) (Or.inl ⟨by rfl, ?yb6⟩) (by assumption) ?rb6
      case yb6 => (intro w hSw; (try dsimp only at hSw); go_simp; try with_reducible rfl)
      simp only [Act.put, List.getElem_toArray, List.getElem_cons_succ, List.getElem_cons_zero, List.setIfInBounds_toArray, List.set_cons_zero, List.set_cons_succ]
      refine wpAnyH_take (i := 7) (v := ?vb7) rfl (by kernel_rfl) (by kernel_rfl) (by kernel_rfl) (fun _ _ _ h => h) (Or.inl ⟨by rfl, ?yb7⟩) (by assumption) ?rb7
      case yb7 => (intro w hSw; (try dsimp only at hSw); go_simp; try with_reducible rfl)
      simp only [Act.put, List.getElem_toArray, List.getElem_cons_succ, List.getElem_cons_zero, List.setIfInBounds_toArray, List.set_cons_zero, List.set_cons_succ]
      refine wpAnyH_take (i := 8) (v := ?vb8) rfl (by kernel_rfl) (by kernel_rfl) (by kernel_rfl) (fun _ _ _ h => h) (Or.inl ⟨by rfl, ?yb8⟩) (by assumption) ?rb8
      case yb8 => (intro w hSw; (try dsimp only at hSw); go_simp; try with_reducible rfl)
      simp only [Act.put, List.getElem_toArray, List.getElem_cons_succ, List.getElem_cons_zero, List.setIfInBounds_toArray, List.set_cons_zero, List.set_cons_succ]
      refine wpAnyH_take (i := 9) (v := undef) rfl (by kernel_rfl) (by kernel_rfl) (by kernel_rfl) (fun _ _ _ h => h) (Or.inr ⟨by rfl, rfl⟩) (by assumption) ?_
      simp only [Act.put, List.getElem_toArray, List.getElem_cons_succ, List.getElem_cons_zero, List.setIfInBounds_toArray, List.set_cons_zero, List.set_cons_succ]
      refine wpAnyH_take (i := 10) (v := undef) rfl (by kernel_rfl) (by kernel_rfl) (by kernel_rfl) (fun _ _ _ h => h) (Or.inr ⟨by rfl, rfl⟩) (by assumption) ?_
      simp only [Act.put, List.getElem_toArray, List.getElem_cons_succ, List.getElem_cons_zero, List.setIfInBounds_toArray, List.set_cons_zero, List.set_cons_succ]
      refine wpAnyH_take (i := 11) (v := ?vb11) rfl (by kernel_rfl) (by kernel_rfl) (by kernel_rfl) (fun _ _ _ h => h) (Or.inl ⟨by rfl, ?yb11⟩) (by assumption) ?rb11
      case yb11 => (intro w hSw; (try dsimp only at hSw); go_simp; try with_reducible rfl)
      simp only [Act.put, List.getElem_toArray, List.getElem_cons_succ, List.getElem_cons_zero, List.setIfInBounds_toArray, List.set_cons_zero, List.set_cons_succ]
      refine wpAnyH_take (i := 12) (v := ?vb12) rfl (by kernel_rfl) (by kernel_rfl) (by kernel_rfl) (fun _ _ _ h => h) (Or.inl ⟨by rfl, ?yb12⟩) (by assumption) ?rb12
      case yb12 => (intro w hSw; (try dsimp only at hSw); go_simp; try with_reducible rfl)
      simp only [Act.put, List.getElem_toArray, List.getElem_cons_succ, List.getElem_cons_zero, List.setIfInBounds_toArray, List.set_cons_zero, List.set_cons_succ]
      refine wpAnyH_take (i := 13) (v := undef) rfl (by kernel_rfl) (by kernel_rfl) (by kernel_rfl) (fun _ _ _ h => h) (Or.inr ⟨by rfl, rfl⟩) (by assumption) ?_
      simp only [Act.put, List.getElem_toArray, List.getElem_cons_succ, List.getElem_cons_zero, List.setIfInBounds_toArray, List.set_cons_zero, List.set_cons_succ]
      refine wpAnyH_take (i := 14) (v := undef) rfl (by kernel_rfl) (by kernel_rfl) (by kernel_rfl) (fun _ _ _ h => h) (Or.inr ⟨by rfl, rfl⟩) (by assumption) ?_
      simp only [Act.put, List.getElem_toArray, List.getElem_cons_succ, List.getElem_cons_zero, List.setIfInBounds_toArray, List.set_cons_zero, List.set_cons_succ]
      refine wpAnyH_take (i := 15) (v := ?vb15) rfl (by kernel_rfl) (by kernel_rfl) (by kernel_rfl) (fun _ _ _ h => h) (Or.inl ⟨by rfl, ?yb15⟩) (by assumption) ?rb15
      case yb15 => (intro w hSw; (try dsimp only at hSw); go_simp; try with_reducible rfl)
      simp only [Act.put, List.getElem_toArray, List.getElem_cons_succ, List.getElem_cons_zero, List.setIfInBounds_toArray, List.set_cons_zero, List.set_cons_succ]
      refine wpAnyH_take (i := 16) (v := ?vb16) rfl (by kernel_rfl) (by kernel_rfl) (by kernel_rfl) (fun _ _ _ h => h) (Or.inl ⟨by rfl, ?yb16⟩) (by assumption) ?rb16
      case yb16 => (intro w hSw; (try dsimp only at hSw); go_simp; try with_reducible rfl)
      simp only [Act.put, List.getElem_toArray, List.getElem_cons_succ, List.getElem_cons_zero, List.setIfInBounds_toArray, List.set_cons_zero, List.set_cons_succ]
      refine wpAnyH_ready (rs := [17]) (by kernel_rfl) (by simp) ?_
      refine AllReadyH.cons rfl (fun K' hK => ?_) AllReadyH.nil
      go_simp
      refine hK.out _ _ (three_keep (SS.out _ G5.out) NE.out _ _ _) (fun hHeld => ?_)
      clear hK K'
      simp only [List.setIfInBounds_toArray, List.set_cons_zero, List.set_cons_succ]
      refine wpAnyH_take (i := 18) (v := ?vb18) rfl (by kernel_rfl) (by kernel_rfl) (by kernel_rfl) (fun _ _ _ h => h) (Or.inl ⟨by rfl, ?yb18⟩) (by assumption) ?rb18
      case yb18 => (intro w hSw; (try dsimp only at hSw); go_simp; try with_reducible rfl)
      simp only [Act.put, List.getElem_toArray, List.getElem_cons_succ, List.getElem_cons_zero, List.setIfInBounds_toArray, List.set_cons_zero, List.set_cons_succ]
      refine wpAnyH_done (by kernel_rfl) ?_ _
      go_wp2_with fail
      have hb3 := three_block H0.out (.slice none 0 0) (.slice none 0 0) (.slice none 0 0)
      have q0 := cell_of_row _ _ 0 _ _ _ hb3
      have q1 := cell_of_row _ _ 1 _ _ _ hb3
      have q2 := cell_of_row _ _ 2 _ _ _ hb3
      simp at q0 q1 q2
      refine bodyPost_ret (v := .tuple #[.pointer none, .agg #[.slice none 0 0, .slice none 0 0, .slice none 0 0], .bool false]) (by simp [results, Tryz.results5, go_sem, q0, q1, q2]) rfl ?_
      exact ⟨.inl rfl, three_grown (b := w.heap.size) (G4.out.trans G5.out) (Nat.le_refl _) _ _ _⟩
end Go.Proofs.YtnfpomjcofhppaaGreatDoor
