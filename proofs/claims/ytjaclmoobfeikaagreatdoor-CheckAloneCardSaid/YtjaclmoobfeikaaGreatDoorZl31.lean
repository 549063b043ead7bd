/- SamePred: are two predicates the same, but for places? The reader's all and any over one. The reader's form and one. -/
import Derived.Test.YtjaclmoobfeikaaGreatDoorZl29
import Derived.Test.YtjaclmoobfeikaaGreatDoorZl30
import Derived.Deep.LoopGhost
namespace Go.Proofs.YtjaclmoobfeikaaGreatDoor
open Go.RowKit

def StkC (p : Psl × Psl) : List Value := [p.1.v, p.2.v]
theorem stk_len (st : Lft) : (st.flatMap StkC).length = st.length * 2 := flat_len StkC 2 (fun _ => rfl) st
theorem Pm.c_8 : ∀ x : Pm, x.c[8]? = some x.ksl.v | .mk .. => rfl
theorem Psl.in.mono {S S' : Nat → Prop} {w : World} {x : Psl} (h : x.in S w) (hs : ∀ b, b < w.heap.size → S b → S' b) : x.in S' w := ⟨h.1.mono hs, h.2.1, h.2.2.mono hs⟩
theorem Win.fewer {sz : Nat} {w : World} {a : Option Addr} {cap n m : Nat} {xs ys : List Value} (h : Win sz w a cap n (xs ++ ys)) (hm : m ≤ n) (hx : xs.length = m * sz) : Win sz w a cap m xs :=
  ⟨hx, Nat.le_trans hm h.le, h.max, h.lt, h.mem.imp id fun ⟨g, off, e, hc, hs, hf⟩ => ⟨g, off, e, fun j u hj => hc j u (by
    rw [List.getElem?_append_left (List.getElem?_eq_some_iff.1 hj).1]; exact hj), hs, hf⟩⟩
/-- The list of what is left, in memory; what it leads to lies below N. -/
structure Stk (N : Nat) (w W : World) (st : Lft) (a : Ptr) (cap : Nat) : Prop where
  win : Win 2 W a cap st.length (st.flatMap StkC)
  low : ∀ k, bk a k → N ≤ k
  mem : ∀ p ∈ st, p.1.in (fun j => j < N) W ∧ p.2.in (fun j => j < N) W
  hN : N ≤ W.heap.size
  hw : w.heap.size ≤ N
  g : w.grownBy W none
theorem Stk.keep {N : Nat} {w W W' : World} {st : Lft} {a : Ptr} {cap : Nat} (h : Stk N w W st a cap) (hg : W.grownBy W' none) : Stk N w W' st a cap :=
  ⟨h.win.keepG hg, h.low, fun p hp => ⟨(h.mem p hp).1.keep (.of hg), (h.mem p hp).2.keep (.of hg)⟩, Nat.le_trans h.hN hg.size, h.hw, h.g.trans hg⟩
theorem Stk.top {N : Nat} {w W : World} {st : Lft} {p : Psl × Psl} {a : Ptr} {cap : Nat} (h : Stk N w W (st ++ [p]) a cap) : ∃ g off, a = some ⟨g, off, Option.none⟩ ∧ W.cell? ⟨g, off + st.length * 2, Option.none⟩ = some p.1.v ∧ W.cell? ⟨g, off + st.length * 2 + 1, Option.none⟩ = some p.2.v := by
  rcases h.win.mem with h0 | ⟨g, off, e, hc, _, _⟩
  · have := h.win.le; simp at this; omega
  · have hl := stk_len st
    refine ⟨g, off, e, hc _ _ ?_, ?_⟩
    · rw [List.flatMap_append, List.getElem?_append_right (by omega), hl, Nat.sub_self]; rfl
    · rw [Nat.add_assoc]
      refine hc _ _ ?_
      rw [List.flatMap_append, List.getElem?_append_right (by omega), hl, show st.length * 2 + 1 - st.length * 2 = 1 by omega]; rfl
theorem Stk.push {N : Nat} {w W w4 : World} {st : Lft} {p : Psl × Psl} {a a' : Ptr} {cap cap' : Nat} {o : Obj} (h : Stk N w W st a cap) (hp : p.1.in (fun j => j < N) W ∧ p.2.in (fun j => j < N) W) (hw : Win 2 w4 a' cap' (st.length + 1) (st.flatMap StkC ++ StkC p)) (ho : Only (bk a) (W.alloc o).drew w4) (hb : ∀ k, bk a' k → bk a k ∨ (W.alloc o).drew.heap.size ≤ k) : Stk N w w4 (st ++ [p]) a' cap' := by
  have hg := grown_drewT (World.grownBy_alloc W o none)
  have h2 := hg.size
  have h3 := ho.size
  have hN := h.hN
  have hst : Stays (fun j => j < N) W w4 := ⟨by omega, fun b hb hlt => (ho.block b (by omega) (fun e => by have := h.low b e; omega)).trans (hg.block b hlt (by simp))⟩
  refine ⟨by simpa [List.flatMap_append] using hw, fun k hk => ?_, fun q hq => ?_, by omega, h.hw, ?_⟩
  · rcases hb k hk with e | e
    · exact h.low k e
    · omega
  · rcases List.mem_append.1 hq with hq | hq
    · exact ⟨(h.mem q hq).1.keep hst, (h.mem q hq).2.keep hst⟩
    · obtain rfl : q = p := by simpa using hq
      exact ⟨hp.1.keep hst, hp.2.keep hst⟩
  · have g := h.g
    exact ⟨ho.os.trans (hg.os.trans g.os), ho.tape.trans (hg.tape.trans g.tape), ho.output.trans (hg.output.trans g.output), by have := g.size; omega, fun b hb _ => (ho.block b (by have := g.size; omega) (fun e => by have := h.low b e; have := h.hw; omega)).trans ((hg.block b (by have := g.size; omega) (by simp)).trans (g.block b hb (by simp)))⟩
theorem Stk.stays {N : Nat} {w W w4 : World} {st : Lft} {a : Ptr} {cap : Nat} {o : Obj} (h : Stk N w W st a cap) (ho : Only (bk a) (W.alloc o).drew w4) : Stays (fun j => j < N) W w4 := by
  have hg := grown_drewT (World.grownBy_alloc W o none)
  have h2 := hg.size
  have h3 := ho.size
  exact ⟨by omega, fun b hb hlt => (ho.block b (by omega) (fun e => by have := h.low b e; omega)).trans (hg.block b hlt (by simp))⟩
theorem stays_trans {S : Nat → Prop} {w w1 w2 : World} (h : Stays S w w1) (h2 : Stays S w1 w2) : Stays S w w2 :=
  ⟨Nat.le_trans h.1 h2.1, fun b hb hlt => (h2.2 b hb (Nat.lt_of_lt_of_le hlt h.1)).trans (h.2 b hb hlt)⟩
theorem Psl.in.elem {S : Nat → Prop} {w : World} {x : Psl} (h : x.in S w) {i : Nat} (hi : i < x.l.length) : (∃ b off, x.a = some ⟨b, off, Option.none⟩ ∧ w.cell? ⟨b, off + i * 10 + 8, Option.none⟩ = some (x.l.getD i default).ksl.v) ∧ (x.l.getD i default).ksl.in S w := by
  obtain ⟨b, off, e, _, _, hc⟩ := h.1.elem Pm.c_len (by decide) hi
  refine ⟨⟨b, off, e, hc 8 _ (Pm.c_8 _)⟩, Pm.ksl_in ((PmSs_iff x.l).1 h.2.2 _ ?_)⟩
  rw [List.getD, List.getElem?_eq_getElem hi]; exact List.getElem_mem hi
end Go.Proofs.YtjaclmoobfeikaaGreatDoor
namespace Go.Proofs.YtjaclmoobfeikaaGreatDoor
open Go.RowKit

set_option maxRecDepth 100000 in
set_option maxHeartbeats 1600000 in
theorem pall_any (R b deep d : Nat) (H1 : ∀ s w, RdA R b deep s w → Calls Tryz.prog 117 #[.pointer (some ⟨R, 0, none⟩)] w (PrGo R b deep (oneF d s) w)) (s : RS) (w : World) (h : RdA R b deep s w) :
    Calls Tryz.prog 95 #[.pointer (some ⟨R, 0, none⟩)] w (PrGo R b deep (allF d s) w) := by
  have HS := Lib.hid h
  have HP := Lib.hid (fun W (hW : w.grownBy W none) => pparts_any R b deep 8 117 bAnd (by decide) (.pointer (some ⟨R, 0, none⟩)) (oneF d) (oneF_next d) s W (h.keep hW) (fun args W => Tryz.call117 args W) (fun W st h' => H1 st W h'))
  simp only [show ((8 : Nat) : Int) = 8 from rfl] at HP
  have hR := h.lt'
  unfold allF
  generalize partsL 8 bAnd (oneF d) s = r at *
  clear h H1
  go_enter Tryz.func95, Tryz.ntmps95
  have GA := Lib.hid (World.grownBy_alloc w (.cells z10 33) none)
  have GA1 := Lib.hid (heap_alloc_new w (.cells z10 33))
  go_wp2_with fail
  refine (HP.out _ GA.out).mono ?_
  rintro e w2 ⟨x, rfl, hx, hxS, hgo⟩
  have A2 := Lib.hid (hgo.blk GA1.out (by omega))
  have R2 := Lib.hid (show RdGo R b deep r.1 w w2 from ⟨hgo.1, GA.out.trans' hgo.2⟩)
  have HX := Lib.hid (And.intro hx (hxS.mono (S' := fun j => w.heap.size ≤ j ∧ j ≠ w.heap.size) (fun j _ hj => by simp at hj; omega)))
  clear hgo hx hxS
  go_wp2_with (refine wpList_store_row rfl 33 (.tmp 2) (.tmp 6) rfl w.heap.size x.c.toArray rfl rfl 33 z10 A2.out (by rw [Pm.c_size]; exact pred_size) (by rw [Pm.c_size]; rfl) (Pm.c_all _) ?_)
  obtain ⟨hp, hb⟩ := PrGo.ret (r := r) HS.out x HX.out.1 HX.out.2 R2.out (Nat.le_refl _) A2.out
  exact bodyPost_ret (results_pm rfl _ _ w.heap.size _ rfl hb) rfl hp
set_option maxRecDepth 100000 in
set_option maxHeartbeats 1600000 in
theorem pany_any (R b deep d : Nat) (H1 : ∀ s w, RdA R b deep s w → Calls Tryz.prog 117 #[.pointer (some ⟨R, 0, none⟩)] w (PrGo R b deep (oneF d s) w)) (s : RS) (w : World) (h : RdA R b deep s w) :
    Calls Tryz.prog 57 #[.pointer (some ⟨R, 0, none⟩)] w (PrGo R b deep (anyF d s) w) := by
  have HS := Lib.hid h
  have HP := Lib.hid (fun W (hW : w.grownBy W none) => pparts_any R b deep 9 95 bOr (by decide) (.pointer (some ⟨R, 0, none⟩)) (allF d) (allF_next d) s W (h.keep hW) (fun args W => Tryz.call95 args W) (fun W st h' => pall_any R b deep d H1 st W h'))
  simp only [show ((9 : Nat) : Int) = 9 from rfl] at HP
  have hR := h.lt'
  unfold anyF
  generalize partsL 9 bOr (allF d) s = r at *
  clear h H1
  go_enter Tryz.func57, Tryz.ntmps57
  have GA := Lib.hid (World.grownBy_alloc w (.cells z10 33) none)
  have GA1 := Lib.hid (heap_alloc_new w (.cells z10 33))
  go_wp2_with fail
  refine (HP.out _ GA.out).mono ?_
  rintro e w2 ⟨x, rfl, hx, hxS, hgo⟩
  have A2 := Lib.hid (hgo.blk GA1.out (by omega))
  have R2 := Lib.hid (show RdGo R b deep r.1 w w2 from ⟨hgo.1, GA.out.trans' hgo.2⟩)
  have HX := Lib.hid (And.intro hx (hxS.mono (S' := fun j => w.heap.size ≤ j ∧ j ≠ w.heap.size) (fun j _ hj => by simp at hj; omega)))
  clear hgo hx hxS
  go_wp2_with (refine wpList_store_row rfl 33 (.tmp 2) (.tmp 6) rfl w.heap.size x.c.toArray rfl rfl 33 z10 A2.out (by rw [Pm.c_size]; exact pred_size) (by rw [Pm.c_size]; rfl) (Pm.c_all _) ?_)
  obtain ⟨hp, hb⟩ := PrGo.ret (r := r) HS.out x HX.out.1 HX.out.2 R2.out (Nat.le_refl _) A2.out
  exact bodyPost_ret (results_pm rfl _ _ w.heap.size _ rfl hb) rfl hp
theorem RdA.deepen {R b deep : Nat} {s : RS} {w : World} (h : RdA R b deep s w) (d' : Nat) : RdA R b d' s (w.setCell ⟨R, 1, none⟩ (.int .i64 (d' : Int))) := by
  have hg := grown_cellR w R 1 (.int .i64 (d' : Int))
  obtain ⟨⟨o, k, hb, h1, h2, h3⟩, ok, few, lt, ne, ⟨tp, p, far⟩, gR, sz⟩ := h
  exact ⟨⟨o, k, by simpa using heap_setCell_same _ _ 1 _ _ (.int .i64 (d' : Int)) hb, h1, h2, fun j u hj => hg.cell (h3 j u hj) (by simp; exact ne)⟩, ok, few, Nat.lt_of_lt_of_le lt hg.size, ne, ⟨tp, p, hg.cell far (by simp; exact gR)⟩, gR, sz⟩
theorem RdA.deepc {R b deep : Nat} {s : RS} {w : World} (h : RdA R b deep s w) : w.cell? ⟨R, 1, none⟩ = some (.int .i64 (deep : Int)) ∧ w.frozen? ⟨R, 1, none⟩ = false := by
  obtain ⟨o, k, hb, _⟩ := h.at_
  exact ⟨by rw [cell_of_row _ _ 1 _ _ _ hb]; rfl, frozen_of_row _ _ 1 _ _ hb⟩
end Go.Proofs.YtjaclmoobfeikaaGreatDoor
namespace Go.Proofs.YtjaclmoobfeikaaGreatDoor
open Go.RowKit

set_option maxRecDepth 100000 in
set_option maxHeartbeats 3200000 in
theorem pform_not (R b deep d : Nat) (H1 : ∀ s w, RdA R b deep s w → Calls Tryz.prog 117 #[.pointer (some ⟨R, 0, none⟩)] w (PrGo R b deep (oneF d s) w)) (s : RS) (w : World) (h : RdA R b deep s w) (hc : s.comes bNot = true) :
    Calls Tryz.prog 133 #[.pointer (some ⟨R, 0, none⟩)] w (PrGo R b deep ((oneF d s.pass).1, notP (oneF d s.pass).2 s.hd.pos) w) := by
  have HS := Lib.hid h
  have HC := Lib.hid (fun W (hW : w.grownBy W none) => comes_any R b deep s W (h.keep hW))
  have hR := h.lt'
  have HT := Lib.hid (fun W (hW : RdA R b deep s W) => took_yes R b deep s bNot W hW (by decide) hc)
  have HN := Lib.hid (fun W (hW : RdA R b deep s.pass W) => H1 s.pass W hW)
  generalize oneF d s.pass = r at *
  clear h H1 hc
  go_enter Tryz.func133, Tryz.ntmps133
  have GA := Lib.hid (World.grownBy_alloc w (.cells z10 33) none)
  have GA1 := Lib.hid (heap_alloc_new w (.cells z10 33))
  go_wp2_with fail
  refine (HC.out _ GA.out).mono ?_
  rintro e w2 ⟨rfl, hg⟩
  have A2 := Lib.hid (blk_grown hg GA1.out)
  have R2 := Lib.hid (show RdGo R b deep s w w2 from ⟨HS.out.keep (GA.out.trans hg), grown_anyR (GA.out.trans hg) _⟩)
  have t1 := field_tk2 (.int .i64 s.hd.kind) (.string s.hd.text) (.int .i64 s.hd.pos) w2
  clear hg
  go_wp2_with fail
  refine (HT.out _ R2.out.1).mono ?_
  rintro e w3 ⟨rfl, hr⟩
  have A3 := Lib.hid (hr.blk A2.out (by omega))
  have R3 := Lib.hid (R2.out.then hr)
  clear hr
  go_wp2_with fail
  refine (HN.out _ R3.out.1).mono ?_
  rintro e w4 ⟨x, rfl, hx, hxS, hr⟩
  have A4 := Lib.hid (hr.blk A3.out (by omega))
  have R4 := Lib.hid (R3.out.then hr)
  have lx : w.heap.size < w3.heap.size := (Array.getElem?_eq_some_iff.1 A3.out).1
  have HX := Lib.hid (And.intro hx hxS)
  have lz : w3.heap.size ≤ w4.heap.size := hr.2.size
  clear hr hx hxS
  have HNot := Lib.hid (pnot_any w3.heap.size x s.hd.pos w4 HX.out.2 lz)
  go_wp2_with fail
  refine HNot.out.mono ?_
  rintro e w5 ⟨⟨y, rfl, hy, hyS⟩, hg⟩
  have A5 := Lib.hid (blk_grown hg A4.out)
  have R5 := Lib.hid (R4.out.keep hg)
  have HY := Lib.hid (And.intro hy hyS)
  clear hg hy hyS
  go_wp2_with (refine wpList_store_row rfl 33 (.tmp 2) (.tmp 14) rfl w.heap.size (y).c.toArray rfl rfl 33 z10 A5.out (by rw [Pm.c_size]; exact pred_size) (by rw [Pm.c_size]; rfl) (Pm.c_all _) ?_)
  obtain ⟨hp, hb⟩ := PrGo.ret (r := (r.1, notP r.2 s.hd.pos)) HS.out (y) (by rw [HY.out.1, HX.out.1]) (HY.out.2.mono (fun j _ hj => ⟨Nat.le_of_lt (Nat.lt_of_lt_of_le lx hj), fun e => by omega⟩)) R5.out (Nat.le_refl _) A5.out
  exact bodyPost_ret (results_pm rfl _ _ w.heap.size _ rfl hb) rfl hp
set_option maxRecDepth 100000 in
set_option maxHeartbeats 3200000 in
theorem pform_name (R b deep : Nat)  (s : RS) (w : World) (h : RdA R b deep s w) (hc : s.comes bNot = false) (hc2 : s.comes bOpen = false) (hm : s.named = true) :
    Calls Tryz.prog 133 #[.pointer (some ⟨R, 0, none⟩)] w (PrGo R b deep (nameP s.hd.pos s) w) := by
  have HS := Lib.hid h
  have HC := Lib.hid (fun W (hW : w.grownBy W none) => comes_any R b deep s W (h.keep hW))
  have hR := h.lt'
  have HT := Lib.hid (fun W (hW : RdA R b deep s W) => took_no R b deep s bNot W hW (by decide) hc)
  have HO := Lib.hid (fun W (hW : RdA R b deep s W) => took_no R b deep s bOpen W hW (by decide) hc2)
  have HM := Lib.hid (fun W (hW : RdA R b deep s W) => pnamed_any R b deep s W hW)
  rw [hm] at HM
  have HN := Lib.hid (fun W (hW : RdA R b deep s W) => pofname_any R b deep s s.hd.pos W hW)
  generalize nameP s.hd.pos s = r at *
  clear h hc hc2 hm
  go_enter Tryz.func133, Tryz.ntmps133
  have GA := Lib.hid (World.grownBy_alloc w (.cells z10 33) none)
  have GA1 := Lib.hid (heap_alloc_new w (.cells z10 33))
  go_wp2_with fail
  refine (HC.out _ GA.out).mono ?_
  rintro e w2 ⟨rfl, hg⟩
  have A2 := Lib.hid (blk_grown hg GA1.out)
  have R2 := Lib.hid (show RdGo R b deep s w w2 from ⟨HS.out.keep (GA.out.trans hg), grown_anyR (GA.out.trans hg) _⟩)
  have t1 := field_tk2 (.int .i64 s.hd.kind) (.string s.hd.text) (.int .i64 s.hd.pos) w2
  clear hg
  go_wp2_with fail
  refine (HT.out _ R2.out.1).mono ?_
  rintro e w3 ⟨rfl, hr⟩
  have A3 := Lib.hid (hr.blk A2.out (by omega))
  have R3 := Lib.hid (R2.out.then hr)
  clear hr
  go_wp2_with fail
  refine (HO.out _ R3.out.1).mono ?_
  rintro e w4 ⟨rfl, hr⟩
  have A4 := Lib.hid (hr.blk A3.out (by omega))
  have R4 := Lib.hid (R3.out.then hr)
  clear hr
  go_wp2_with fail
  refine (HM.out _ R4.out.1).mono ?_
  rintro e w5 ⟨rfl, hg⟩
  have A5 := Lib.hid (blk_grown hg A4.out)
  have R5 := Lib.hid (R4.out.keep hg)
  clear hg
  go_wp2_with fail
  refine (HN.out _ R5.out.1).mono ?_
  rintro e w6 ⟨x, rfl, hx, hxS, hr⟩
  have A6 := Lib.hid (hr.blk A5.out (by omega))
  have R6 := Lib.hid (R5.out.then hr)
  have lx : w.heap.size < w5.heap.size := (Array.getElem?_eq_some_iff.1 A5.out).1
  have HX := Lib.hid (And.intro hx hxS)
  have lz : w5.heap.size ≤ w6.heap.size := hr.2.size
  clear hr hx hxS
  go_wp2_with (refine wpList_store_row rfl 33 (.tmp 2) (.tmp 28) rfl w.heap.size (x).c.toArray rfl rfl 33 z10 A6.out (by rw [Pm.c_size]; exact pred_size) (by rw [Pm.c_size]; rfl) (Pm.c_all _) ?_)
  obtain ⟨hp, hb⟩ := PrGo.ret (r := r) HS.out (x) HX.out.1 (HX.out.2.mono (fun j _ hj => ⟨Nat.le_of_lt (Nat.lt_of_lt_of_le lx hj), fun e => by omega⟩)) R6.out (Nat.le_refl _) A6.out
  exact bodyPost_ret (results_pm rfl _ _ w.heap.size _ rfl hb) rfl hp
set_option maxRecDepth 100000 in
set_option maxHeartbeats 3200000 in
theorem pform_lit (R b deep : Nat)  (s : RS) (w : World) (h : RdA R b deep s w) (hc : s.comes bNot = false) (hc2 : s.comes bOpen = false) (hm : s.named = false) :
    Calls Tryz.prog 133 #[.pointer (some ⟨R, 0, none⟩)] w (PrGo R b deep (litP s.hd.pos s) w) := by
  have HS := Lib.hid h
  have HC := Lib.hid (fun W (hW : w.grownBy W none) => comes_any R b deep s W (h.keep hW))
  have hR := h.lt'
  have HT := Lib.hid (fun W (hW : RdA R b deep s W) => took_no R b deep s bNot W hW (by decide) hc)
  have HO := Lib.hid (fun W (hW : RdA R b deep s W) => took_no R b deep s bOpen W hW (by decide) hc2)
  have HM := Lib.hid (fun W (hW : RdA R b deep s W) => pnamed_any R b deep s W hW)
  rw [hm] at HM
  have HN := Lib.hid (fun W (hW : RdA R b deep s W) => pofliteral_any R b deep s s.hd.pos W hW)
  generalize litP s.hd.pos s = r at *
  clear h hc hc2 hm
  go_enter Tryz.func133, Tryz.ntmps133
  have GA := Lib.hid (World.grownBy_alloc w (.cells z10 33) none)
  have GA1 := Lib.hid (heap_alloc_new w (.cells z10 33))
  go_wp2_with fail
  refine (HC.out _ GA.out).mono ?_
  rintro e w2 ⟨rfl, hg⟩
  have A2 := Lib.hid (blk_grown hg GA1.out)
  have R2 := Lib.hid (show RdGo R b deep s w w2 from ⟨HS.out.keep (GA.out.trans hg), grown_anyR (GA.out.trans hg) _⟩)
  have t1 := field_tk2 (.int .i64 s.hd.kind) (.string s.hd.text) (.int .i64 s.hd.pos) w2
  clear hg
  go_wp2_with fail
  refine (HT.out _ R2.out.1).mono ?_
  rintro e w3 ⟨rfl, hr⟩
  have A3 := Lib.hid (hr.blk A2.out (by omega))
  have R3 := Lib.hid (R2.out.then hr)
  clear hr
  go_wp2_with fail
  refine (HO.out _ R3.out.1).mono ?_
  rintro e w4 ⟨rfl, hr⟩
  have A4 := Lib.hid (hr.blk A3.out (by omega))
  have R4 := Lib.hid (R3.out.then hr)
  clear hr
  go_wp2_with fail
  refine (HM.out _ R4.out.1).mono ?_
  rintro e w5 ⟨rfl, hg⟩
  have A5 := Lib.hid (blk_grown hg A4.out)
  have R5 := Lib.hid (R4.out.keep hg)
  clear hg
  go_wp2_with fail
  refine (HN.out _ R5.out.1).mono ?_
  rintro e w6 ⟨x, rfl, hx, hxS, hr⟩
  have A6 := Lib.hid (hr.blk A5.out (by omega))
  have R6 := Lib.hid (R5.out.then hr)
  have lx : w.heap.size < w5.heap.size := (Array.getElem?_eq_some_iff.1 A5.out).1
  have HX := Lib.hid (And.intro hx hxS)
  have lz : w5.heap.size ≤ w6.heap.size := hr.2.size
  clear hr hx hxS
  go_wp2_with (refine wpList_store_row rfl 33 (.tmp 2) (.tmp 31) rfl w.heap.size (x).c.toArray rfl rfl 33 z10 A6.out (by rw [Pm.c_size]; exact pred_size) (by rw [Pm.c_size]; rfl) (Pm.c_all _) ?_)
  obtain ⟨hp, hb⟩ := PrGo.ret (r := r) HS.out (x) HX.out.1 (HX.out.2.mono (fun j _ hj => ⟨Nat.le_of_lt (Nat.lt_of_lt_of_le lx hj), fun e => by omega⟩)) R6.out (Nat.le_refl _) A6.out
  exact bodyPost_ret (results_pm rfl _ _ w.heap.size _ rfl hb) rfl hp
set_option maxRecDepth 100000 in
set_option maxHeartbeats 3200000 in
theorem pform_in (R b deep d : Nat) (H1 : ∀ s w, RdA R b deep s w → Calls Tryz.prog 117 #[.pointer (some ⟨R, 0, none⟩)] w (PrGo R b deep (oneF d s) w)) (s : RS) (w : World) (h : RdA R b deep s w) (hc : s.comes bNot = false) (hc2 : s.comes bOpen = true) :
    Calls Tryz.prog 133 #[.pointer (some ⟨R, 0, none⟩)] w (PrGo R b deep ((anyF d s.pass).1.need bShut, (anyF d s.pass).2) w) := by
  have HS := Lib.hid h
  have HC := Lib.hid (fun W (hW : w.grownBy W none) => comes_any R b deep s W (h.keep hW))
  have hR := h.lt'
  have HT := Lib.hid (fun W (hW : RdA R b deep s W) => took_no R b deep s bNot W hW (by decide) hc)
  have HO := Lib.hid (fun W (hW : RdA R b deep s W) => took_yes R b deep s bOpen W hW (by decide) hc2)
  have HN := Lib.hid (fun W (hW : RdA R b deep s.pass W) => pany_any R b deep d H1 s.pass W hW)
  generalize anyF d s.pass = r at *
  have HD := Lib.hid (fun W (hW : RdA R b deep r.1 W) => need_any R b deep r.1 bShut W hW (by decide))
  clear h H1 hc hc2
  go_enter Tryz.func133, Tryz.ntmps133
  have GA := Lib.hid (World.grownBy_alloc w (.cells z10 33) none)
  have GA1 := Lib.hid (heap_alloc_new w (.cells z10 33))
  go_wp2_with fail
  refine (HC.out _ GA.out).mono ?_
  rintro e w2 ⟨rfl, hg⟩
  have A2 := Lib.hid (blk_grown hg GA1.out)
  have R2 := Lib.hid (show RdGo R b deep s w w2 from ⟨HS.out.keep (GA.out.trans hg), grown_anyR (GA.out.trans hg) _⟩)
  have t1 := field_tk2 (.int .i64 s.hd.kind) (.string s.hd.text) (.int .i64 s.hd.pos) w2
  clear hg
  go_wp2_with fail
  refine (HT.out _ R2.out.1).mono ?_
  rintro e w3 ⟨rfl, hr⟩
  have A3 := Lib.hid (hr.blk A2.out (by omega))
  have R3 := Lib.hid (R2.out.then hr)
  clear hr
  go_wp2_with fail
  refine (HO.out _ R3.out.1).mono ?_
  rintro e w4 ⟨rfl, hr⟩
  have A4 := Lib.hid (hr.blk A3.out (by omega))
  have R4 := Lib.hid (R3.out.then hr)
  clear hr
  go_wp2_with fail
  refine (HN.out _ R4.out.1).mono ?_
  rintro e w5 ⟨x, rfl, hx, hxS, hr⟩
  have A5 := Lib.hid (hr.blk A4.out (by omega))
  have R5 := Lib.hid (R4.out.then hr)
  have lx : w.heap.size < w4.heap.size := (Array.getElem?_eq_some_iff.1 A4.out).1
  have HX := Lib.hid (And.intro hx hxS)
  have lz : w4.heap.size ≤ w5.heap.size := hr.2.size
  clear hr hx hxS
  have B5 := Lib.hid (heap_alloc_new w5 (.cells z10 33))
  go_wp2_with (refine wpList_store_row rfl 33 (.tmp 4) (.tmp 19) rfl w5.heap.size x.c.toArray rfl rfl 33 z10 B5.out (by rw [Pm.c_size]; exact pred_size) (by rw [Pm.c_size]; rfl) (Pm.c_all _) ?_)
  have gA := Lib.hid (World.grownBy_alloc w5 (.cells z10 33) none)
  have gS := Lib.hid (grown_setRow (w5.alloc (.cells z10 33)) w5.heap.size x.c.toArray)
  have B6 := Lib.hid (setRow_heap (w5.alloc (.cells z10 33)) w5.heap.size z10 x.c.toArray _ _ B5.out)
  have A6 := Lib.hid (blk_row gS.out (blk_grown gA.out A5.out) (by omega))
  have R6 := Lib.hid (RdGo.stored HS.out (R5.out.keep gA.out) (by omega) gS.out)
  have X6 := Lib.hid ((HX.out.2.mono (S' := fun j => w.heap.size < j ∧ j ≠ w5.heap.size) (fun j hj1 hj => by omega)).keep ⟨Nat.le_trans gA.out.size gS.out.size, fun k hk hlt => (gS.out.block k (Nat.lt_of_lt_of_le hlt gA.out.size) (by simp; exact hk.2)).trans (gA.out.block k hlt (by simp))⟩)
  have l6 : w5.heap.size < ((w5.alloc (.cells z10 33)).setRow w5.heap.size x.c.toArray).heap.size := (Array.getElem?_eq_some_iff.1 B6.out).1
  clear gS gA B5
  refine (HD.out _ R6.out.1).mono ?_
  rintro e w7 ⟨rfl, hr⟩
  have A7 := Lib.hid (hr.blk A6.out (by omega))
  have B7 := Lib.hid (hr.blk B6.out (by omega))
  have R7 := Lib.hid (R6.out.then hr)
  have X7 := Lib.hid (X6.out.keep ⟨hr.2.size, fun k hk hlt => hr.2.block k hlt (by simp; omega)⟩)
  clear hr
  go_wp2_with (first
    | (refine wpList_load_row rfl 33 (.tmp 4) rfl w5.heap.size rfl 33 x.c.toArray (0, 0) _ B7.out Tryz.underlying33 rfl (by rw [Pm.c_size]; exact pred_size) ?_)
    | (refine wpList_store_row rfl 33 (.tmp 2) (.tmp 22) rfl w.heap.size x.c.toArray rfl rfl 33 z10 A7.out (by rw [Pm.c_size]; exact pred_size) (by rw [Pm.c_size]; rfl) (Pm.c_all _) ?_))
  obtain ⟨hp, hb⟩ := PrGo.ret (r := (r.1.need bShut, r.2)) HS.out x HX.out.1 (X7.out.mono (fun j _ hj => ⟨Nat.le_of_lt hj.1, fun e => by have := hj.1; omega⟩)) R7.out (Nat.le_refl _) A7.out
  exact bodyPost_ret (results_pm rfl _ _ w.heap.size _ rfl hb) rfl hp
theorem pform_any (R b deep d : Nat) (H1 : ∀ s w, RdA R b deep s w → Calls Tryz.prog 117 #[.pointer (some ⟨R, 0, none⟩)] w (PrGo R b deep (oneF d s) w)) (s : RS) (w : World) (h : RdA R b deep s w) :
    Calls Tryz.prog 133 #[.pointer (some ⟨R, 0, none⟩)] w (PrGo R b deep (oneF (d + 1) s) w) := by
  unfold oneF
  cases hc : s.comes bNot with
  | true => rw [if_pos rfl]; exact pform_not R b deep d H1 s w h hc
  | false =>
    rw [if_neg (by simp)]
    cases hc2 : s.comes bOpen with
    | true => rw [if_pos rfl]; exact pform_in R b deep d H1 s w h hc hc2
    | false =>
      rw [if_neg (by simp)]
      cases hm : s.named with
      | true => rw [if_pos rfl]; exact pform_name R b deep s w h hc hc2 hm
      | false => rw [if_neg (by simp)]; exact pform_lit R b deep s w h hc hc2 hm
end Go.Proofs.YtjaclmoobfeikaaGreatDoor
