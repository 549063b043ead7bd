/- The other two predicates that begin with a literal. The reader's parts: the list of predicates in memory, its mathematics. The reader's parts. -/
import Derived.Test.YtjaclmoobfeikaaGreatDoorZl29
namespace Go.Proofs.YtjaclmoobfeikaaGreatDoor
open Go.RowKit

theorem rw_one {S : Nat → Prop} {w : World} {g : Nat} {uk un : Int} {us : ByteArray} {T : TypeId} (h : w.heap[g]? = some (.cells #[.int .i64 uk, .int .i64 un, .string us] T (0, 0))) (hS : S g) (hs : us.size ≤ maxLen) : RwS S w (some ⟨g, 0, Option.none⟩) [⟨uk, un, us⟩] := by
  obtain ⟨⟨x0, x1, x2⟩, _, _, _⟩ := three_of h
  refine ⟨by simp, by simpa using hs, .inr ⟨g, 0, rfl, hS, (Array.getElem?_eq_some_iff.1 h).1, fun i hi => ?_⟩⟩
  obtain rfl : i = 0 := by simpa using hi
  exact ⟨x0, x1, x2⟩
def cnP (g r : Nat) (v u : Vl) (pos : Nat) : Pm := .mk 11 ⟨#[]⟩ r v ⟨#[]⟩ (some ⟨g, 0, Option.none⟩) 1 [u] Option.none 0 [] pos
theorem cn10 {w : World} {g a r pos : Nat} {vs : ByteArray} {vk vn : Int} {u : Vl} {T : TypeId} (h : w.heap[g]? = some (.cells #[.int .i64 11, .string ⟨#[]⟩, .int .i64 (r : Int), .int .i64 vk, .int .i64 vn, .string vs, .string ⟨#[]⟩, .slice (some ⟨a, 0, Option.none⟩) 1 1, .slice Option.none 0 0, .int .i64 (pos : Int)] T (0, 0))) : w.heap[g]? = some (.cells (cnP a r ⟨vk, vn, vs⟩ u pos).c.toArray T (0, 0)) := by
  simpa [cnP, Pm.c] using h
set_option maxRecDepth 100000 in
set_option maxHeartbeats 3200000 in
theorem pofl_truth (R b deep : Nat) (s s1 : RS) (v : Vl) (pos : Nat) (w : World) (h : RdA R b deep s w) (hl : s.literal = (s1, v)) (s2 : RS) (hr0 : s1.rel = (s2, 0)) :
    Calls Tryz.prog 146 #[.pointer (some ⟨R, 0, none⟩), .int .i64 pos] w (PrGo R b deep (truthP v pos s2) w) := by
  have HS := Lib.hid h
  have HL := Lib.hid (fun W (hW : w.grownBy W none) => plit_any R b deep s W (h.keep hW))
  rw [hl] at HL
  obtain ⟨vk, vn, vs⟩ := v
  simp only [vCT] at HL
  have HRl := Lib.hid (fun W (hW : RdA R b deep s1 W) => prel_any R b deep s1 W hW)
  rw [hr0] at HRl
  simp only at HRl
  rw [show ((0 : Nat) : Int) = 0 from rfl] at HRl
  have HTr := Lib.hid (fun W (hW : RdA R b deep s2 W) => ptruth_any R b deep s2 ⟨vk, vn, vs⟩ pos W hW)
  simp only at HTr
  have hR := h.lt'
  clear h hl hr0
  go_enter Tryz.func146, Tryz.ntmps146
  have GA := Lib.hid (World.grownBy_alloc w (.cells z10 33) none)
  have GA1 := Lib.hid (heap_alloc_new w (.cells z10 33))
  go_wp2_with fail
  refine (HL.out _ GA.out).mono ?_
  rintro e w2 ⟨rfl, hr⟩
  have hlt := (Array.getElem?_eq_some_iff.1 GA1.out).1
  have a2 := hr.blk GA1.out (by omega)
  have R2 := Lib.hid (show RdGo R b deep s1 w w2 from ⟨hr.1, GA.out.trans' hr.2⟩)
  have lw : w.heap.size < w2.heap.size := (Array.getElem?_eq_some_iff.1 a2).1
  have lR : R < w2.heap.size := Nat.lt_of_lt_of_le hR (Nat.le_of_lt lw)
  have R3 := Lib.hid (R2.out.keep (World.grownBy_alloc w2 (.cells #[.int .i64 vk, .int .i64 vn, .string vs] 29) none))
  have A3 := Lib.hid (blk_grown (World.grownBy_alloc w2 (.cells #[.int .i64 vk, .int .i64 vn, .string vs] 29) none) a2)
  have B3 := Lib.hid (heap_alloc_new w2 (.cells #[.int .i64 vk, .int .i64 vn, .string vs] 29))
  clear hr hlt a2
  go_wp2_with fail
  refine (HRl.out _ R3.out.1).mono ?_
  rintro e w4 ⟨rfl, hr⟩
  have A4 := Lib.hid (hr.blk A3.out (by omega))
  have B4 := Lib.hid (hr.blk B3.out (by omega))
  have R4 := Lib.hid (R3.out.then hr)
  clear hr
  obtain ⟨⟨x0, x1, x2⟩, _, _, _⟩ := three_of (show w4.heap[w2.heap.size]? = some (.cells #[.int .i64 vk, .int .i64 vn, .string vs] 29 (0, 0)) from B4.out)
  go_wp2_with fail
  refine (HTr.out _ R4.out.1).mono ?_
  rintro e w8 ⟨x, rfl, hx, hxS, hr⟩
  have A8 := Lib.hid (hr.blk A4.out (by omega))
  have R8 := Lib.hid (R4.out.then hr)
  have lx : w.heap.size < w4.heap.size := (Array.getElem?_eq_some_iff.1 A4.out).1
  have HX := Lib.hid (And.intro hx hxS)
  have lz : w4.heap.size ≤ w8.heap.size := hr.2.size
  clear hr hx hxS
  go_wp2_with (refine wpList_store_row rfl 33 (.tmp 4) (.tmp 19) rfl w.heap.size (x).c.toArray rfl rfl 33 z10 A8.out (by rw [Pm.c_size]; exact pred_size) (by rw [Pm.c_size]; rfl) (Pm.c_all _) ?_)
  obtain ⟨hp, hb⟩ := PrGo.ret (r := (truthP ⟨vk, vn, vs⟩ pos s2)) HS.out (x) HX.out.1 (HX.out.2.mono (fun j _ hj => ⟨Nat.le_of_lt (Nat.lt_of_lt_of_le lx hj), fun e => by omega⟩)) R8.out (Nat.le_refl _) A8.out
  exact bodyPost_ret (results_pm rfl _ _ w.heap.size _ rfl hb) rfl hp
set_option maxRecDepth 100000 in
set_option maxHeartbeats 6400000 in
theorem pofl_const (R b deep : Nat) (s s1 : RS) (v : Vl) (pos : Nat) (w : World) (h : RdA R b deep s w) (hl : s.literal = (s1, v)) (s2 : RS) (rv : Nat) (hr0 : s1.rel = (s2, rv)) (hrv : rv ≠ 0) (hnm : s2.named = false) (s3 : RS) (u : Vl) (h3 : s2.literal = (s3, u)) :
    Calls Tryz.prog 146 #[.pointer (some ⟨R, 0, none⟩), .int .i64 pos] w (PrGo R b deep (s3, .mk 11 ⟨#[]⟩ rv v ⟨#[]⟩ [u] [] pos) w) := by
  have HS := Lib.hid h
  have HL := Lib.hid (fun W (hW : w.grownBy W none) => plit_any R b deep s W (h.keep hW))
  rw [hl] at HL
  obtain ⟨vk, vn, vs⟩ := v
  simp only [vCT] at HL
  have HRl := Lib.hid (fun W (hW : RdA R b deep s1 W) => prel_any R b deep s1 W hW)
  rw [hr0] at HRl
  simp only at HRl
  have HNm := Lib.hid (fun W (hW : RdA R b deep s2 W) => pnamed_any R b deep s2 W hW)
  rw [hnm] at HNm
  have HN2 := Lib.hid (fun W (hW : RdA R b deep s2 W) => plit_any R b deep s2 W hW)
  rw [h3] at HN2
  have hus := lit_size s2
  rw [h3] at hus
  obtain ⟨uk, un, us⟩ := u
  simp only [vCT] at HN2
  simp only at hus
  have hR := h.lt'
  have hrb : ((rv : Int) == 0) = false := by rw [beq_eq_false_iff_ne]; omega
  clear h hl hr0 hrv hnm h3
  go_enter Tryz.func146, Tryz.ntmps146
  have GA := Lib.hid (World.grownBy_alloc w (.cells z10 33) none)
  have GA1 := Lib.hid (heap_alloc_new w (.cells z10 33))
  go_wp2_with fail
  refine (HL.out _ GA.out).mono ?_
  rintro e w2 ⟨rfl, hr⟩
  have hlt := (Array.getElem?_eq_some_iff.1 GA1.out).1
  have a2 := hr.blk GA1.out (by omega)
  have R2 := Lib.hid (show RdGo R b deep s1 w w2 from ⟨hr.1, GA.out.trans' hr.2⟩)
  have lw : w.heap.size < w2.heap.size := (Array.getElem?_eq_some_iff.1 a2).1
  have lR : R < w2.heap.size := Nat.lt_of_lt_of_le hR (Nat.le_of_lt lw)
  have R3 := Lib.hid (R2.out.keep (World.grownBy_alloc w2 (.cells #[.int .i64 vk, .int .i64 vn, .string vs] 29) none))
  have A3 := Lib.hid (blk_grown (World.grownBy_alloc w2 (.cells #[.int .i64 vk, .int .i64 vn, .string vs] 29) none) a2)
  have B3 := Lib.hid (heap_alloc_new w2 (.cells #[.int .i64 vk, .int .i64 vn, .string vs] 29))
  clear hr hlt a2
  go_wp2_with fail
  refine (HRl.out _ R3.out.1).mono ?_
  rintro e w4 ⟨rfl, hr⟩
  have A4 := Lib.hid (hr.blk A3.out (by omega))
  have B4 := Lib.hid (hr.blk B3.out (by omega))
  have R4 := Lib.hid (R3.out.then hr)
  clear hr
  go_wp2_with fail
  refine (HNm.out _ R4.out.1).mono ?_
  rintro e w6 ⟨rfl, hg⟩
  have A6 := Lib.hid (blk_grown hg A4.out)
  have B6 := Lib.hid (blk_grown hg B4.out)
  have R6 := Lib.hid (R4.out.keep hg)
  have RA := Lib.hid (R6.out.1.keep (grown_drewT (grown_reflT w6 none)))
  obtain ⟨⟨x0, x1, x2⟩, _, _, _⟩ := three_of (show w6.drew.heap[w2.heap.size]? = some (.cells #[.int .i64 vk, .int .i64 vn, .string vs] 29 (0, 0)) from B6.out)
  clear hg
  go_wp2_with fail
  go_region_law (go_simp; go_at_call 159; (with_reducible refine (HN2.out w6.drew RA.out).mono ?_); rintro e w7 ⟨rfl, hr⟩; have A7 := Lib.hid (hr.blk A6.out (by omega)); have R7 := Lib.hid ((R6.out.keep (grown_drewT (grown_reflT w6 none))).then hr); obtain ⟨⟨y0, y1, y2⟩, _, _, _⟩ := three_of (hr.blk B6.out (by omega)); have l7 : w2.heap.size < w7.heap.size := (Array.getElem?_eq_some_iff.1 (hr.blk B6.out (by omega))).1; have A8 := Lib.hid (blk_grown (World.grownBy_alloc w7 (.cells #[.int .i64 uk, .int .i64 un, .string us] 29) none) A7.out); obtain ⟨⟨z0, z1, z2⟩, _, _, _⟩ := three_of (blk_grown (World.grownBy_alloc w7 (.cells #[.int .i64 uk, .int .i64 un, .string us] 29) none) (hr.blk B6.out (by omega))); obtain ⟨⟨p0, p1, p2, p3, p4⟩, p5, p6, p7, p8, p9⟩ := ten_of (show (w7.alloc (.cells #[.int .i64 uk, .int .i64 un, .string us] 29)).heap[w.heap.size]? = some (.cells #[.int .i64 0, .string ⟨#[]⟩, .int .i64 0, .int .i64 0, .int .i64 0, .string ⟨#[]⟩, .string ⟨#[]⟩, .slice Option.none 0 0, .slice Option.none 0 0, .int .i64 0] 33 (0, 0)) from A8.out); obtain ⟨⟨q0, q1, q2, q3, q4⟩, q5, q6, q7, q8, q9⟩ := ten_f A8.out; clear hr)
  all_goals
    go_wp2_with fail
    have hs0 := set10 A8.out (v0 := .int .i64 11) (v1 := .string ⟨#[]⟩) (v2 := .int .i64 (rv : Int)) (v3 := .int .i64 vk) (v4 := .int .i64 vn) (v5 := .string vs) (v6 := .string ⟨#[]⟩) (v7 := .slice (some ⟨w7.heap.size, 0, Option.none⟩) 1 1) (v8 := .slice Option.none 0 0) (v9 := .int .i64 (pos : Int))
    have hs := cn10 (u := ⟨uk, un, us⟩) hs0
    have hg := grown10 (w7.alloc (.cells #[.int .i64 uk, .int .i64 un, .string us] 29)) w.heap.size (.int .i64 11) (.string ⟨#[]⟩) (.int .i64 (rv : Int)) (.int .i64 vk) (.int .i64 vn) (.string vs) (.string ⟨#[]⟩) (.slice (some ⟨w7.heap.size, 0, Option.none⟩) 1 1) (.slice Option.none 0 0) (.int .i64 (pos : Int))
    have hv := blk_row hg (heap_alloc_new w7 _) (by omega)
    have hp := PrGo.retG (r := (s3, .mk 11 ⟨#[]⟩ rv ⟨vk, vn, vs⟩ ⟨#[]⟩ [⟨uk, un, us⟩] [] pos)) HS.out (cnP w7.heap.size rv ⟨vk, vn, vs⟩ ⟨uk, un, us⟩ pos) rfl ⟨rw_one hv (by omega) (Nat.le_trans hus (by decide)), Nat.le_refl _, .inl rfl, Nat.le_refl _, trivial⟩ (R7.out.keep (World.grownBy_alloc w7 (.cells #[.int .i64 uk, .int .i64 un, .string us] 29) none)) (Nat.le_refl _) hg
    exact bodyPost_ret (results_pm rfl _ _ w.heap.size _ rfl hs) rfl hp
theorem pofliteral_any (R b deep : Nat) (s : RS) (pos : Nat) (w : World) (h : RdA R b deep s w) :
    Calls Tryz.prog 146 #[.pointer (some ⟨R, 0, none⟩), .int .i64 pos] w (PrGo R b deep (litP pos s) w) := by
  obtain ⟨⟨s1, v⟩, hl⟩ : ∃ y, s.literal = y := ⟨_, rfl⟩
  obtain ⟨⟨s2, rv⟩, hr⟩ : ∃ y, s1.rel = y := ⟨_, rfl⟩
  unfold litP
  rw [hl]
  dsimp only
  rw [hr]
  dsimp only
  by_cases h0 : rv = 0
  · subst h0
    rw [if_pos rfl]
    exact pofl_truth R b deep s s1 v pos w h hl s2 hr
  · rw [if_neg h0]
    cases hm : s2.named with
    | true =>
      rw [if_pos rfl]
      exact pofl_cmp R b deep s s1 v pos w h hl s2 rv hr h0 hm _ _ rfl
    | false =>
      rw [if_neg (by simp)]
      exact pofl_const R b deep s s1 v pos w h hl s2 rv hr h0 hm _ _ rfl
end Go.Proofs.YtjaclmoobfeikaaGreatDoor
namespace Go.Proofs.YtjaclmoobfeikaaGreatDoor
open Go.RowKit

/-- The parts read so far: in a window of their own. -/
structure Prt (R b deep : Nat) (w wr : World) (st : RS) (acc : List Pm) (a : Ptr) (cap : Nat) : Prop where
  go : RdGo R b deep st w wr
  res : wr.heap[w.heap.size]? = some (.cells z10 33 (0, 0))
  win : Win 10 wr a cap acc.length (acc.flatMap Pm.c)
  low : ∀ k, bk a k → w.heap.size < k
  kids : PmSs (fun j => w.heap.size < j ∧ ¬ bk a j) wr acc
  one : ∀ x, acc = [x] → ∃ g, a = some ⟨g, 0, Option.none⟩ ∧ w.heap.size < g ∧ wr.heap[g]? = some (.cells x.c.toArray 33 (0, 0))
  few : acc.length + st.rest.length ≤ 270
  ne : acc ≠ []
theorem PmSs.mono' {S S' : Nat → Prop} {w : World} {l : List Pm} (h : PmSs S w l) (hs : ∀ b, b < w.heap.size → S b → S' b) : PmSs S' w l :=
  (PmSs_iff l).2 fun x hx => ((PmSs_iff l).1 h x hx).mono hs
theorem win_block {W : World} {g : Nat} {x : Pm} {T : TypeId} (h : W.heap[g]? = some (.cells x.c.toArray T (0, 0))) : Win 10 W (some ⟨g, 0, Option.none⟩) 1 1 x.c :=
  ⟨Pm.c_len x, Nat.le_refl _, by decide, fun k hk => by
    rw [bk_some] at hk; subst hk; exact (Array.getElem?_eq_some_iff.1 h).1, .inr ⟨g, 0, rfl, fun j u hj => by
      rw [Nat.zero_add, cell_of_row _ _ j _ _ _ h]; simpa using hj, fun j hj => by
      rw [Nat.zero_add, cell_of_row _ _ j _ _ _ h]
      have : j < x.c.length := by rw [Pm.c_len]; omega
      simp [this], fun o => frozen_of_row _ _ o _ _ h⟩⟩
theorem Prt.then {R b deep : Nat} {w wr w2 : World} {st st2 : RS} {acc : List Pm} {a : Ptr} {cap : Nat} (h : Prt R b deep w wr st acc a cap) (hR : R < w.heap.size) (hg : RdGo R b deep st2 wr w2) (hl : st2.rest.length ≤ st.rest.length) : Prt R b deep w w2 st2 acc a cap where
  go := h.go.then hg
  res := (hg.2.block _ (Array.getElem?_eq_some_iff.1 h.res).1 (by simp; omega)).trans h.res
  win := h.win.keep (Only.of_grown hg.2) (fun k hk e => by cases e; have := h.low R hk; omega)
  low := h.low
  kids := h.kids.keep ⟨hg.2.size, fun k hk hlt => hg.2.block k hlt (by simp; omega)⟩
  one := fun x hx => by
    obtain ⟨g, e, hlt, hb⟩ := h.one x hx
    exact ⟨g, e, hlt, (hg.2.block _ (Array.getElem?_eq_some_iff.1 hb).1 (by simp; omega)).trans hb⟩
  few := by have := h.few; omega
  ne := h.ne
theorem Prt.begin {R b deep : Nat} {w W w2 : World} {st : RS} {x : Pm} (hR : R < w.heap.size) (hg : w.grownBy W none) (res : W.heap[w.heap.size]? = some (.cells z10 33 (0, 0))) (h2 : RdGo R b deep st W w2) (hx : PmS (fun j => W.heap.size ≤ j) w2 x) :
    Prt R b deep w (w2.alloc (.cells x.c.toArray 33)) st [x] (some ⟨w2.heap.size, 0, Option.none⟩) 1 := by
  have lt := (Array.getElem?_eq_some_iff.1 res).1
  have l2 := h2.2.size
  have hga := World.grownBy_alloc w2 (.cells x.c.toArray 33) none
  have hb := heap_alloc_new w2 (.cells x.c.toArray 33)
  exact ⟨RdGo.keep ⟨h2.1, hg.trans' h2.2⟩ hga, (hga.block _ (by omega) (by simp)).trans ((h2.2.block _ lt (by simp; omega)).trans res), by
    have := win_block hb
    simpa [flat_one] using this, fun k hk => by rw [bk_some] at hk; omega, ⟨(hx.mono (S' := fun j => w.heap.size < j ∧ ¬ bk (some ⟨w2.heap.size, 0, Option.none⟩) j) (fun k hk h => ⟨by omega, fun e => by rw [bk_some] at e; omega⟩)).keep ⟨hga.size, fun k _ hlt => hga.block k hlt (by simp)⟩, trivial⟩, fun y hy => by
    cases hy; exact ⟨_, rfl, by omega, hb⟩, by have := h2.1.few; simp; omega, by simp⟩
theorem Prt.more {R b deep : Nat} {w wr w3 w5 : World} {s0 st st3 : RS} {acc : List Pm} {a a' : Ptr} {cap cap' : Nat} {x : Pm} (hR : R < w.heap.size) (h0 : RdA R b deep s0 w) (h : Prt R b deep w wr st acc a cap) (hg : RdGo R b deep st3 wr w3) (hx : PmS (fun j => wr.heap.size ≤ j) w3 x) (hl : st3.rest.length ≤ st.rest.length) (hf : acc.length + 1 + st3.rest.length ≤ 270)
    (hw : Win 10 w5 a' cap' (acc.length + 1) (acc.flatMap Pm.c ++ x.c)) (ho : Only (bk a) (w3.alloc (.cells x.c.toArray 33)) w5) (hb : ∀ k, bk a' k → bk a k ∨ (w3.alloc (.cells x.c.toArray 33)).heap.size ≤ k) :
    Prt R b deep w w5 st3 (acc ++ [x]) a' cap' := by
  have hga := World.grownBy_alloc w3 (.cells x.c.toArray 33) none
  have h3 := h.then hR hg hl
  have l0 := h.go.2.size
  have l3 := hg.2.size
  have l4 := hga.size
  have lo := ho.size
  have far : 11 < w.heap.size := by
    obtain ⟨tp, p, hf⟩ := h0.far
    by_cases hh : 11 < w.heap.size
    · exact hh
    · rw [World.cell?] at hf
      simp [Array.getElem?_eq_none (by omega : w.heap.size ≤ 11)] at hf
  have hbb := h0.lt
  have low' : ∀ k, bk a' k → w.heap.size < k := fun k hk => by
    rcases hb k hk with e | e
    · exact h.low k e
    · have := (Array.getElem?_eq_some_iff.1 h.res).1; omega
  have lr := (Array.getElem?_eq_some_iff.1 h.res).1
  refine ⟨⟨(h3.go.1.keep hga).only ho (fun e => by have := h.low _ e; omega) (fun e => by have := h.low _ e; omega) (fun e => by have := h.low _ e; omega), ?_⟩, ?_, ?_, low', ?_, ?_, ?_, by simp⟩
  · have g3 := h3.go.2
    exact ⟨ho.os.trans (hga.os.trans g3.os), ho.tape.trans (hga.tape.trans g3.tape), ho.output.trans (hga.output.trans g3.output), by omega, fun k hk hne => (ho.block k (by omega) (fun e => by have := h.low _ e; omega)).trans ((hga.block k (by omega) (by simp)).trans (g3.block k hk hne))⟩
  · exact (ho.block _ (by omega) (fun e => by have := h.low _ e; omega)).trans ((hga.block _ (by omega) (by simp)).trans h3.res)
  · simpa using hw
  · rw [PmSs_iff]
    intro y hy
    rcases List.mem_append.1 hy with hy | hy
    · have h1 := (PmSs_iff _).1 h3.kids y hy
      have h2 : PmS (fun j => (w.heap.size < j ∧ ¬ bk a j) ∧ ¬ bk a' j) w3 y := h1.mono (fun k hk hh => ⟨hh, fun e => by
        rcases hb k e with e | e
        · exact hh.2 e
        · omega⟩)
      exact (h2.keep ⟨by omega, fun k hk hlt => (ho.block k (by omega) hk.1.2).trans (hga.block k hlt (by simp))⟩).mono (fun k _ hk => ⟨hk.1.1, hk.2⟩)
    · obtain rfl : y = x := by simpa using hy
      have h2 : PmS (fun j => (w.heap.size < j ∧ ¬ bk a j) ∧ ¬ bk a' j) w3 y := hx.mono (fun k hk hh => ⟨⟨by omega, fun e => by have := h.win.lt k e; omega⟩, fun e => by
        rcases hb k e with e | e
        · have := h.win.lt k e; omega
        · omega⟩)
      exact (h2.keep ⟨by omega, fun k hk hlt => (ho.block k (by omega) hk.1.2).trans (hga.block k hlt (by simp))⟩).mono (fun k _ hk => ⟨hk.1.1, hk.2⟩)
  · intro y hy
    exfalso
    have := congrArg List.length hy
    simp at this
    exact h.ne this
  · simp
    omega
/-- Which parts follow does not hang on the fuel, where there is enough. -/
theorem partsF_fuel (word : ByteArray) (hw : word ≠ ⟨#[]⟩) (pf : RS → RS × Prd) (hn : ∀ s : RS, s.ok → s.next (pf s).1) : ∀ (f : Nat) (s : RS) (acc : List Prd), s.ok → s.rest.length ≤ f → partsF word pf f s acc = partsF word pf s.rest.length s acc := by
  intro f
  induction f using Nat.strongRecOn with
  | ind f ih =>
    intro s acc hs hf
    have hp := hs.pos
    obtain ⟨m, hm⟩ : ∃ m, s.rest.length = m + 1 := ⟨s.rest.length - 1, by omega⟩
    obtain ⟨f', rfl⟩ : ∃ f', f = f' + 1 := ⟨f - 1, by omega⟩
    rw [hm]
    unfold partsF
    cases hc : s.comes word with
    | false => rfl
    | true =>
      simp only [if_true]
      have h1 := hs.pass (RS.more_of hw hc)
      have h2 := hn _ h1.1
      have h3 := h2.2
      rw [ih f' (by omega) _ _ h2.1 (by omega)]
      by_cases he : m = f' + 1
      · omega
      · rw [← ih m (by omega) _ _ h2.1 (by omega)]
theorem partsF_step (word : ByteArray) (hw : word ≠ ⟨#[]⟩) (pf : RS → RS × Prd) (hn : ∀ s : RS, s.ok → s.next (pf s).1) (s : RS) (acc : List Prd) (hs : s.ok) (hc : s.comes word = true) : partsF word pf s.rest.length s acc = partsF word pf (pf s.pass).1.rest.length (pf s.pass).1 (acc ++ [(pf s.pass).2]) := by
  have h1 := hs.pass (RS.more_of hw hc)
  have h2 := hn _ h1.1
  have h3 := h2.2
  have hp := hs.pos
  obtain ⟨m, hm⟩ : ∃ m, s.rest.length = m + 1 := ⟨s.rest.length - 1, by omega⟩
  rw [hm, partsF, if_pos hc]
  exact partsF_fuel word hw pf hn m _ _ h2.1 (by omega)
theorem partsF_end (word : ByteArray) (pf : RS → RS × Prd) (s : RS) (acc : List Prd) (hc : s.comes word = false) : partsF word pf s.rest.length s acc = (s, acc) := by
  cases s.rest.length with
  | zero => rfl
  | succ m => rw [partsF, if_neg (by simp [hc])]
theorem Prt.cellsS {R b deep : Nat} {w wr : World} {st : RS} {acc : List Pm} {a : Ptr} {cap : Nat} (h : Prt R b deep w wr st acc a cap) : CellsS (fun j => w.heap.size < j) wr a (acc.flatMap Pm.c) := by
  rcases h.win.mem with e | ⟨g, off, e, hc, _, _⟩
  · have := h.win.le
    have := List.length_pos_iff.2 h.ne
    omega
  · subst e
    exact .inr ⟨g, off, rfl, h.low g rfl, h.win.lt g rfl, hc⟩
end Go.Proofs.YtjaclmoobfeikaaGreatDoor
namespace Go.Proofs.YtjaclmoobfeikaaGreatDoor
open Go.RowKit

theorem pred_infoT : (Tryz.prog.info? 33).map (fun i => (i.zero, i.size, i.bytes)) = some (some (.agg z10), 10, 136) := by kernel_rfl
theorem pred_el : ElT 31 33 (.agg z10) 10 136 := ⟨Tryz.underlying31, info_partsT pred_infoT, by decide, by decide, by decide⟩
/-- append of one element to a window, as an operation that doesn't draw. -/
theorem wpList_append_win {ops : Array Oper} {rest : List Oper} {o : Oper} {act : Act} {Q : Exit → Act → World → Prop} {w : World} (hgd : o.guard = none) (s x : Operand) {sl e : TypeId} {z : Value} {sz by' : Nat} (E : ElT sl e z sz by')
    (ho : o.op = .call { callee := .builtin .append, args := #[s, x], argTypes := #[sl, sl] })
    {a : Option Addr} {cap n : Nat} {xs : List Value} (h : Win sz w a cap n xs) (hn : n ≤ 1000000)
    (hs : act.eval s = .slice a n cap) (ad : Addr) (c : Nat) (hx : act.eval x = .slice (some ad) 1 c) (news : List Value) (hnl : news.length = sz) (hnews : ∀ j u, news[j]? = some u → w.cell? (ad.add j) = some u) (h1 : ∀ u ∈ news, u.oneCell' = true)
    (hk : ∀ a' cap' w', Win sz w' a' cap' (n + 1) (xs ++ news) → Only (bk a) w w' → (∀ k, bk a' k → bk a k ∨ w.heap.size ≤ k) → wpList Tryz.prog ops Q rest (act.put o.dst (.slice a' (n + 1) cap')) w') :
    wpList Tryz.prog ops Q (o :: rest) act w := by
  obtain ⟨a', cap', w', hr, h2, h3, h4⟩ := run_append_win E h hn ad c news hnl hnews h1 o.type
  have hK := hk a' cap' w' h2 h3 h4
  refine wpList_plain hgd fun K hK' => ?_
  unfold Oper.wp
  simp only [execOp, ho, resolve, invoke, builtin, Sem.run_bind, Sem.run_pure, Result.andThen_ok, List.map_toArray, List.map_cons, List.map_nil, hs, hx, hr]
  exact hK' _ _ hK
theorem fold_ten {cs : Array Value} (h : cs.size = 10) : Array.foldl (fun (cs : Array Value) (x : Value × Nat) => cs.setIfInBounds x.snd x.fst) #[.int .i64 0, .string ⟨#[]⟩, .int .i64 0, .int .i64 0, .int .i64 0, .string ⟨#[]⟩, .string ⟨#[]⟩, .slice Option.none 0 0, .slice Option.none 0 0, .int .i64 0] cs.zipIdx 0 10 = cs := by
  obtain ⟨l⟩ := cs
  match l, h with
  | [a0, a1, a2, a3, a4, a5, a6, a7, a8, a9], _ => simp
def lenS : Value → Nat
  | .slice _ n _ => n
  | _ => 0
theorem join_more (kind pos : Nat) (l : List Prd) (h : l.length ≠ 1) : joinP kind pos l = .mk kind ⟨#[]⟩ 0 ⟨0, 0, ⟨#[]⟩⟩ ⟨#[]⟩ [] l pos := by
  unfold joinP
  split
  · exact absurd rfl h
  · rfl
def jnP (kind : Nat) (a : Ptr) (cap : Nat) (l : List Pm) (pos : Nat) : Pm := .mk kind ⟨#[]⟩ 0 ⟨0, 0, ⟨#[]⟩⟩ ⟨#[]⟩ Option.none 0 [] a cap l pos
theorem jn10 {w : World} {g kd n cap pos : Nat} {a : Ptr} {l : List Pm} {T : TypeId} (hl : l.length = n) (h : w.heap[g]? = some (.cells #[.int .i64 (kd : Int), .string ⟨#[]⟩, .int .i64 0, .int .i64 0, .int .i64 0, .string ⟨#[]⟩, .string ⟨#[]⟩, .slice Option.none 0 0, .slice a n cap, .int .i64 (pos : Int)] T (0, 0))) : w.heap[g]? = some (.cells (jnP kd a cap l pos).c.toArray T (0, 0)) := by
  subst hl
  simpa [jnP, Pm.c] using h
set_option maxRecDepth 100000 in
set_option maxHeartbeats 3200000 in
theorem pparts_any (R b deep kind N : Nat) (word : ByteArray) (hw : word ≠ ⟨#[]⟩) (p : Value) (pf : RS → RS × Prd) (hn : ∀ s : RS, s.ok → s.next (pf s).1) (s : RS) (w : World) (h : RdA R b deep s w)
    (hE : ∀ args W, Sem.run Tryz.prog (callFunc N args) W = .ok (.enter N args) W)
    (hN : ∀ W st, RdA R b deep st W → Calls Tryz.prog N #[p] W (PrGo R b deep (pf st) W)) :
    Calls Tryz.prog 94 #[.pointer (some ⟨R, 0, none⟩), .int .i64 kind, .string word, .func (.func N) #[p] #[]] w (PrGo R b deep (partsL kind word pf s) w) := by
  have HS := Lib.hid h
  have HN := Lib.hid hN
  have HC := Lib.hid (fun W (hW : w.grownBy W none) => comes_any R b deep s W (h.keep hW))
  have HY := Lib.hid (fun st (hc : st.comes word = true) W (hW : RdA R b deep st W) => took_yes R b deep st word W hW hw hc)
  have HO := Lib.hid (fun st (hc : st.comes word = false) W (hW : RdA R b deep st W) => took_no R b deep st word W hW hw hc)
  have HP := Lib.hid (fun st (hs : st.ok) (hc : st.comes word = true) => And.intro (hs.pass (RS.more_of hw hc)) (And.intro (hn _ (hs.pass (RS.more_of hw hc)).1) (fun acc => partsF_step word hw pf hn st acc hs hc)))
  have hR := h.lt'
  obtain ⟨r, hr⟩ : ∃ r, r = partsL kind word pf s := ⟨_, rfl⟩
  rw [← hr]
  have Hr := Lib.hid hr
  clear h hN hr
  go_enter Tryz.func94, Tryz.ntmps94
  have GA := Lib.hid (World.grownBy_alloc w (.cells z10 33) none)
  have GA1 := Lib.hid (heap_alloc_new w (.cells z10 33))
  go_wp2_with fail
  refine (HC.out _ GA.out).mono ?_
  rintro e w2 ⟨rfl, hg⟩
  have G2 := Lib.hid (GA.out.trans hg)
  have R2 := Lib.hid (HS.out.keep G2.out)
  have A2 := Lib.hid (blk_grown hg GA1.out)
  have t1 := field_tk2 (.int .i64 s.hd.kind) (.string s.hd.text) (.int .i64 s.hd.pos) w2
  clear hg
  go_wp2_with fail
  refine (HN.out _ s R2.out).mono ?_
  rintro e w3 ⟨x, rfl, hx, hxS, hgo⟩
  have P0 := Lib.hid (Prt.begin hR G2.out A2.out hgo hxS)
  have HX := Lib.hid hx
  clear hgo hxS hx
  have PH0 : Hid (∃ st acc, Prt R b deep w (w3.alloc (.cells x.c.toArray 33)) st acc (some ⟨w3.heap.size, 0, Option.none⟩) 1 ∧ acc.length = 1 ∧ partsF word pf st.rest.length st (Pm.es acc) = partsF word pf (pf s).1.rest.length (pf s).1 [(pf s).2]) := Lib.hid ⟨_, [x], P0.out, rfl, by rw [← HX.out]; rfl⟩
  clear P0 HX t1
  have h1 := x.c_size
  have h2 := x.c_all
  simp only [Pm.v]
  generalize x.c.toArray = cs at *
  go_wp2_with fail
  rw [fold_ten h1]
  go_loopw [10] (fun s10 wr => ∃ (n cap : Nat) (a : Ptr), s10 = .slice a n cap ∧ Hid (∃ st acc, Prt R b deep w wr st acc a cap ∧ acc.length = n ∧ partsF word pf st.rest.length st (Pm.es acc) = partsF word pf (pf s).1.rest.length (pf s).1 [(pf s).2])) (fun s10 _ => 300 - lenS s10)
  case atStart => exact ⟨1, 1, _, rfl, PH0⟩
  case round =>
    obtain ⟨n, cap, a, rfl, K⟩ := hrel
    obtain ⟨st, acc, P, hl, hrr⟩ := K.out
    have hfew : n ≤ 270 := by have := P.few; omega
    have PP := Lib.hid P
    have HL := Lib.hid hl
    clear h1 h2 PH0 K
    cases hc : st.comes word with
    | false =>
      have HT1 := Lib.hid (HO.out st hc wr P.go.1)
      rw [partsF_end word pf st _ hc] at hrr
      have hr1 : r = (st, joinP kind s.hd.pos (Pm.es acc)) := by rw [Hr.out]; unfold partsL; rw [← hrr]
      have Hr1 := Lib.hid hr1
      clear hr1 hrr hl P hc
      go_wp2_with fail
      refine HT1.out.mono ?_
      rintro e w4 ⟨rfl, hg4⟩
      have P4 := Lib.hid (PP.out.then hR hg4 (Nat.le_refl _))
      clear hg4 PP
      by_cases hn1 : n = 1
      · obtain ⟨y, hy⟩ := List.length_eq_one_iff.1 (HL.out.trans hn1)
        subst hy
        subst hn1
        obtain ⟨g, rfl, hlt, hb⟩ := P4.out.one y rfl
        have B4 := Lib.hid hb
        have A4 := Lib.hid P4.out.res
        clear hb
        go_wp2_with (first
          | (refine wpList_load_row rfl 33 (.tmp 29) rfl g rfl 33 y.c.toArray (0, 0) _ B4.out Tryz.underlying33 rfl (by rw [Pm.c_size]; exact pred_size) ?_)
          | (refine wpList_store_row rfl 33 (.tmp 8) (.tmp 30) rfl w.heap.size y.c.toArray rfl rfl 33 z10 A4.out (by rw [Pm.c_size]; exact pred_size) (by rw [Pm.c_size]; rfl) (Pm.c_all _) ?_))
        obtain ⟨hp, hb⟩ := PrGo.ret (r := r) HS.out y (by rw [Hr1.out]; rfl) (P4.out.kids.1.mono (fun j _ hj => ⟨Nat.le_of_lt hj.1, fun e => by have := hj.1; omega⟩)) (by rw [Hr1.out]; exact P4.out.go) (Nat.le_refl _) A4.out
        exact bodyPost_ret (results_pm rfl _ _ w.heap.size _ rfl hb) rfl hp
      · have n0 : ((n : Int) == 1) = false := by rw [beq_eq_false_iff_ne]; omega
        have A4 := Lib.hid P4.out.res
        obtain ⟨⟨p0, p1, p2, p3, p4⟩, p5, p6, p7, p8, p9⟩ := ten_of (show w4.heap[w.heap.size]? = some (.cells #[.int .i64 0, .string ⟨#[]⟩, .int .i64 0, .int .i64 0, .int .i64 0, .string ⟨#[]⟩, .string ⟨#[]⟩, .slice Option.none 0 0, .slice Option.none 0 0, .int .i64 0] 33 (0, 0)) from A4.out)
        obtain ⟨⟨q0, q1, q2, q3, q4⟩, q5, q6, q7, q8, q9⟩ := ten_f A4.out
        go_wp2_with fail
        have hs := jn10 (kd := kind) (pos := s.hd.pos) HL.out (set10 A4.out (v0 := .int .i64 (kind : Int)) (v1 := .string ⟨#[]⟩) (v2 := .int .i64 0) (v3 := .int .i64 0) (v4 := .int .i64 0) (v5 := .string ⟨#[]⟩) (v6 := .string ⟨#[]⟩) (v7 := .slice Option.none 0 0) (v8 := .slice a n cap) (v9 := .int .i64 (s.hd.pos : Int)))
        have hg := grown10 w4 w.heap.size (.int .i64 (kind : Int)) (.string ⟨#[]⟩) (.int .i64 0) (.int .i64 0) (.int .i64 0) (.string ⟨#[]⟩) (.string ⟨#[]⟩) (.slice Option.none 0 0) (.slice a n cap) (.int .i64 (s.hd.pos : Int))
        have hp := PrGo.retG (r := r) HS.out (jnP kind a cap acc s.hd.pos) (by rw [Hr1.out]; simp only [jnP, Pm.e]; rw [join_more]; rw [Pm.es_map, List.length_map, HL.out]; exact hn1) ?_ (by rw [Hr1.out]; exact P4.out.go) (Nat.le_refl _) hg
        · exact bodyPost_ret (results_pm rfl _ _ w.heap.size _ rfl hs) rfl hp
        · exact ⟨RwS.nil _ _ _, Nat.le_refl _, (P4.out.cellsS.keep ⟨hg.size, fun k hk hlt => hg.block k hlt (by simp; omega)⟩).mono (fun _ _ h => Nat.le_of_lt h), P4.out.win.le, (P4.out.kids.keep ⟨hg.size, fun k hk hlt => hg.block k hlt (by simp; have := hk.1; omega)⟩).mono' (fun _ _ h => Nat.le_of_lt h.1)⟩
    | true =>
      have HT1 := Lib.hid (HY.out st hc wr P.go.1)
      have hst := HP.out st P.go.1.ok hc
      have hrr2 := (hst.2.2 (Pm.es acc)).symm.trans hrr
      have Hrr := Lib.hid (And.intro hst.1.2 (And.intro hst.2.1.2 (And.intro hrr2 P.few)))
      clear hst hrr2 hrr hl P hc
      go_wp2_with fail
      refine HT1.out.mono ?_
      rintro e w4 ⟨rfl, hg4⟩
      have P4 := Lib.hid (PP.out.then hR hg4 (by have := Hrr.out.1; omega))
      clear hg4 PP
      go_wp2_with fail
      refine (HN.out w4 st.pass P4.out.go.1).mono ?_
      rintro e w5 ⟨x, rfl, hx, hxS, hg5⟩
      have G5 := Lib.hid (And.intro hg5 (And.intro hx hxS))
      have P5 := Lib.hid (P4.out.then hR hg5 Hrr.out.2.1)
      have h1 := x.c_size
      have h2 := x.c_all
      clear hg5 hx hxS
      simp only [Pm.v]
      generalize hcs : x.c.toArray = cs2 at *
      have Hcs := Lib.hid hcs
      clear hcs
      go_wp2_with (at_builtin; rw [fold_ten h1]; refine wpList_append_win (by rfl) (.tmp 20) (.tmp 23) pred_el (by rfl) (P5.out.win.keepG (World.grownBy_alloc w5 (.cells cs2 33) none)) (by rw [HL.out]; omega) (by rw [HL.out]; rfl) ⟨w5.heap.size, 0, none⟩ 1 (by rfl) x.c (Pm.c_len x) (by rw [← Hcs.out]; exact World.news_of_block (heap_alloc_new w5 _)) x.c_one ?_)
      intro a' cap' w6 hw6 ho6 hb6
      have e := Hcs.out
      subst e
      have P6 := Lib.hid (P4.out.more hR HS.out G5.out.1 G5.out.2.2 Hrr.out.2.1 (by have := Hrr.out; omega) hw6 ho6 (by simpa using hb6))
      clear hw6 ho6 hb6
      go_wp2_with fail
      go_roundw
      case rel => exact ⟨n + 1, cap', a', by rw [HL.out], Lib.hid ⟨_, acc ++ [x], P6.out, by simp [HL.out], by
        have e : Pm.es (acc ++ [x]) = Pm.es acc ++ [(pf st.pass).2] := by simp [Pm.es_map, G5.out.2.1]
        rw [e]; exact Hrr.out.2.2.1⟩⟩
      case measure => have := HL.out; simp [lenS]; omega
end Go.Proofs.YtjaclmoobfeikaaGreatDoor
