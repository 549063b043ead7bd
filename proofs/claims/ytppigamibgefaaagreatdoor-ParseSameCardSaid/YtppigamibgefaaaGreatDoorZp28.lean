/- The reader's form and one. The reader's one, so many in one another as may be. A query in memory while it is read. -/
import Derived.Test.YtppigamibgefaaaGreatDoorZp27
namespace Go.Proofs.YtppigamibgefaaaGreatDoor
open Go.RowKit

set_option maxRecDepth 100000 in
set_option maxHeartbeats 3200000 in
theorem pform_not (R b deep d : Nat) (H1 : ∀ s w, RdA R b deep s w → Calls Tryz.prog 145 #[.pointer (some ⟨R, 0, none⟩)] w (PrGo R b deep (oneF d s) w)) (s : RS) (w : World) (h : RdA R b deep s w) (hc : s.comes bNot = true) :
    Calls Tryz.prog 165 #[.pointer (some ⟨R, 0, none⟩)] w (PrGo R b deep ((oneF d s.pass).1, notP (oneF d s.pass).2 s.hd.pos) w) := by
  have HS := Lib.hid h
  have HC := Lib.hid (fun W (hW : w.grownBy W none) => comes_any R b deep s W (h.keep hW))
  have hR := h.lt'
  have HT := Lib.hid (fun W (hW : RdA R b deep s W) => took_yes R b deep s bNot W hW (by decide) hc)
  have HN := Lib.hid (fun W (hW : RdA R b deep s.pass W) => H1 s.pass W hW)
  generalize oneF d s.pass = r at *
  clear h H1 hc
  go_enter Tryz.func165, Tryz.ntmps165
  have GA := Lib.hid (World.grownBy_alloc w (.cells z10 31) none)
  have GA1 := Lib.hid (heap_alloc_new w (.cells z10 31))
  go_wp2_with fail
  refine (HC.out _ GA.out).mono ?_
  rintro e w2 ⟨rfl, hg⟩
  have A2 := Lib.hid (blk_grown hg GA1.out)
  have R2 := Lib.hid (show RdGo R b deep s w w2 from ⟨HS.out.keep (GA.out.trans hg), grown_anyR (GA.out.trans hg) _⟩)
  have t1 := field_tk2 (.int .i64 s.hd.kind) (.string s.hd.text) (.int .i64 s.hd.pos) w2
  clear hg
  go_wp2_with fail
  refine (HT.out _ R2.out.1).mono ?_
  rintro e w3 ⟨rfl, hr⟩
  have A3 := Lib.hid (hr.blk A2.out (by omega))
  have R3 := Lib.hid (R2.out.then hr)
  clear hr
  go_wp2_with fail
  refine (HN.out _ R3.out.1).mono ?_
  rintro e w4 ⟨x, rfl, hx, hxS, hr⟩
  have A4 := Lib.hid (hr.blk A3.out (by omega))
  have R4 := Lib.hid (R3.out.then hr)
  have lx : w.heap.size < w3.heap.size := (Array.getElem?_eq_some_iff.1 A3.out).1
  have HX := Lib.hid (And.intro hx hxS)
  have lz : w3.heap.size ≤ w4.heap.size := hr.2.size
  clear hr hx hxS
  have HNot := Lib.hid (pnot_any w3.heap.size x s.hd.pos w4 HX.out.2 lz)
  go_wp2_with fail
  refine HNot.out.mono ?_
  rintro e w5 ⟨⟨y, rfl, hy, hyS⟩, hg⟩
  have A5 := Lib.hid (blk_grown hg A4.out)
  have R5 := Lib.hid (R4.out.keep hg)
  have HY := Lib.hid (And.intro hy hyS)
  clear hg hy hyS
  go_wp2_with (refine wpList_store_row rfl 31 (.tmp 2) (.tmp 14) rfl w.heap.size (y).c.toArray rfl rfl 31 z10 A5.out (by rw [Pm.c_size]; exact pred_size) (by rw [Pm.c_size]; rfl) (Pm.c_all _) ?_)
  obtain ⟨hp, hb⟩ := PrGo.ret (r := (r.1, notP r.2 s.hd.pos)) HS.out (y) (by rw [HY.out.1, HX.out.1]) (HY.out.2.mono (fun j _ hj => ⟨Nat.le_of_lt (Nat.lt_of_lt_of_le lx hj), fun e => by omega⟩)) R5.out (Nat.le_refl _) A5.out
  exact bodyPost_ret (results_pm rfl _ _ w.heap.size _ rfl hb) rfl hp
set_option maxRecDepth 100000 in
set_option maxHeartbeats 3200000 in
theorem pform_name (R b deep : Nat)  (s : RS) (w : World) (h : RdA R b deep s w) (hc : s.comes bNot = false) (hc2 : s.comes bOpen = false) (hm : s.named = true) :
    Calls Tryz.prog 165 #[.pointer (some ⟨R, 0, none⟩)] w (PrGo R b deep (nameP s.hd.pos s) w) := by
  have HS := Lib.hid h
  have HC := Lib.hid (fun W (hW : w.grownBy W none) => comes_any R b deep s W (h.keep hW))
  have hR := h.lt'
  have HT := Lib.hid (fun W (hW : RdA R b deep s W) => took_no R b deep s bNot W hW (by decide) hc)
  have HO := Lib.hid (fun W (hW : RdA R b deep s W) => took_no R b deep s bOpen W hW (by decide) hc2)
  have HM := Lib.hid (fun W (hW : RdA R b deep s W) => pnamed_any R b deep s W hW)
  rw [hm] at HM
  have HN := Lib.hid (fun W (hW : RdA R b deep s W) => pofname_any R b deep s s.hd.pos W hW)
  generalize nameP s.hd.pos s = r at *
  clear h hc hc2 hm
  go_enter Tryz.func165, Tryz.ntmps165
  have GA := Lib.hid (World.grownBy_alloc w (.cells z10 31) none)
  have GA1 := Lib.hid (heap_alloc_new w (.cells z10 31))
  go_wp2_with fail
  refine (HC.out _ GA.out).mono ?_
  rintro e w2 ⟨rfl, hg⟩
  have A2 := Lib.hid (blk_grown hg GA1.out)
  have R2 := Lib.hid (show RdGo R b deep s w w2 from ⟨HS.out.keep (GA.out.trans hg), grown_anyR (GA.out.trans hg) _⟩)
  have t1 := field_tk2 (.int .i64 s.hd.kind) (.string s.hd.text) (.int .i64 s.hd.pos) w2
  clear hg
  go_wp2_with fail
  refine (HT.out _ R2.out.1).mono ?_
  rintro e w3 ⟨rfl, hr⟩
  have A3 := Lib.hid (hr.blk A2.out (by omega))
  have R3 := Lib.hid (R2.out.then hr)
  clear hr
  go_wp2_with fail
  refine (HO.out _ R3.out.1).mono ?_
  rintro e w4 ⟨rfl, hr⟩
  have A4 := Lib.hid (hr.blk A3.out (by omega))
  have R4 := Lib.hid (R3.out.then hr)
  clear hr
  go_wp2_with fail
  refine (HM.out _ R4.out.1).mono ?_
  rintro e w5 ⟨rfl, hg⟩
  have A5 := Lib.hid (blk_grown hg A4.out)
  have R5 := Lib.hid (R4.out.keep hg)
  clear hg
  go_wp2_with fail
  refine (HN.out _ R5.out.1).mono ?_
  rintro e w6 ⟨x, rfl, hx, hxS, hr⟩
  have A6 := Lib.hid (hr.blk A5.out (by omega))
  have R6 := Lib.hid (R5.out.then hr)
  have lx : w.heap.size < w5.heap.size := (Array.getElem?_eq_some_iff.1 A5.out).1
  have HX := Lib.hid (And.intro hx hxS)
  have lz : w5.heap.size ≤ w6.heap.size := hr.2.size
  clear hr hx hxS
  go_wp2_with (refine wpList_store_row rfl 31 (.tmp 2) (.tmp 28) rfl w.heap.size (x).c.toArray rfl rfl 31 z10 A6.out (by rw [Pm.c_size]; exact pred_size) (by rw [Pm.c_size]; rfl) (Pm.c_all _) ?_)
  obtain ⟨hp, hb⟩ := PrGo.ret (r := r) HS.out (x) HX.out.1 (HX.out.2.mono (fun j _ hj => ⟨Nat.le_of_lt (Nat.lt_of_lt_of_le lx hj), fun e => by omega⟩)) R6.out (Nat.le_refl _) A6.out
  exact bodyPost_ret (results_pm rfl _ _ w.heap.size _ rfl hb) rfl hp
set_option maxRecDepth 100000 in
set_option maxHeartbeats 3200000 in
theorem pform_lit (R b deep : Nat)  (s : RS) (w : World) (h : RdA R b deep s w) (hc : s.comes bNot = false) (hc2 : s.comes bOpen = false) (hm : s.named = false) :
    Calls Tryz.prog 165 #[.pointer (some ⟨R, 0, none⟩)] w (PrGo R b deep (litP s.hd.pos s) w) := by
  have HS := Lib.hid h
  have HC := Lib.hid (fun W (hW : w.grownBy W none) => comes_any R b deep s W (h.keep hW))
  have hR := h.lt'
  have HT := Lib.hid (fun W (hW : RdA R b deep s W) => took_no R b deep s bNot W hW (by decide) hc)
  have HO := Lib.hid (fun W (hW : RdA R b deep s W) => took_no R b deep s bOpen W hW (by decide) hc2)
  have HM := Lib.hid (fun W (hW : RdA R b deep s W) => pnamed_any R b deep s W hW)
  rw [hm] at HM
  have HN := Lib.hid (fun W (hW : RdA R b deep s W) => pofliteral_any R b deep s s.hd.pos W hW)
  generalize litP s.hd.pos s = r at *
  clear h hc hc2 hm
  go_enter Tryz.func165, Tryz.ntmps165
  have GA := Lib.hid (World.grownBy_alloc w (.cells z10 31) none)
  have GA1 := Lib.hid (heap_alloc_new w (.cells z10 31))
  go_wp2_with fail
  refine (HC.out _ GA.out).mono ?_
  rintro e w2 ⟨rfl, hg⟩
  have A2 := Lib.hid (blk_grown hg GA1.out)
  have R2 := Lib.hid (show RdGo R b deep s w w2 from ⟨HS.out.keep (GA.out.trans hg), grown_anyR (GA.out.trans hg) _⟩)
  have t1 := field_tk2 (.int .i64 s.hd.kind) (.string s.hd.text) (.int .i64 s.hd.pos) w2
  clear hg
  go_wp2_with fail
  refine (HT.out _ R2.out.1).mono ?_
  rintro e w3 ⟨rfl, hr⟩
  have A3 := Lib.hid (hr.blk A2.out (by omega))
  have R3 := Lib.hid (R2.out.then hr)
  clear hr
  go_wp2_with fail
  refine (HO.out _ R3.out.1).mono ?_
  rintro e w4 ⟨rfl, hr⟩
  have A4 := Lib.hid (hr.blk A3.out (by omega))
  have R4 := Lib.hid (R3.out.then hr)
  clear hr
  go_wp2_with fail
  refine (HM.out _ R4.out.1).mono ?_
  rintro e w5 ⟨rfl, hg⟩
  have A5 := Lib.hid (blk_grown hg A4.out)
  have R5 := Lib.hid (R4.out.keep hg)
  clear hg
  go_wp2_with fail
  refine (HN.out _ R5.out.1).mono ?_
  rintro e w6 ⟨x, rfl, hx, hxS, hr⟩
  have A6 := Lib.hid (hr.blk A5.out (by omega))
  have R6 := Lib.hid (R5.out.then hr)
  have lx : w.heap.size < w5.heap.size := (Array.getElem?_eq_some_iff.1 A5.out).1
  have HX := Lib.hid (And.intro hx hxS)
  have lz : w5.heap.size ≤ w6.heap.size := hr.2.size
  clear hr hx hxS
  go_wp2_with (refine wpList_store_row rfl 31 (.tmp 2) (.tmp 31) rfl w.heap.size (x).c.toArray rfl rfl 31 z10 A6.out (by rw [Pm.c_size]; exact pred_size) (by rw [Pm.c_size]; rfl) (Pm.c_all _) ?_)
  obtain ⟨hp, hb⟩ := PrGo.ret (r := r) HS.out (x) HX.out.1 (HX.out.2.mono (fun j _ hj => ⟨Nat.le_of_lt (Nat.lt_of_lt_of_le lx hj), fun e => by omega⟩)) R6.out (Nat.le_refl _) A6.out
  exact bodyPost_ret (results_pm rfl _ _ w.heap.size _ rfl hb) rfl hp
set_option maxRecDepth 100000 in
set_option maxHeartbeats 3200000 in
theorem pform_in (R b deep d : Nat) (H1 : ∀ s w, RdA R b deep s w → Calls Tryz.prog 145 #[.pointer (some ⟨R, 0, none⟩)] w (PrGo R b deep (oneF d s) w)) (s : RS) (w : World) (h : RdA R b deep s w) (hc : s.comes bNot = false) (hc2 : s.comes bOpen = true) :
    Calls Tryz.prog 165 #[.pointer (some ⟨R, 0, none⟩)] w (PrGo R b deep ((anyF d s.pass).1.need bShut, (anyF d s.pass).2) w) := by
  have HS := Lib.hid h
  have HC := Lib.hid (fun W (hW : w.grownBy W none) => comes_any R b deep s W (h.keep hW))
  have hR := h.lt'
  have HT := Lib.hid (fun W (hW : RdA R b deep s W) => took_no R b deep s bNot W hW (by decide) hc)
  have HO := Lib.hid (fun W (hW : RdA R b deep s W) => took_yes R b deep s bOpen W hW (by decide) hc2)
  have HN := Lib.hid (fun W (hW : RdA R b deep s.pass W) => pany_any R b deep d H1 s.pass W hW)
  generalize anyF d s.pass = r at *
  have HD := Lib.hid (fun W (hW : RdA R b deep r.1 W) => need_any R b deep r.1 bShut W hW (by decide))
  clear h H1 hc hc2
  go_enter Tryz.func165, Tryz.ntmps165
  have GA := Lib.hid (World.grownBy_alloc w (.cells z10 31) none)
  have GA1 := Lib.hid (heap_alloc_new w (.cells z10 31))
  go_wp2_with fail
  refine (HC.out _ GA.out).mono ?_
  rintro e w2 ⟨rfl, hg⟩
  have A2 := Lib.hid (blk_grown hg GA1.out)
  have R2 := Lib.hid (show RdGo R b deep s w w2 from ⟨HS.out.keep (GA.out.trans hg), grown_anyR (GA.out.trans hg) _⟩)
  have t1 := field_tk2 (.int .i64 s.hd.kind) (.string s.hd.text) (.int .i64 s.hd.pos) w2
  clear hg
  go_wp2_with fail
  refine (HT.out _ R2.out.1).mono ?_
  rintro e w3 ⟨rfl, hr⟩
  have A3 := Lib.hid (hr.blk A2.out (by omega))
  have R3 := Lib.hid (R2.out.then hr)
  clear hr
  go_wp2_with fail
  refine (HO.out _ R3.out.1).mono ?_
  rintro e w4 ⟨rfl, hr⟩
  have A4 := Lib.hid (hr.blk A3.out (by omega))
  have R4 := Lib.hid (R3.out.then hr)
  clear hr
  go_wp2_with fail
  refine (HN.out _ R4.out.1).mono ?_
  rintro e w5 ⟨x, rfl, hx, hxS, hr⟩
  have A5 := Lib.hid (hr.blk A4.out (by omega))
  have R5 := Lib.hid (R4.out.then hr)
  have lx : w.heap.size < w4.heap.size := (Array.getElem?_eq_some_iff.1 A4.out).1
  have HX := Lib.hid (And.intro hx hxS)
  have lz : w4.heap.size ≤ w5.heap.size := hr.2.size
  clear hr hx hxS
  have B5 := Lib.hid (heap_alloc_new w5 (.cells z10 31))
  go_wp2_with (refine wpList_store_row rfl 31 (.tmp 4) (.tmp 19) rfl w5.heap.size x.c.toArray rfl rfl 31 z10 B5.out (by rw [Pm.c_size]; exact pred_size) (by rw [Pm.c_size]; rfl) (Pm.c_all _) ?_)
  have gA := Lib.hid (World.grownBy_alloc w5 (.cells z10 31) none)
  have gS := Lib.hid (grown_setRow (w5.alloc (.cells z10 31)) w5.heap.size x.c.toArray)
  have B6 := Lib.hid (setRow_heap (w5.alloc (.cells z10 31)) w5.heap.size z10 x.c.toArray _ _ B5.out)
  have A6 := Lib.hid (blk_row gS.out (blk_grown gA.out A5.out) (by omega))
  have R6 := Lib.hid (RdGo.stored HS.out (R5.out.keep gA.out) (by omega) gS.out)
  have X6 := Lib.hid ((HX.out.2.mono (S' := fun j => w.heap.size < j ∧ j ≠ w5.heap.size) (fun j hj1 hj => by omega)).keep ⟨Nat.le_trans gA.out.size gS.out.size, fun k hk hlt => (gS.out.block k (Nat.lt_of_lt_of_le hlt gA.out.size) (by simp; exact hk.2)).trans (gA.out.block k hlt (by simp))⟩)
  have l6 : w5.heap.size < ((w5.alloc (.cells z10 31)).setRow w5.heap.size x.c.toArray).heap.size := (Array.getElem?_eq_some_iff.1 B6.out).1
  clear gS gA B5
  refine (HD.out _ R6.out.1).mono ?_
  rintro e w7 ⟨rfl, hr⟩
  have A7 := Lib.hid (hr.blk A6.out (by omega))
  have B7 := Lib.hid (hr.blk B6.out (by omega))
  have R7 := Lib.hid (R6.out.then hr)
  have X7 := Lib.hid (X6.out.keep ⟨hr.2.size, fun k hk hlt => hr.2.block k hlt (by simp; omega)⟩)
  clear hr
  go_wp2_with (first
    | (refine wpList_load_row rfl 31 (.tmp 4) rfl w5.heap.size rfl 31 x.c.toArray (0, 0) _ B7.out Tryz.underlying31 rfl (by rw [Pm.c_size]; exact pred_size) ?_)
    | (refine wpList_store_row rfl 31 (.tmp 2) (.tmp 22) rfl w.heap.size x.c.toArray rfl rfl 31 z10 A7.out (by rw [Pm.c_size]; exact pred_size) (by rw [Pm.c_size]; rfl) (Pm.c_all _) ?_))
  obtain ⟨hp, hb⟩ := PrGo.ret (r := (r.1.need bShut, r.2)) HS.out x HX.out.1 (X7.out.mono (fun j _ hj => ⟨Nat.le_of_lt hj.1, fun e => by have := hj.1; omega⟩)) R7.out (Nat.le_refl _) A7.out
  exact bodyPost_ret (results_pm rfl _ _ w.heap.size _ rfl hb) rfl hp
theorem pform_any (R b deep d : Nat) (H1 : ∀ s w, RdA R b deep s w → Calls Tryz.prog 145 #[.pointer (some ⟨R, 0, none⟩)] w (PrGo R b deep (oneF d s) w)) (s : RS) (w : World) (h : RdA R b deep s w) :
    Calls Tryz.prog 165 #[.pointer (some ⟨R, 0, none⟩)] w (PrGo R b deep (oneF (d + 1) s) w) := by
  unfold oneF
  cases hc : s.comes bNot with
  | true => rw [if_pos rfl]; exact pform_not R b deep d H1 s w h hc
  | false =>
    rw [if_neg (by simp)]
    cases hc2 : s.comes bOpen with
    | true => rw [if_pos rfl]; exact pform_in R b deep d H1 s w h hc hc2
    | false =>
      rw [if_neg (by simp)]
      cases hm : s.named with
      | true => rw [if_pos rfl]; exact pform_name R b deep s w h hc hc2 hm
      | false => rw [if_neg (by simp)]; exact pform_lit R b deep s w h hc hc2 hm
end Go.Proofs.YtppigamibgefaaaGreatDoor
namespace Go.Proofs.YtppigamibgefaaaGreatDoor
open Go.RowKit

set_option maxRecDepth 100000 in
set_option maxHeartbeats 3200000 in
theorem pone_deep (R b : Nat) (s : RS) (w : World) (h : RdA R b 20 s w) :
    Calls Tryz.prog 145 #[.pointer (some ⟨R, 0, none⟩)] w (PrGo R b 20 (oneF 0 s) w) := by
  have HS := Lib.hid h
  have HW := Lib.hid (fun W (hW : w.grownBy W none) => wrong_any R b 20 s 12 W (h.keep hW))
  simp only [show ((12 : Nat) : Int) = 12 from rfl] at HW
  have hR := h.lt'
  unfold oneF
  clear h
  go_enter Tryz.func145, Tryz.ntmps145
  have GA := Lib.hid (World.grownBy_alloc w (.cells z10 31) none)
  have GA1 := Lib.hid (heap_alloc_new w (.cells z10 31))
  obtain ⟨c1, _⟩ := (HS.out.keep GA.out).deepc
  rw [show ((20 : Nat) : Int) = 20 from rfl] at c1
  have c1' : (w.alloc (.cells #[.int .i64 0, .string ⟨#[]⟩, .int .i64 0, .int .i64 0, .int .i64 0, .string ⟨#[]⟩, .string ⟨#[]⟩, .slice Option.none 0 0, .slice Option.none 0 0, .int .i64 0] 31)).cell? ⟨R, 1, none⟩ = some (.int .i64 20) := c1
  clear c1
  go_wp2_with fail
  refine (HW.out _ GA.out).mono ?_
  rintro e w2 ⟨rfl, hr⟩
  have A2 := Lib.hid (hr.blk GA1.out (by omega))
  have R2 := Lib.hid (show RdGo R b 20 (s.wrong 12) w w2 from ⟨hr.1, GA.out.trans' hr.2⟩)
  clear hr c1'
  obtain ⟨⟨p0, p1, p2, p3, p4⟩, p5, p6, p7, p8, p9⟩ := ten_of (show w2.heap[w.heap.size]? = some (.cells #[.int .i64 0, .string ⟨#[]⟩, .int .i64 0, .int .i64 0, .int .i64 0, .string ⟨#[]⟩, .string ⟨#[]⟩, .slice Option.none 0 0, .slice Option.none 0 0, .int .i64 0] 31 (0, 0)) from A2.out)
  obtain ⟨⟨q0, q1, q2, q3, q4⟩, q5, q6, q7, q8, q9⟩ := ten_f A2.out
  go_wp2_with fail
  have hs := lf10 (kd := 0) (r := 0) (pos := 0) (set10 A2.out (v0 := .int .i64 0) (v1 := .string ⟨#[]⟩) (v2 := .int .i64 0) (v3 := .int .i64 0) (v4 := .int .i64 0) (v5 := .string ⟨#[]⟩) (v6 := .string ⟨#[]⟩) (v7 := .slice Option.none 0 0) (v8 := .slice Option.none 0 0) (v9 := .int .i64 0))
  have hg := grown10 w2 w.heap.size (.int .i64 0) (.string ⟨#[]⟩) (.int .i64 0) (.int .i64 0) (.int .i64 0) (.string ⟨#[]⟩) (.string ⟨#[]⟩) (.slice Option.none 0 0) (.slice Option.none 0 0) (.int .i64 0)
  have hp := PrGo.retG (r := (s.wrong 12, Prd.none)) HS.out (lfP 0 ⟨#[]⟩ 0 ⟨0, 0, ⟨#[]⟩⟩ ⟨#[]⟩ 0) rfl (lf_leaf _ _ _ _ _ _) R2.out (Nat.le_refl _) hg
  exact bodyPost_ret (results_pm rfl _ _ w.heap.size _ rfl hs) rfl hp
set_option maxRecDepth 100000 in
set_option maxHeartbeats 3200000 in
theorem pone_step (R b deep d : Nat) (hd : deep ≤ 19) (HF : ∀ s w, RdA R b (deep + 1) s w → Calls Tryz.prog 165 #[.pointer (some ⟨R, 0, none⟩)] w (PrGo R b (deep + 1) (oneF (d + 1) s) w)) (s : RS) (w : World) (h : RdA R b deep s w) :
    Calls Tryz.prog 145 #[.pointer (some ⟨R, 0, none⟩)] w (PrGo R b deep (oneF (d + 1) s) w) := by
  have HS := Lib.hid h
  have HF1 := Lib.hid (fun W (hW : RdA R b (deep + 1) s W) => HF s W hW)
  generalize oneF (d + 1) s = r at *
  have hR := h.lt'
  clear h HF
  go_enter Tryz.func145, Tryz.ntmps145
  have GA := Lib.hid (World.grownBy_alloc w (.cells z10 31) none)
  have GA1 := Lib.hid (heap_alloc_new w (.cells z10 31))
  obtain ⟨c1, f1⟩ := (HS.out.keep GA.out).deepc
  have c1' : (w.alloc (.cells #[.int .i64 0, .string ⟨#[]⟩, .int .i64 0, .int .i64 0, .int .i64 0, .string ⟨#[]⟩, .string ⟨#[]⟩, .slice Option.none 0 0, .slice Option.none 0 0, .int .i64 0] 31)).cell? ⟨R, 1, none⟩ = some (.int .i64 deep) := c1
  have f1' : (w.alloc (.cells #[.int .i64 0, .string ⟨#[]⟩, .int .i64 0, .int .i64 0, .int .i64 0, .string ⟨#[]⟩, .string ⟨#[]⟩, .slice Option.none 0 0, .slice Option.none 0 0, .int .i64 0] 31)).frozen? ⟨R, 1, none⟩ = false := f1
  clear c1 f1
  have d0 : ((deep : Int) == 20) = false := by rw [beq_eq_false_iff_ne]; omega
  have d1 : (0 : Int) ≤ deep := by omega
  have d2 : (deep : Int) ≤ 19 := by omega
  go_wp2_with fail
  have e1 : ((deep + 1 : Nat) : Int) = (deep : Int) + 1 := by omega
  have gC := Lib.hid (grown_cellR w R 1 (.int .i64 ((deep : Int) + 1)))
  have z2 : (w.setCell ⟨R, 1, none⟩ (.int .i64 ((deep : Int) + 1))).heap.size = w.heap.size := by simp [World.setCell]
  have gB := Lib.hid (World.grownBy_alloc (w.setCell ⟨R, 1, none⟩ (.int .i64 ((deep : Int) + 1))) (.cells z10 31) none)
  have A2 := Lib.hid (heap_alloc_new (w.setCell ⟨R, 1, none⟩ (.int .i64 ((deep : Int) + 1))) (.cells z10 31))
  have R2 := Lib.hid (show RdA R b (deep + 1) s (w.setCell ⟨R, 1, none⟩ (.int .i64 ((deep : Int) + 1))) by have := HS.out.deepen (deep + 1); rw [e1] at this; exact this)
  have R2' := Lib.hid (R2.out.keep gB.out)
  have g2 := Lib.hid (gC.out.trans (grown_anyR gB.out (some R)))
  rw [z2] at A2
  have z3 : ((w.setCell ⟨R, 1, none⟩ (.int .i64 ((deep : Int) + 1))).alloc (.cells z10 31)).heap.size = w.heap.size + 1 := by simp [z2]
  clear c1' f1' R2 gB gC GA GA1
  refine (HF1.out _ R2'.out).mono ?_
  generalize (w.setCell ⟨R, 1, none⟩ (.int .i64 ((deep : Int) + 1))).alloc (.cells z10 31) = w2 at *
  rintro e w3 ⟨x, rfl, hx, hxS, hgo⟩
  have A3 := Lib.hid (hgo.blk A2.out (by omega))
  have R3 := Lib.hid hgo
  have l3 := hgo.2.size
  have B3 := Lib.hid (heap_alloc_new w3 (.cells z10 31))
  have HX := Lib.hid (And.intro hx hxS)
  clear hgo hx hxS
  go_upto_region 6 with (refine wpList_store_row rfl 31 (.tmp 3) (.tmp 20) rfl w3.heap.size x.c.toArray rfl rfl 31 z10 B3.out (by rw [Pm.c_size]; exact pred_size) (by rw [Pm.c_size]; rfl) (Pm.c_all _) ?_)
  have gA := Lib.hid (World.grownBy_alloc w3 (.cells z10 31) none)
  have gS := Lib.hid (grown_setRow (w3.alloc (.cells z10 31)) w3.heap.size x.c.toArray)
  have B4 := Lib.hid (setRow_heap (w3.alloc (.cells z10 31)) w3.heap.size z10 x.c.toArray _ _ B3.out)
  have A4 := Lib.hid (blk_row gS.out (blk_grown gA.out A3.out) (by omega))
  have R4 := Lib.hid (RdGo.stored R2'.out (R3.out.keep gA.out) (by omega) gS.out)
  have X4 := Lib.hid ((HX.out.2.mono (S' := fun j => w.heap.size < j ∧ j ≠ w3.heap.size) (fun j hj1 hj => by omega)).keep ⟨Nat.le_trans gA.out.size gS.out.size, fun k hk hlt => (gS.out.block k (Nat.lt_of_lt_of_le hlt gA.out.size) (by simp; exact hk.2)).trans (gA.out.block k hlt (by simp))⟩)
  clear gA gS B3 R3
  simp only [z10] at B4 A4 R4 X4
  generalize (w3.alloc (.cells #[.int .i64 0, .string ⟨#[]⟩, .int .i64 0, .int .i64 0, .int .i64 0, .string ⟨#[]⟩, .string ⟨#[]⟩, .slice Option.none 0 0, .slice Option.none 0 0, .int .i64 0] 31)).setRow w3.heap.size x.c.toArray = w4 at *
  obtain ⟨c4, f4⟩ := R4.out.1.deepc
  rw [e1] at c4
  have gC := Lib.hid (grown_cellR w4 R 1 (.int .i64 (deep : Int)))
  have A5 := Lib.hid (blk_row gC.out A4.out (by omega))
  have B5 := Lib.hid (blk_row gC.out B4.out (by omega))
  have R5 := Lib.hid (show RdGo R b deep r.1 w (w4.setCell ⟨R, 1, none⟩ (.int .i64 (deep : Int))) from ⟨R4.out.1.deepen deep, g2.out.trans (R4.out.2.trans gC.out)⟩)
  have X5 := Lib.hid (X4.out.keep ⟨gC.out.size, fun k hk hlt => gC.out.block k hlt (by simp; omega)⟩)
  clear gC A4 B4 X4
  go_wp2_with (first
    | (refine wpList_load_row rfl 31 (.tmp 3) rfl w3.heap.size rfl 31 x.c.toArray (0, 0) _ B5.out Tryz.underlying31 rfl (by rw [Pm.c_size]; exact pred_size) ?_)
    | (refine wpList_store_row rfl 31 (.tmp 2) (.tmp 28) rfl w.heap.size x.c.toArray rfl rfl 31 z10 A5.out (by rw [Pm.c_size]; exact pred_size) (by rw [Pm.c_size]; rfl) (Pm.c_all _) ?_))
  obtain ⟨hp, hb⟩ := PrGo.ret (r := r) HS.out x HX.out.1 (X5.out.mono (fun j _ hj => ⟨Nat.le_of_lt hj.1, fun e => by have := hj.1; omega⟩)) R5.out (Nat.le_refl _) A5.out
  exact bodyPost_ret (results_pm rfl _ _ w.heap.size _ rfl hb) rfl hp
theorem pone_any (R b : Nat) : ∀ (d deep : Nat), deep + d = 20 → ∀ (s : RS) (w : World), RdA R b deep s w →
    Calls Tryz.prog 145 #[.pointer (some ⟨R, 0, none⟩)] w (PrGo R b deep (oneF d s) w)
  | 0, deep, hd, s, w, h => by
    obtain rfl : deep = 20 := by omega
    exact pone_deep R b s w h
  | d + 1, deep, hd, s, w, h =>
    pone_step R b deep d (by omega) (fun s w h => pform_any R b (deep + 1) d (fun s w h => pone_any R b d (deep + 1) (by omega) s w h) s w h) s w h
/-- What WHERE reads. -/
theorem pwhere_any (R b : Nat) (s : RS) (w : World) (h : RdA R b 0 s w) :
    Calls Tryz.prog 88 #[.pointer (some ⟨R, 0, none⟩)] w (PrGo R b 0 (anyF 20 s) w) :=
  pany_any R b 0 20 (fun s w h => pone_any R b 20 0 rfl s w h) s w h
end Go.Proofs.YtppigamibgefaaaGreatDoor
namespace Go.Proofs.YtppigamibgefaaaGreatDoor
open Go.RowKit

/-- A query with the places of its lists. -/
structure Qm where
  ia : Ptr
  ic : Nat
  items : List Itm
  all : Bool
  table : ByteArray
  cond : Pm
  ga : Ptr
  gc : Nat
  group : List Itm
  oa : Ptr
  oc : Nat
  order : List Kyo
  limit : Int
def Qm.l (y : Qm) : List Value := .slice y.ia y.items.length y.ic :: .bool y.all :: .string y.table :: (y.cond.c ++ [.slice y.ga y.group.length y.gc, .slice y.oa y.order.length y.oc, .int .i64 y.limit, .int .i64 0])
def Qm.c (y : Qm) : Array Value := y.l.toArray
def Qm.e (y : Qm) : Qry := ⟨y.items, y.all, y.table, y.cond.e, y.group, y.order, y.limit⟩
theorem Qm.c_size (y : Qm) : y.c.size = 17 := by simp [Qm.c, Qm.l, Pm.c_len]
theorem Qm.c_all (y : Qm) : y.c.all (·.oneCell') = true := all_oneCell_toArray (by
  intro u hu
  simp only [Qm.l, List.mem_cons, List.mem_append, List.not_mem_nil, or_false] at hu
  rcases hu with rfl | rfl | rfl | hu | rfl | rfl | rfl | rfl
  · rfl
  · rfl
  · rfl
  · exact Pm.c_one _ u hu
  · rfl
  · rfl
  · rfl
  · rfl)
def QmS (S : Nat → Prop) (w : World) (y : Qm) : Prop := (CellsS S w y.ia (y.items.flatMap Itm.c) ∧ y.items.length ≤ y.ic) ∧ PmS S w y.cond ∧ (CellsS S w y.ga (y.group.flatMap Itm.c) ∧ y.group.length ≤ y.gc) ∧ CellsS S w y.oa (y.order.flatMap Kyo.c) ∧ y.order.length ≤ y.oc
theorem QmS.keep {S : Nat → Prop} {w w' : World} {y : Qm} (h : QmS S w y) (hk : Stays S w w') : QmS S w' y :=
  ⟨⟨h.1.1.keep hk, h.1.2⟩, h.2.1.keep hk, ⟨h.2.2.1.1.keep hk, h.2.2.1.2⟩, h.2.2.2.1.keep hk, h.2.2.2.2⟩
theorem QmS.mono {S S' : Nat → Prop} {w : World} {y : Qm} (h : QmS S w y) (hs : ∀ b, b < w.heap.size → S b → S' b) : QmS S' w y :=
  ⟨⟨h.1.1.mono hs, h.1.2⟩, h.2.1.mono hs, ⟨h.2.2.1.1.mono hs, h.2.2.1.2⟩, h.2.2.2.1.mono hs, h.2.2.2.2⟩
theorem qm_items (y : Qm) (a : Ptr) (c : Nat) (l : List Itm) : y.c.setIfInBounds 0 (.slice a l.length c) = { y with ia := a, ic := c, items := l : Qm }.c := by
  obtain ⟨_, _, _, _, _, ⟨_, _, _, _, _, _, _, _, _, _, _, _⟩, _, _, _, _, _, _, _⟩ := y; rfl
theorem qm_all (y : Qm) (v : Bool) : y.c.setIfInBounds 1 (.bool v) = { y with all := v : Qm }.c := by
  obtain ⟨_, _, _, _, _, ⟨_, _, _, _, _, _, _, _, _, _, _, _⟩, _, _, _, _, _, _, _⟩ := y; rfl
theorem qm_table (y : Qm) (v : ByteArray) : y.c.setIfInBounds 2 (.string v) = { y with table := v : Qm }.c := by
  obtain ⟨_, _, _, _, _, ⟨_, _, _, _, _, _, _, _, _, _, _, _⟩, _, _, _, _, _, _, _⟩ := y; rfl
theorem qm_group (y : Qm) (a : Ptr) (c : Nat) (l : List Itm) : y.c.setIfInBounds 13 (.slice a l.length c) = { y with ga := a, gc := c, group := l : Qm }.c := by
  obtain ⟨_, _, _, _, _, ⟨_, _, _, _, _, _, _, _, _, _, _, _⟩, _, _, _, _, _, _, _⟩ := y; rfl
theorem qm_order (y : Qm) (a : Ptr) (c : Nat) (l : List Kyo) : y.c.setIfInBounds 14 (.slice a l.length c) = { y with oa := a, oc := c, order := l : Qm }.c := by
  obtain ⟨_, _, _, _, _, ⟨_, _, _, _, _, _, _, _, _, _, _, _⟩, _, _, _, _, _, _, _⟩ := y; rfl
theorem qm_limit (y : Qm) (v : Int) : y.c.setIfInBounds 15 (.int .i64 v) = { y with limit := v : Qm }.c := by
  obtain ⟨_, _, _, _, _, ⟨_, _, _, _, _, _, _, _, _, _, _, _⟩, _, _, _, _, _, _, _⟩ := y; rfl
def Qm.z (n : Int) : Qm := ⟨Option.none, 0, [], false, ⟨#[]⟩, Pm.none, Option.none, 0, [], Option.none, 0, [], n⟩
/-- The query's block, r's box, the result's block; the reader at st. -/
structure QJ (R b : Nat) (w W : World) (st : RS) (y : Qm) : Prop where
  go : RdGo R b 0 st w W
  q : W.heap[w.heap.size + 1 + 1]? = some (.cells y.c 34 (0, 0))
  rb : W.heap[w.heap.size]? = some (.cells #[.pointer (some ⟨R, 0, none⟩)] 167 (0, 0))
  res : W.heap[w.heap.size + 1]? = some (.cells (Qm.z 0).c 34 (0, 0))
  mem : QmS (fun j => w.heap.size + 1 + 1 < j) W y
  lR : R < w.heap.size
  lb : b < w.heap.size
  lE : 12 < w.heap.size
theorem QJ.then {R b : Nat} {w W W' : World} {st st' : RS} {y : Qm} (h : QJ R b w W st y) (hg : RdGo R b 0 st' W W') : QJ R b w W' st' y where
  go := h.go.then hg
  q := (hg.2.block _ (Array.getElem?_eq_some_iff.1 h.q).1 (by have := h.lR; simp; omega)).trans h.q
  rb := (hg.2.block _ (Array.getElem?_eq_some_iff.1 h.rb).1 (by have := h.lR; simp; omega)).trans h.rb
  res := (hg.2.block _ (Array.getElem?_eq_some_iff.1 h.res).1 (by have := h.lR; simp; omega)).trans h.res
  mem := h.mem.keep ⟨hg.2.size, fun k hk hlt => hg.2.block k hlt (by have := h.lR; simp; omega)⟩
  lR := h.lR
  lb := h.lb
  lE := h.lE
/-- The query's block is overwritten. -/
theorem QJ.put {R b : Nat} {w W W' : World} {st : RS} {y y' : Qm} (h : QJ R b w W st y) (hg : W.grownBy W' (some (w.heap.size + 1 + 1))) (hq : W'.heap[w.heap.size + 1 + 1]? = some (.cells y'.c 34 (0, 0))) (hm : QmS (fun j => w.heap.size + 1 + 1 < j) W' y') : QJ R b w W' st y' := by
  have lR := h.lR
  have lb := h.lb
  have lE := h.lE
  have ho : Only (fun k => k = w.heap.size + 1 + 1) W W' := (Only.of_grown hg).mono (fun k _ e => by cases e; rfl)
  exact ⟨⟨h.go.1.only ho (by omega) (by omega) (by omega), only_grownR h.go.2 ho (fun j e => .inr (by omega))⟩, hq, (hg.block _ (Array.getElem?_eq_some_iff.1 h.rb).1 (by simp; omega)).trans h.rb, (hg.block _ (Array.getElem?_eq_some_iff.1 h.res).1 (by simp)).trans h.res, hm, lR, lb, lE⟩
theorem QJ.keepM {R b : Nat} {w W W' : World} {st : RS} {y : Qm} (h : QJ R b w W st y) (hg : W.grownBy W' (some (w.heap.size + 1 + 1))) : QmS (fun j => w.heap.size + 1 + 1 < j) W' y :=
  h.mem.keep ⟨hg.size, fun k hk hlt => hg.block k hlt (by simp; omega)⟩
theorem win_cells {sz : Nat} {S : Nat → Prop} {w : World} {a : Ptr} {cap n : Nat} {xs : List Value} (h : Win sz w a cap n xs) (hS : ∀ k, bk a k → S k) : CellsS S w a xs := by
  rcases h.mem with e | ⟨g, off, e, hc, _, _⟩
  · have h1 := h.le
    have h2 := h.len
    obtain rfl : n = 0 := by omega
    exact .inl (List.eq_nil_of_length_eq_zero (by omega))
  · subst e
    exact .inr ⟨g, off, rfl, hS g rfl, h.lt g rfl, hc⟩
/-- Behind a list that a closure has read into the query. -/
theorem QJ.ls {R b ix sz : Nat} {w W W' : World} {st st' : RS} {y : Qm} {n : Nat} {xs : List Value} (h : QJ R b w W st y) (hj : LsJ sz W (w.heap.size + 1 + 1) ix w.heap.size R y.c 34 W' n xs) (hR : RdA R b 0 st' W') :
    ∃ a cap, CellsS (fun j => w.heap.size + 1 + 1 < j) W' a xs ∧ n ≤ cap ∧ ∀ y' : Qm, y.c.setIfInBounds ix (.slice a n cap) = y'.c → (QmS (fun j => w.heap.size + 1 + 1 < j) W' y → QmS (fun j => w.heap.size + 1 + 1 < j) W' y') → QJ R b w W' st' y' := by
  obtain ⟨a, cap, hb, hw, hk⟩ := hj.blk
  have lq := (Array.getElem?_eq_some_iff.1 h.q).1
  have lR := h.lR
  refine ⟨a, cap, win_cells hw (fun k e => by have := hk k e; omega), hw.le, fun y' hy hm => ⟨⟨hR, only_grownR h.go.2 hj.only (fun j hj => hj.imp id (fun e => by omega))⟩, by rw [hb, hy], hj.rblk, (hj.only.block _ (Array.getElem?_eq_some_iff.1 h.res).1 (by omega)).trans h.res, hm (h.mem.keep ⟨hj.only.size, fun k hk hlt => hj.only.block k hlt (by omega)⟩), h.lR, h.lb, h.lE⟩⟩
theorem QJ.begin {R b ix sz : Nat} {w W : World} {st : RS} {y : Qm} (h : QJ R b w W st y) (h0 : y.c.setIfInBounds ix (.slice Option.none 0 0) = y.c) : LsJ sz W (w.heap.size + 1 + 1) ix w.heap.size R y.c 34 W 0 [] :=
  ⟨⟨Option.none, 0, by rw [h0]; exact h.q, Win.nil _ _, fun k hk => by simp [bk] at hk⟩, h.rb, Only.refl _ _⟩
theorem qitems_any (R b : Nat) (w W : World) (st : RS) (y : Qm) (h : QJ R b w W st y) (hy : y.items = [] ∧ y.ia = Option.none ∧ y.ic = 0) :
    Calls Tryz.prog 84 #[.pointer (some ⟨R, 0, none⟩), .int .i64 8, .func (.func 85) #[] #[.pointer (some ⟨w.heap.size + 1 + 1, 0, none⟩), .pointer (some ⟨w.heap.size, 0, none⟩)]] W fun e w' => e = .returned (.tuple #[]) ∧
      ∃ a cap, QJ R b w w' (listF 8 itemL 9 st []).1 { y with ia := a, ic := cap, items := (listF 8 itemL 9 st []).2 } := by
  have h0 : y.c.setIfInBounds 0 (.slice Option.none 0 0) = y.c := by
    have := qm_items y Option.none 0 []
    rw [show ([] : List Itm).length = 0 from rfl] at this
    rw [this, ← hy.1, ← hy.2.1]
    obtain ⟨_, h3⟩ := hy.2
    cases y
    simp only at h3
    subst h3
    rfl
  have lR := h.lR
  have lb := h.lb
  have lE := h.lE
  have lq := (Array.getElem?_eq_some_iff.1 h.q).1
  have hc := y.c_size
  refine (plist_any R b 0 8 85 _ _ itemL (fun W' acc => LsJ 3 W (w.heap.size + 1 + 1) 0 w.heap.size R y.c 34 W' acc.length (acc.flatMap Itm.c)) st W h.go.1 (h.begin h0) (by decide) (by decide)
    (fun W1 W2 acc hj hg => hj.row hg (by omega) (by omega) (by omega)) (fun args W => Tryz.call85 args W)
    (fun W1 st1 acc hR hj hl => pitem1_any R b 0 _ _ st1 y.c 34 W W1 acc hR hj (by omega) (by omega) (by omega) (by omega) (by omega) (by omega) (by omega) (by omega) (by omega) (by omega))).mono ?_
  rintro e w' ⟨rfl, hR, hj⟩
  obtain ⟨a, cap, hcs, hle, hq⟩ := h.ls hj hR
  exact ⟨rfl, a, cap, hq _ (qm_items y a cap _) (fun hm => ⟨⟨hcs, hle⟩, hm.2⟩)⟩
theorem qgroup_any (R b : Nat) (w W : World) (st : RS) (y : Qm) (h : QJ R b w W st y) (hy : y.group = [] ∧ y.ga = Option.none ∧ y.gc = 0) :
    Calls Tryz.prog 84 #[.pointer (some ⟨R, 0, none⟩), .int .i64 8, .func (.func 89) #[] #[.pointer (some ⟨w.heap.size + 1 + 1, 0, none⟩), .pointer (some ⟨w.heap.size, 0, none⟩)]] W fun e w' => e = .returned (.tuple #[]) ∧
      ∃ a cap, QJ R b w w' (listF 8 columnL 9 st []).1 { y with ga := a, gc := cap, group := (listF 8 columnL 9 st []).2 } := by
  have h0 : y.c.setIfInBounds 13 (.slice Option.none 0 0) = y.c := by
    have := qm_group y Option.none 0 []
    rw [show ([] : List Itm).length = 0 from rfl] at this
    rw [this, ← hy.1, ← hy.2.1]
    obtain ⟨_, h3⟩ := hy.2
    cases y
    simp only at h3
    subst h3
    rfl
  have lR := h.lR
  have lb := h.lb
  have lE := h.lE
  have lq := (Array.getElem?_eq_some_iff.1 h.q).1
  have hc := y.c_size
  refine (plist_any R b 0 8 89 _ _ columnL (fun W' acc => LsJ 3 W (w.heap.size + 1 + 1) 13 w.heap.size R y.c 34 W' acc.length (acc.flatMap Itm.c)) st W h.go.1 (h.begin h0) (by decide) (by decide)
    (fun W1 W2 acc hj hg => hj.row hg (by omega) (by omega) (by omega)) (fun args W => Tryz.call89 args W)
    (fun W1 st1 acc hR hj hl => pname1_any R b 0 _ _ st1 y.c 34 W W1 acc hR hj (by omega) (by omega) (by omega) (by omega) (by omega) (by omega) (by omega) (by omega) (by omega) (by omega))).mono ?_
  rintro e w' ⟨rfl, hR, hj⟩
  obtain ⟨a, cap, hcs, hle, hq⟩ := h.ls hj hR
  exact ⟨rfl, a, cap, hq _ (qm_group y a cap _) (fun hm => ⟨hm.1, hm.2.1, ⟨hcs, hle⟩, hm.2.2.2⟩)⟩
theorem qorder_any (R b : Nat) (w W : World) (st : RS) (y : Qm) (h : QJ R b w W st y) (hy : y.order = [] ∧ y.oa = Option.none ∧ y.oc = 0) :
    Calls Tryz.prog 84 #[.pointer (some ⟨R, 0, none⟩), .int .i64 8, .func (.func 91) #[] #[.pointer (some ⟨w.heap.size + 1 + 1, 0, none⟩), .pointer (some ⟨w.heap.size, 0, none⟩)]] W fun e w' => e = .returned (.tuple #[]) ∧
      ∃ a cap, QJ R b w w' (listF 8 keyL 9 st []).1 { y with oa := a, oc := cap, order := (listF 8 keyL 9 st []).2 } := by
  have h0 : y.c.setIfInBounds 14 (.slice Option.none 0 0) = y.c := by
    have := qm_order y Option.none 0 []
    rw [show ([] : List Kyo).length = 0 from rfl] at this
    rw [this, ← hy.1, ← hy.2.1]
    obtain ⟨_, h3⟩ := hy.2
    cases y
    simp only at h3
    subst h3
    rfl
  have lR := h.lR
  have lb := h.lb
  have lE := h.lE
  have lq := (Array.getElem?_eq_some_iff.1 h.q).1
  have hc := y.c_size
  refine (plist_any R b 0 8 91 _ _ keyL (fun W' acc => LsJ 4 W (w.heap.size + 1 + 1) 14 w.heap.size R y.c 34 W' acc.length (acc.flatMap Kyo.c)) st W h.go.1 (h.begin h0) (by decide) (by decide)
    (fun W1 W2 acc hj hg => hj.row hg (by omega) (by omega) (by omega)) (fun args W => Tryz.call91 args W)
    (fun W1 st1 acc hR hj hl => pkey1_any R b 0 _ _ st1 y.c 34 W W1 acc hR hj (by omega) (by omega) (by omega) (by omega) (by omega) (by omega) (by omega) (by omega) (by omega) (by omega))).mono ?_
  rintro e w' ⟨rfl, hR, hj⟩
  obtain ⟨a, cap, hcs, hle, hq⟩ := h.ls hj hR
  exact ⟨rfl, a, cap, hq _ (qm_order y a cap _) (fun hm => ⟨hm.1, hm.2.1, hm.2.2.1, hcs, hle⟩)⟩
end Go.Proofs.YtppigamibgefaaaGreatDoor
