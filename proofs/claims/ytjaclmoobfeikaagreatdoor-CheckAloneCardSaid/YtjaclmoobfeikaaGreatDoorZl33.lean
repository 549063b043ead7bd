/- The reader's read: a text's query, or the first thing that is wrong with it. Same: are two queries the same, but for places? The reader's read where no token is wrong. -/
import Derived.Test.YtjaclmoobfeikaaGreatDoorZl32
import Derived.Test.YtjaclmoobfeikaaGreatDoorZl23
import Derived.Test.YtjaclmoobfeikaaGreatDoorZl31
namespace Go.Proofs.YtjaclmoobfeikaaGreatDoor
open Go.RowKit

/-- What read answers. -/
def ReadIs (s : ByteArray) (w : World) (e : Ending) (w' : World) : Prop :=
  w.grownBy w' none ∧ ((∃ p c, ∃ y : Qm, parseL s = .error (p, c) ∧ e = .returned (.tuple #[.agg y.c, errI (some (p, c))]))
  ∨ ∃ y : Qm, parseL s = .ok y.e ∧ e = .returned (.tuple #[.agg y.c, .nilIface]) ∧ QmS (fun j => w.heap.size ≤ j) w' y)
theorem ne_nat {c : Nat} (h : c ≠ 0) : ((c : Int) != 0) = true := by
  rw [bne_iff_ne]; omega
theorem qm_over (y : Qm) : setL (Qm.z 0).c 0 y.l = y.c := by
  obtain ⟨_, _, _, _, _, ⟨_, _, _, _, _, _, _, _, _, _, _, _⟩, _, _, _, _, _, _, _⟩ := y
  simp [setL, Qm.c, Qm.l, Pm.c, Qm.z, Pm.none]
theorem cells17 {w : World} {g : Nat} {v0 v1 v2 v3 v4 v5 v6 v7 v8 v9 v10 v11 v12 v13 v14 v15 v16 : Value} {T : TypeId} (h : w.heap[g]? = some (.cells #[v0, v1, v2, v3, v4, v5, v6, v7, v8, v9, v10, v11, v12, v13, v14, v15, v16] T (0, 0))) : w.cell? ⟨g, 0, none⟩ = some v0 ∧ w.cell? ⟨g, 1, none⟩ = some v1 ∧ w.cell? ⟨g, 2, none⟩ = some v2 ∧ w.cell? ⟨g, 3, none⟩ = some v3 ∧ w.cell? ⟨g, 4, none⟩ = some v4 ∧ w.cell? ⟨g, 5, none⟩ = some v5 ∧ w.cell? ⟨g, 6, none⟩ = some v6 ∧ w.cell? ⟨g, 7, none⟩ = some v7 ∧ w.cell? ⟨g, 8, none⟩ = some v8 ∧ w.cell? ⟨g, 9, none⟩ = some v9 ∧ w.cell? ⟨g, 10, none⟩ = some v10 ∧ w.cell? ⟨g, 11, none⟩ = some v11 ∧ w.cell? ⟨g, 12, none⟩ = some v12 ∧ w.cell? ⟨g, 13, none⟩ = some v13 ∧ w.cell? ⟨g, 14, none⟩ = some v14 ∧ w.cell? ⟨g, 15, none⟩ = some v15 ∧ w.cell? ⟨g, 16, none⟩ = some v16 :=
  ⟨by rw [cell_of_row _ _ 0 _ _ _ h]; rfl, by rw [cell_of_row _ _ 1 _ _ _ h]; rfl, by rw [cell_of_row _ _ 2 _ _ _ h]; rfl, by rw [cell_of_row _ _ 3 _ _ _ h]; rfl, by rw [cell_of_row _ _ 4 _ _ _ h]; rfl, by rw [cell_of_row _ _ 5 _ _ _ h]; rfl, by rw [cell_of_row _ _ 6 _ _ _ h]; rfl, by rw [cell_of_row _ _ 7 _ _ _ h]; rfl, by rw [cell_of_row _ _ 8 _ _ _ h]; rfl, by rw [cell_of_row _ _ 9 _ _ _ h]; rfl, by rw [cell_of_row _ _ 10 _ _ _ h]; rfl, by rw [cell_of_row _ _ 11 _ _ _ h]; rfl, by rw [cell_of_row _ _ 12 _ _ _ h]; rfl, by rw [cell_of_row _ _ 13 _ _ _ h]; rfl, by rw [cell_of_row _ _ 14 _ _ _ h]; rfl, by rw [cell_of_row _ _ 15 _ _ _ h]; rfl, by rw [cell_of_row _ _ 16 _ _ _ h]; rfl⟩
theorem frozen17 {w : World} {g : Nat} {cs : Array Value} {T : TypeId} (h : w.heap[g]? = some (.cells cs T (0, 0))) : w.frozen? ⟨g, 0, none⟩ = false ∧ w.frozen? ⟨g, 1, none⟩ = false ∧ w.frozen? ⟨g, 2, none⟩ = false ∧ w.frozen? ⟨g, 3, none⟩ = false ∧ w.frozen? ⟨g, 4, none⟩ = false ∧ w.frozen? ⟨g, 5, none⟩ = false ∧ w.frozen? ⟨g, 6, none⟩ = false ∧ w.frozen? ⟨g, 7, none⟩ = false ∧ w.frozen? ⟨g, 8, none⟩ = false ∧ w.frozen? ⟨g, 9, none⟩ = false ∧ w.frozen? ⟨g, 10, none⟩ = false ∧ w.frozen? ⟨g, 11, none⟩ = false ∧ w.frozen? ⟨g, 12, none⟩ = false ∧ w.frozen? ⟨g, 13, none⟩ = false ∧ w.frozen? ⟨g, 14, none⟩ = false ∧ w.frozen? ⟨g, 15, none⟩ = false ∧ w.frozen? ⟨g, 16, none⟩ = false :=
  ⟨frozen_of_row _ _ 0 _ _ h, frozen_of_row _ _ 1 _ _ h, frozen_of_row _ _ 2 _ _ h, frozen_of_row _ _ 3 _ _ h, frozen_of_row _ _ 4 _ _ h, frozen_of_row _ _ 5 _ _ h, frozen_of_row _ _ 6 _ _ h, frozen_of_row _ _ 7 _ _ h, frozen_of_row _ _ 8 _ _ h, frozen_of_row _ _ 9 _ _ h, frozen_of_row _ _ 10 _ _ h, frozen_of_row _ _ 11 _ _ h, frozen_of_row _ _ 12 _ _ h, frozen_of_row _ _ 13 _ _ h, frozen_of_row _ _ 14 _ _ h, frozen_of_row _ _ 15 _ _ h, frozen_of_row _ _ 16 _ _ h⟩
/-- Where an own list of tokens lies, and its cells. -/
theorem tk_cells {w : World} {B : Nat} {v : Value} {n : Nat} {xs : List Value} (h : w.ownsRow B 174 3 v n xs) (hn : 0 < n) : ∃ g cap, v = .slice (some ⟨g, 0, none⟩) n cap ∧ cap ≤ maxLen ∧ ∀ j u, xs[j]? = some u → w.cell? ⟨g, j, none⟩ = some u := by
  obtain ⟨a, cap, rfl, hw, hb⟩ := own_win h
  obtain ⟨g, cap', hv, _⟩ := own_at h hn
  cases hv
  rcases hw.mem with e | ⟨g', off, e, hc, _, _⟩
  · have := hw.le; omega
  · cases e
    exact ⟨_, _, rfl, hw.max, fun j u hj => by have := hc j u hj; rwa [Nat.zero_add] at this⟩
theorem results_qm2 {fn : Func} {p u : Tmp} (h : fn.results = #[.cell p 36, .tmp u]) (tmps : Array Value) (w : World) (g : Nat) (y : Qm) (hp : tmps.getD p undef = .pointer (some ⟨g, 0, Option.none⟩)) (hg : w.heap[g]? = some (.cells y.c 36 (0, 0))) :
    (results fn tmps).run Tryz.prog w = .ok (.tuple #[.agg y.c, tmps.getD u undef]) w := by
  have hp' : tmps[p]?.getD undef = .pointer (some ⟨g, 0, Option.none⟩) := by simpa using hp
  simp [results, h, hp', asAddr, run_loadVar_row w g 36 36 y.c (0, 0) _ hg Tryz.underlying36 rfl (by rw [Qm.c_size]; exact query_size)]
theorem results_qm3 {fn : Func} {p u v : Tmp} (h : fn.results = #[.cell p 36, .tmp u, .tmp v]) (tmps : Array Value) (w : World) (g : Nat) (y : Qm) (hp : tmps.getD p undef = .pointer (some ⟨g, 0, Option.none⟩)) (hg : w.heap[g]? = some (.cells y.c 36 (0, 0))) :
    (results fn tmps).run Tryz.prog w = .ok (.tuple #[.agg y.c, tmps.getD u undef, tmps.getD v undef]) w := by
  have hp' : tmps[p]?.getD undef = .pointer (some ⟨g, 0, Option.none⟩) := by simpa using hp
  simp [results, h, hp', asAddr, run_loadVar_row w g 36 36 y.c (0, 0) _ hg Tryz.underlying36 rfl (by rw [Qm.c_size]; exact query_size)]
set_option maxRecDepth 100000 in
set_option maxHeartbeats 6400000 in
theorem pread_bad (G : Nat) (n g m l : Addr) (s : ByteArray) (w : World) (hE : LxEnv G n g m l w) (p c : Nat) (ht : lexL s = .error (p, c)) :
    Calls Tryz.prog 19 #[.string s] w (ReadIs s w) := by
  have HL := Lib.hid (fun W (hW : w.grownBy W none) => Lex_bad G n g m l s W (hE.keep hW) p c ht)
  have hc := lexL_codes s p c ht
  have hc0 := ne_nat (show c ≠ 0 by omega)
  have HP : Hid (parseL s = .error (p, c)) := Lib.hid (by unfold parseL; rw [ht])
  clear hE ht hc
  go_enter Tryz.func19, Tryz.ntmps19
  have GA := Lib.hid (World.grownBy_alloc w (.cells (Qm.z 0).c 36) none)
  go_wp2_with fail
  refine (HL.out _ GA.out).mono ?_
  rintro e w2 ⟨rfl, hg⟩
  have G2 := Lib.hid (GA.out.trans hg)
  have A2 := Lib.hid (blk_grown hg (heap_alloc_new w _))
  clear hg
  go_wp2_with (refine wpList_store_row rfl 36 (.tmp 2) (.tmp 17) rfl w.heap.size (Qm.z 0).c rfl rfl 36 (Qm.z 0).c A2.out (by rw [Qm.c_size]; exact query_size) rfl (Qm.c_all _) ?_)
  have hgs := grown_setRow w2 w.heap.size (Qm.z 0).c
  have hbl := setRow_heap w2 w.heap.size (Qm.z 0).c (Qm.z 0).c _ _ A2.out
  have hgo : w.grownBy (w2.setRow w.heap.size (Qm.z 0).c) none := ⟨hgs.os.trans G2.out.os, hgs.tape.trans G2.out.tape, hgs.output.trans G2.out.output, Nat.le_trans G2.out.size hgs.size, fun k hk _ => (hgs.block k (Nat.lt_of_lt_of_le hk G2.out.size) (by simp; omega)).trans (G2.out.block k hk (by simp))⟩
  exact bodyPost_ret (results_qm2 rfl _ _ w.heap.size (Qm.z 0) rfl hbl) rfl ⟨hgo, .inl ⟨p, c, Qm.z 0, HP.out, rfl⟩⟩
end Go.Proofs.YtjaclmoobfeikaaGreatDoor
namespace Go.Proofs.YtjaclmoobfeikaaGreatDoor
open Go.RowKit

/-- Lists of items, or keys, are alike one by one. -/
def ItsLike (l m : List Itm) : Prop := l.length = m.length ∧ ∀ i, i < l.length → Itm.like (l.getD i default) (m.getD i default)
def KysLike (l m : List Kyo) : Prop := l.length = m.length ∧ ∀ i, i < l.length → Kyo.like (l.getD i default) (m.getD i default)
/-- Two queries are the same but for places. -/
def Qm.like (x y : Qm) : Prop := x.all = y.all ∧ x.table = y.table ∧ x.limit = y.limit ∧ ItsLike x.items y.items ∧ ItsLike x.group y.group ∧ KysLike x.order y.order ∧ x.cond.z false = y.cond.z false
end Go.Proofs.YtjaclmoobfeikaaGreatDoor
namespace Go.Proofs.YtjaclmoobfeikaaGreatDoor
open Go.RowKit

theorem drew_setCell (w : World) (a : Addr) (v : Value) : (w.setCell a v).drew = w.drew.setCell a v := rfl
set_option maxRecDepth 100000 in
set_option maxHeartbeats 6400000 in
theorem pread_ok (G : Nat) (n g m l : Addr) (s : ByteArray) (w : World) (hE : LxEnv G n g m l w) (t : List Tk) (ht : lexL s = .ok t) :
    Calls Tryz.prog 19 #[.string s] w (ReadIs s w) := by
  have HL := Lib.hid (fun W (hW : w.grownBy W none) => Lex_ok G n g m l s W (hE.keep hW) t ht)
  have HT := Lib.hid (lexL_ok s t ht)
  have HF := Lib.hid (And.intro hE.far (And.intro hE.fl hE.le))
  obtain ⟨r, hr⟩ : ∃ r, r = queryL ⟨t, Option.none⟩ := ⟨_, rfl⟩
  have HP : Hid (parseL s = match r.1.err with | some e => .error e | Option.none => .ok r.2) := Lib.hid (by rw [hr]; unfold parseL; rw [ht]; rfl)
  have HQ := Lib.hid (fun R b W (hW : RdA R b 0 ⟨t, Option.none⟩ W) => pquery_any R b ⟨t, Option.none⟩ W hW)
  rw [← hr] at HQ
  clear hE ht hr
  go_enter Tryz.func19, Tryz.ntmps19
  have GA := Lib.hid (World.grownBy_alloc w (.cells (Qm.z 0).c 36) none)
  go_wp2_with fail
  refine (HL.out _ GA.out).mono ?_
  rintro e w2 ⟨v, rfl, ho, hg⟩
  have hpos := HT.out.1.pos
  obtain ⟨gb, cap, rfl, hcap, hgb, hgl⟩ := own_at ho hpos
  have G2 := Lib.hid (GA.out.trans hg)
  have A2 := Lib.hid (blk_grown hg (heap_alloc_new w _))
  have O2 := Lib.hid ho
  clear hg ho
  have J2 : Hid (RdA w2.heap.size gb 0 ⟨t, Option.none⟩ (w2.alloc (.cells #[.slice (some ⟨gb, 0, Option.none⟩) t.length cap, .int .i64 0, .nilIface] 98))) := by
    have g3 := World.grownBy_alloc w2 (.cells #[.slice (some ⟨gb, 0, Option.none⟩) t.length cap, .int .i64 0, .nilIface] 98) none
    obtain ⟨g1, cap1, hv, hc1, hcell⟩ := tk_cells O2.out hpos
    cases hv
    obtain ⟨tp, pp, far⟩ := HF.out.1
    have hl := HF.out.2
    exact Lib.hid ⟨⟨0, cap, heap_alloc_new w2 _, hcap, hc1, fun j u hj => g3.cell (by rw [Nat.zero_add]; exact hcell j u hj) (by simp)⟩, HT.out.1, by have := HT.out.2.1; simp only; omega, Nat.lt_of_lt_of_le hgl g3.size, by omega, ⟨tp, pp, g3.cell (G2.out.cell far (by simp)) (by simp)⟩, by have := G2.out.size; omega, HT.out.2.2⟩
  have g3 := Lib.hid (World.grownBy_alloc w2 (.cells #[.slice (some ⟨gb, 0, Option.none⟩) t.length cap, .int .i64 0, .nilIface] 98) none)
  have A3 := Lib.hid (blk_grown g3.out A2.out)
  have l3 := (Array.getElem?_eq_some_iff.1 A2.out).1
  have s3 : (w2.alloc (.cells #[.slice (some ⟨gb, 0, Option.none⟩) t.length cap, .int .i64 0, .nilIface] 98)).heap.size = w2.heap.size + 1 := by simp
  go_wp2_with fail
  refine (HQ.out _ _ _ J2.out).mono ?_
  rintro e w4 ⟨y, rfl, hy, hyS, hg⟩
  have A4 := Lib.hid (hg.blk A3.out (by omega))
  have R4 := Lib.hid hg
  have HY := Lib.hid (And.intro hy hyS)
  have l4 := hg.2.size
  have B5 := Lib.hid (heap_alloc_new w4 (.cells (Qm.z 0).c 36))
  clear hg hy hyS hcap hgl
  go_upto_region 6 with (refine wpList_store_row rfl 36 (.tmp 8) (.tmp 25) rfl w4.heap.size y.c rfl rfl 36 (Qm.z 0).c B5.out (by rw [Qm.c_size]; exact query_size) (by rw [Qm.c_size, Qm.c_size]) (Qm.c_all _) ?_)
  have gA := Lib.hid (World.grownBy_alloc w4 (.cells (Qm.z 0).c 36) none)
  have gS := Lib.hid (grown_setRow (w4.alloc (.cells (Qm.z 0).c 36)) w4.heap.size y.c)
  have B6 := Lib.hid (setRow_heap (w4.alloc (.cells (Qm.z 0).c 36)) w4.heap.size (Qm.z 0).c y.c _ _ B5.out)
  have A6 := Lib.hid (blk_row gS.out (blk_grown gA.out A4.out) (by omega))
  have Y6 := Lib.hid ((HY.out.2.mono (S' := fun j => w.heap.size < j ∧ j ≠ w4.heap.size) (fun j hj1 hj => by omega)).keep ⟨Nat.le_trans gA.out.size gS.out.size, fun k hk hlt => (gS.out.block k (Nat.lt_of_lt_of_le hlt gA.out.size) (by simp; exact hk.2)).trans (gA.out.block k hlt (by simp))⟩)
  obtain ⟨o4, k4, hb4, _⟩ := R4.out.1.at_
  have hbR := (Array.getElem?_eq_some_iff.1 hb4).1
  have hb6 := blk_row gS.out (blk_grown gA.out hb4) (by omega)
  have g6 : Hid (w.grownBy ((w4.alloc (.cells (Qm.z 0).c 36)).setRow w4.heap.size y.c) none) := Lib.hid (by
    have a := G2.out
    have b := g3.out
    have c := R4.out.2
    have d := gA.out
    have e := gS.out
    exact ⟨e.os.trans (d.os.trans (c.os.trans (b.os.trans a.os))), e.tape.trans (d.tape.trans (c.tape.trans (b.tape.trans a.tape))), e.output.trans (d.output.trans (c.output.trans (b.output.trans a.output))), by have := a.size; have := b.size; have := c.size; have := d.size; have := e.size; omega, fun k hk _ => by
      have := a.size
      have := b.size
      have := d.size
      exact (e.block k (by omega) (by simp; omega)).trans ((d.block k (by omega) (by simp)).trans ((c.block k (by omega) (by simp; omega)).trans ((b.block k (by omega) (by simp)).trans (a.block k hk (by simp)))))⟩)
  clear gA gS B5 A4 R4
  have cE : ((w4.alloc (.cells (Qm.z 0).c 36)).setRow w4.heap.size y.c).cell? ⟨w2.heap.size, 2, none⟩ = some (errI r.1.err) := by rw [cell_of_row _ _ 2 _ _ _ hb6]; rfl
  clear hb4 hb6
  obtain ⟨w6, hw6⟩ : ∃ w6, w6 = (w4.alloc (.cells (Qm.z 0).c 36)).setRow w4.heap.size y.c := ⟨_, rfl⟩
  rw [← hw6] at B6 A6 Y6 g6 cE
  change Code.wp _ _ _ _ ((w4.alloc (.cells (Qm.z 0).c 36)).setRow w4.heap.size y.c)
  rw [← hw6]
  clear hw6
  have hbl : (w6.drew.setCells w.heap.size 0 y.l).heap[w.heap.size]? = some (.cells y.c 36 (0, 0)) := by
    rw [heap_setCells y.l 0 w6.drew _ A6.out, qm_over]
  have hgs := grown_setCells w.heap.size y.l 0 w6.drew
  have HF1 : Hid (ReadIs s w (.returned (.tuple #[.agg y.c, errI r.1.err])) (w6.drew.setCells w.heap.size 0 y.l)) := Lib.hid (by
    have gd := grown_drewT g6.out
    refine ⟨⟨hgs.os.trans gd.os, hgs.tape.trans gd.tape, hgs.output.trans gd.output, Nat.le_trans gd.size hgs.size, fun k hk _ => (hgs.block k (Nat.lt_of_lt_of_le hk gd.size) (by simp; omega)).trans (gd.block k hk (by simp))⟩, ?_⟩
    have hp := HP.out
    cases he : r.1.err with
    | none =>
      rw [he] at hp
      refine .inr ⟨y, by rw [hp, HY.out.1], rfl, ?_⟩
      have y7 := (Y6.out.keep (w' := w6.drew) ⟨Nat.le_refl _, fun _ _ _ => rfl⟩).keep ⟨hgs.size, fun k hk hlt => hgs.block k hlt (by simp; omega)⟩
      exact y7.mono (fun j _ hj => Nat.le_of_lt hj.1)
    | some pc => rw [he] at hp; exact .inl ⟨pc.1, pc.2, y, hp, rfl⟩)
  have HB := Lib.hid hbl
  clear hbl hgs Y6 HY HP g6
  generalize errI r.1.err = ev at *
  obtain ⟨ia, ic, its, al, ta, ⟨k, c, rr, v, o, la, lc, li, ka, kc, ks, pp⟩, ga, gc, gr, oa, oc, od, lim⟩ := y
  have n1 : w2.heap.size ≠ w.heap.size := by omega
  have cE' : w6.drew.cell? ⟨w2.heap.size, 2, none⟩ = some ev := cE
  obtain ⟨b0, b1, b2, b3, b4, b5, b6, b7, b8, b9, b10, b11, b12, b13, b14, b15, b16⟩ := cells17 (show w6.drew.heap[w4.heap.size]? = some (.cells #[.slice ia its.length ic, .bool al, .string ta, .int .i64 (k : Int), .string c, .int .i64 (rr : Int), .int .i64 v.k, .int .i64 v.n, .string v.s, .string o, .slice la li.length lc, .slice ka ks.length kc, .int .i64 (pp : Int), .slice ga gr.length gc, .slice oa od.length oc, .int .i64 lim, .int .i64 0] 36 (0, 0)) from B6.out)
  obtain ⟨bb0, bb1, bb2, bb3, bb4, bb5, bb6, bb7, bb8, bb9, bb10, bb11, bb12, bb13, bb14, bb15, bb16⟩ := cells17 (show w6.heap[w4.heap.size]? = some (.cells #[.slice ia its.length ic, .bool al, .string ta, .int .i64 (k : Int), .string c, .int .i64 (rr : Int), .int .i64 v.k, .int .i64 v.n, .string v.s, .string o, .slice la li.length lc, .slice ka ks.length kc, .int .i64 (pp : Int), .slice ga gr.length gc, .slice oa od.length oc, .int .i64 lim, .int .i64 0] 36 (0, 0)) from B6.out)
  obtain ⟨q0, q1, q2, q3, q4, q5, q6, q7, q8, q9, q10, q11, q12, q13, q14, q15, q16⟩ := cells17 (show w6.drew.heap[w.heap.size]? = some (.cells #[.slice Option.none 0 0, .bool false, .string ⟨#[]⟩, .int .i64 0, .string ⟨#[]⟩, .int .i64 0, .int .i64 0, .int .i64 0, .string ⟨#[]⟩, .string ⟨#[]⟩, .slice Option.none 0 0, .slice Option.none 0 0, .int .i64 0, .slice Option.none 0 0, .slice Option.none 0 0, .int .i64 0, .int .i64 0] 36 (0, 0)) from A6.out)
  obtain ⟨qq0, qq1, qq2, qq3, qq4, qq5, qq6, qq7, qq8, qq9, qq10, qq11, qq12, qq13, qq14, qq15, qq16⟩ := cells17 (show w6.heap[w.heap.size]? = some (.cells #[.slice Option.none 0 0, .bool false, .string ⟨#[]⟩, .int .i64 0, .string ⟨#[]⟩, .int .i64 0, .int .i64 0, .int .i64 0, .string ⟨#[]⟩, .string ⟨#[]⟩, .slice Option.none 0 0, .slice Option.none 0 0, .int .i64 0, .slice Option.none 0 0, .slice Option.none 0 0, .int .i64 0, .int .i64 0] 36 (0, 0)) from A6.out)
  obtain ⟨f0, f1, f2, f3, f4, f5, f6, f7, f8, f9, f10, f11, f12, f13, f14, f15, f16⟩ := frozen17 (show w6.drew.heap[w.heap.size]? = some (.cells #[.slice Option.none 0 0, .bool false, .string ⟨#[]⟩, .int .i64 0, .string ⟨#[]⟩, .int .i64 0, .int .i64 0, .int .i64 0, .string ⟨#[]⟩, .string ⟨#[]⟩, .slice Option.none 0 0, .slice Option.none 0 0, .int .i64 0, .slice Option.none 0 0, .slice Option.none 0 0, .int .i64 0, .int .i64 0] 36 (0, 0)) from A6.out)
  obtain ⟨ff0, ff1, ff2, ff3, ff4, ff5, ff6, ff7, ff8, ff9, ff10, ff11, ff12, ff13, ff14, ff15, ff16⟩ := frozen17 (show w6.heap[w.heap.size]? = some (.cells #[.slice Option.none 0 0, .bool false, .string ⟨#[]⟩, .int .i64 0, .string ⟨#[]⟩, .int .i64 0, .int .i64 0, .int .i64 0, .string ⟨#[]⟩, .string ⟨#[]⟩, .slice Option.none 0 0, .slice Option.none 0 0, .int .i64 0, .slice Option.none 0 0, .slice Option.none 0 0, .int .i64 0, .int .i64 0] 36 (0, 0)) from A6.out)
  go_wp2_with fail
  simp only [World.setCells, Qm.l, Pm.c, List.cons_append, List.nil_append, Nat.zero_add, Nat.reduceAdd] at HB HF1
  go_region
  all_goals
    go_wp2_with fail
    simp only [drew_setCell]
    simp (config := { decide := false }) only [Act.put, List.getElem_toArray, List.getElem_cons_succ, List.getElem_cons_zero, List.setIfInBounds_toArray, List.set_cons_succ, List.set_cons_zero]
    exact bodyPost_ret (results_qm2 (p := 2) (u := 3) rfl _ _ w.heap.size ⟨ia, ic, its, al, ta, ⟨k, c, rr, v, o, la, lc, li, ka, kc, ks, pp⟩, ga, gc, gr, oa, oc, od, lim⟩ rfl HB.out) rfl HF1.out
end Go.Proofs.YtjaclmoobfeikaaGreatDoor
