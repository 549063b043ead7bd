import Derived.Test.YtfambadamebjjaaZs40
import Derived.Test.YtfambadamebjjaaZs19
set_option linter.unusedSimpArgs false
set_option linter.unusedVariables false
namespace Go.Proofs.Ytfambadamebjjaa
open Go.RowKit
set_option linter.unusedVariables false
set_option linter.unusedSimpArgs false
structure Rwm where
 a : Option Addr
 c : Nat
 l : List Vv
instance : Inhabited Rwm := ⟨⟨none, 0, []⟩⟩
def RwsAt (B : Nat) (w : World) (a : Option Addr) (ls : List Rwm) : Prop :=
 ls.length ≤ 9223372036854775807 ∧ (∀ x ∈ ls, VvAt B w x.a x.l ∧ x.l.length ≤ x.c) ∧ (ls = [] ∨ ∃ b off, a = some ⟨b, off, none⟩ ∧ b < B ∧ ∀ i, i < ls.length → w.cell? ⟨b, off + i, none⟩ = some (.slice (ls.getD i default).a (ls.getD i default).l.length (ls.getD i default).c))
theorem VvAt.mono1 {B B' : Nat} {w : World} {a : Option Addr} {l : List Vv} (h : VvAt B w a l) (hB : B ≤ B') : VvAt B' w a l := ⟨h.1, h.2.imp id fun ⟨b, off, e, hlt, hc⟩ => ⟨b, off, e, by omega, hc⟩⟩
theorem RwsAt.keep {B : Nat} {w w' : World} {a : Option Addr} {l : List Rwm} (h : RwsAt B w a l) (hg : w.grownBy w' none) : RwsAt B w' a l :=
 ⟨h.1, fun x hx => ⟨(h.2.1 x hx).1.keep hg (by simp), (h.2.1 x hx).2⟩, h.2.2.imp id fun ⟨b, off, e, hlt, hc⟩ => ⟨b, off, e, hlt, fun i hi => hg.cell (hc i hi) (by simp)⟩⟩
theorem RwsAt.at {B : Nat} {w : World} {a : Option Addr} {l : List Rwm} (h : RwsAt B w a l) {i : Nat} (hi : i < l.length) : ∃ b off, a = some ⟨b, off, none⟩ ∧ b < B ∧ w.cell? ⟨b, off + i, none⟩ = some (.slice (l.getD i default).a (l.getD i default).l.length (l.getD i default).c) := by
 rcases h.2.2 with h | ⟨b, off, e, hlt, hc⟩
 ·rw [h] at hi; simp at hi
 ·exact ⟨b, off, e, hlt, hc i hi⟩
def RgtR (l : List Cl) (ls : List Rwm) : Prop := ls.length ≤ 300 ∧ ∀ i, i < ls.length → Fits l (ls.getD i default).l
def TellsP (F : Prop) (e : Ending) : Prop := ∃ b, e = .returned (.bool b) ∧ (b = true ↔ F)
set_option maxRecDepth 100000 in
set_option maxHeartbeats 3200000 in
theorem lawRight_any (t : Tb) (a : Option Addr) (cap : Nat) (ls : List Rwm) (w : World) (hC : ColsAt w.heap.size w t.a t.l) (hcap : t.l.length ≤ t.cap) (hR : RwsAt w.heap.size w a ls) (hlc : ls.length ≤ cap) :
  Calls Try.prog 8 #[.agg #[.string t.n, .slice t.a t.l.length t.cap, .int .i64 t.k], .slice a ls.length cap] w fun e w' => TellsP (RgtR t.l ls) e ∧ w.grownBy w' none := by
 have HW := Lib.hid (fun i (hi : i < ls.length) W (hW : w.grownBy W none) => refRow6_all t.a (ls.getD i default).a t.cap (ls.getD i default).c t.l (ls.getD i default).l W ((hC.keep hW (by simp)).mono hW.size) (((hR.keep hW).2.1 (ls.getD i default) (by rw [List.getD, List.getElem?_eq_getElem hi]; exact List.getElem_mem _)).1.mono1 hW.size) hcap (hR.2.1 (ls.getD i default) (by rw [List.getD, List.getElem?_eq_getElem hi]; exact List.getElem_mem _)).2)
 have HAt := Lib.hid (fun i (hi : i < ls.length) => hR.at hi)
 have hmax := hR.1
 obtain ⟨tn, ta, tc, tl, tk⟩ := t
 dsimp only at HW ⊢
 obtain ⟨F, hF⟩ : ∃ F : Prop, F = RgtR tl ls := ⟨_, rfl⟩
 have HF1 : Hid (F → ls.length ≤ 300 ∧ ∀ i, i < ls.length → Fits tl (ls.getD i default).l) := Lib.hid (fun h => by rw [hF] at h; exact h)
 have HF2 : Hid (ls.length ≤ 300 → (∀ i, i < ls.length → Fits tl (ls.getD i default).l) → F) := Lib.hid (fun h1 h2 => by rw [hF]; exact ⟨h1, h2⟩)
 rw [← hF]
 have G1 := Lib.hid (World.grownBy_alloc w (.cells #[.string tn, .slice ta tl.length tc, .int .i64 tk] 24) none)
 have B1 := Lib.hid (heap_alloc_new w (.cells #[.string tn, .slice ta tl.length tc, .int .i64 tk] 24))
 obtain ⟨m, hm⟩ : ∃ m, m = tl.length := ⟨_, rfl⟩
 obtain ⟨n, hn⟩ : ∃ n, n = ls.length := ⟨_, rfl⟩
 rw [← hm] at HW G1 B1 ⊢
 rw [← hn] at HW HAt hmax hlc HF1 HF2 ⊢
 clear hm hn hF hC hcap hR
 go_enter Try.func8, Try.ntmps8
 go_upto_region 1 with fail
 generalize w.alloc (.cells #[.string tn, .slice ta m tc, .int .i64 tk] 24) = w1 at *
 go_wp2_with fail
 go_loopw [9] (fun s wr => ∃ k : Nat, s = .int .i64 k ∧ k ≤ n ∧ Hid (w1.grownBy wr none) ∧ Hid (∀ j, j < k → Fits tl (ls.getD j default).l)) (fun s _ => n - (intOf s).toNat)
 case atStart => exact ⟨0, rfl, Nat.zero_le _, Lib.hid (grown_reflT _ _), Lib.hid (fun j hj => by omega)⟩
 case round =>
  obtain ⟨k, rfl, hk, KG, HJ⟩ := hrel
  have GR := Lib.hid (G1.out.trans KG.out)
  by_cases hlt : k < n
  ·obtain ⟨b, off, rfl, hb, d0⟩ := HAt.out k hlt
   have c0 := GR.out.cell d0 (by simp)
   have HWk := Lib.hid (HW.out k hlt)
   have HX : Hid (F → Fits tl (ls.getD k default).l) := Lib.hid (fun h => (HF1.out h).2 k hlt)
   have HJ2 : Hid (Fits tl (ls.getD k default).l → ∀ j, j < k + 1 → Fits tl (ls.getD j default).l) := Lib.hid (fun hx j hj => by
    by_cases e : j = k
    ·rw [e]; exact hx
    ·exact HJ.out j (by omega))
   generalize ls.getD k default = x at *
   obtain ⟨xa, xc, xl⟩ := x
   dsimp only at *
   generalize xl.length = xn at *
   have T := Lib.hid (blkD KG.out B1.out)
   obtain ⟨⟨t0, t1, t2⟩, _, _, _⟩ := boxD3 T.out
   have i0 : (0 : Int) ≤ k := by omega
   have i1 : (k : Int) < n := by omega
   clear d0 HW HAt HF1 HF2
   go_wp2_with fail
   refine (HWk.out _ GR.out).mono ?_
   rintro e w2 ⟨⟨g, rfl, hg2⟩, hg⟩
   have K2 := Lib.hid (KG.out.trans hg)
   have G2 := Lib.hid (GR.out.trans hg)
   have HGG := Lib.hid hg2
   clear hg2 hg t0 t1 t2 c0
   cases g with
   | false =>
    have HNo : Hid (F → False) := Lib.hid (fun h => by have := HGG.out.2 (HX.out h); cases this)
    go_wp2_with fail
    go_ret
    exact ⟨⟨false, rfl, ⟨fun h => (by cases h), fun h => (HNo.out h).elim⟩⟩, G2.out⟩
   | true =>
    have HJ3 := Lib.hid (HJ2.out (HGG.out.1 rfl))
    go_wp2_with fail
    go_roundw
    case rel => exact ⟨k + 1, by go_num, by omega, K2, HJ3⟩
    case measure => simp [intOf]; omega
  ·obtain rfl : n = k := by omega
   by_cases h3 : (n : Int) ≤ 300
   ·have HT := Lib.hid (HF2.out (by omega) HJ.out)
    go_wp2_with fail
    go_ret
    exact ⟨⟨true, by simp [h3], ⟨fun _ => HT.out, fun _ => rfl⟩⟩, GR.out⟩
   ·have HNo : Hid (F → False) := Lib.hid (fun h => by have := (HF1.out h).1; omega)
    go_wp2_with fail
    go_ret
    exact ⟨⟨false, by simp [h3], ⟨fun h => (by cases h), fun h => (HNo.out h).elim⟩⟩, GR.out⟩
end Go.Proofs.Ytfambadamebjjaa
namespace Go.Proofs.Ytfambadamebjjaa
open Go.RowKit
set_option linter.unusedVariables false
def catC : List Cl := [⟨⟨#[97]⟩, 2, false⟩, ⟨⟨#[98]⟩, 3, false⟩, ⟨⟨#[99]⟩, 1, true⟩, ⟨⟨#[100]⟩, 2, true⟩]
def catT (a : Ptr) : Tb := ⟨⟨#[116]⟩, a, 4, catC, 1⟩
theorem catalogC_any (w : World) : Calls Try.prog 15 #[] w fun e w' => (∃ a b, e = .returned (.slice b 1 1) ∧ TabsAt w'.heap.size w' b [catT a]) ∧ w.grownBy w' none := by
 go_enter Try.func15, Try.ntmps15
 go_wp2_with fail
 go_ret
 have b1 := heap_alloc_new w (.cells #[.string ⟨#[97]⟩, .int .i64 2, .bool false, .string ⟨#[98]⟩, .int .i64 3, .bool false, .string ⟨#[99]⟩, .int .i64 1, .bool true, .string ⟨#[100]⟩, .int .i64 2, .bool true] 103)
 have g1 := World.grownBy_alloc w (.cells #[.string ⟨#[97]⟩, .int .i64 2, .bool false, .string ⟨#[98]⟩, .int .i64 3, .bool false, .string ⟨#[99]⟩, .int .i64 1, .bool true, .string ⟨#[100]⟩, .int .i64 2, .bool true] 103) none
 have b2 := heap_alloc_new (w.alloc (.cells #[.string ⟨#[97]⟩, .int .i64 2, .bool false, .string ⟨#[98]⟩, .int .i64 3, .bool false, .string ⟨#[99]⟩, .int .i64 1, .bool true, .string ⟨#[100]⟩, .int .i64 2, .bool true] 103)) (.cells #[.string ⟨#[116]⟩, .slice (some ⟨w.heap.size, 0, none⟩) 4 4, .int .i64 1] 24)
 have g2 := World.grownBy_alloc (w.alloc (.cells #[.string ⟨#[97]⟩, .int .i64 2, .bool false, .string ⟨#[98]⟩, .int .i64 3, .bool false, .string ⟨#[99]⟩, .int .i64 1, .bool true, .string ⟨#[100]⟩, .int .i64 2, .bool true] 103)) (.cells #[.string ⟨#[116]⟩, .slice (some ⟨w.heap.size, 0, none⟩) 4 4, .int .i64 1] 24) none
 have b1' := blk_grown g2 b1
 rw [show (w.alloc (.cells #[.string ⟨#[97]⟩, .int .i64 2, .bool false, .string ⟨#[98]⟩, .int .i64 3, .bool false, .string ⟨#[99]⟩, .int .i64 1, .bool true, .string ⟨#[100]⟩, .int .i64 2, .bool true] 103)).heap.size = w.heap.size + 1 by simp] at b2
 refine ⟨⟨some ⟨w.heap.size, 0, none⟩, some ⟨w.heap.size + 1, 0, none⟩, rfl, (by show 1 ≤ 9223372036854775807; decide), fun t ht => ?_, .inr ⟨w.heap.size + 1, 0, rfl, (Array.getElem?_eq_some_iff.1 b2).1, fun i hi => ?_⟩⟩, g1.trans g2⟩
 ·obtain rfl : t = catT (some ⟨w.heap.size, 0, none⟩) := by simpa using ht
  refine ⟨(by show 4 ≤ 9223372036854775807; decide), .inr ⟨w.heap.size, 0, rfl, (Array.getElem?_eq_some_iff.1 b1').1, fun i hi => ?_⟩⟩
  have hi4 : i < 4 := hi
  obtain rfl | rfl | rfl | rfl : i = 0 ∨ i = 1 ∨ i = 2 ∨ i = 3 := by omega
  all_goals exact ⟨cell_of_row _ _ _ _ _ _ b1', cell_of_row _ _ _ _ _ _ b1', cell_of_row _ _ _ _ _ _ b1'⟩
 ·obtain rfl : i = 0 := by have : i < 1 := hi; omega
  exact ⟨cell_of_row _ _ _ _ _ _ b2, cell_of_row _ _ _ _ _ _ b2, cell_of_row _ _ _ _ _ _ b2⟩
theorem results_pm2 {fn : Func} {p u : Tmp} (h : fn.results = #[.cell p 34, .tmp u]) (tmps : Array Value) (w : World) (g : Nat) (y : Pm) (hp : tmps.getD p undef = .pointer (some ⟨g, 0, Option.none⟩)) (hg : w.heap[g]? = some (.cells y.c.toArray 34 (0, 0))) :
  (results fn tmps).run Try.prog w = .ok (.tuple #[y.v, tmps.getD u undef]) w := by
 have hp' : tmps[p]?.getD undef = .pointer (some ⟨g, 0, Option.none⟩) := by simpa using hp
 simp [results, h, hp', asAddr, Pm.v, run_loadVar_row w g 34 34 y.c.toArray (0, 0) _ hg Try.underlying34 rfl (by rw [Pm.c_size]; exact pred_size)]
theorem Qm.at3 (y : Qm) : ∀ j u, y.cond.c[j]? = some u → y.c[3 + j]? = some u := by
 intro j u hj
 have hl := y.cond.c_len
 have hlt : j < 10 := by rw [← hl]; exact (List.getElem?_eq_some_iff.1 hj).1
 show y.l.toArray[3 + j]? = some u
 simp only [Qm.l, List.getElem?_toArray, Nat.add_comm 3 j, List.getElem?_cons_succ]
 rw [List.getElem?_append_left (by omega)]; exact hj
def preA (s : ByteArray) : ByteArray := ⟨#[83, 69, 76, 69, 67, 84, 32, 97, 32, 70, 82, 79, 77, 32, 116, 32, 87, 72, 69, 82, 69, 32]⟩ ++ s
def LWIs (s : ByteArray) (w : World) (e : Ending) (w' : World) : Prop :=
 w.grownBy w' none ∧ ∃ (x : Pm) (b : Bool), e = .returned (.tuple #[x.v, .bool b]) ∧ ((∀ a, Able (preA s) (catT a)) → b = true) ∧ (b = true → predC catC x.e = 0 ∧ PmS (fun j => w.heap.size ≤ j) w' x ∧ ∃ Q, parseL (preA s) = .ok Q ∧ Red Q ∧ x.e.e = Q.cond.e)
theorem catC_names : ∀ i, i < catC.length → (catC.getD i default).n.size ≤ 9223372036854775807 := by decide
set_option maxRecDepth 100000 in
set_option maxHeartbeats 6400000 in
theorem lawWhere_any (s : ByteArray) (w : World) (hs2 : s.size ≤ 1500) : Calls Try.prog 16 #[.string s] w (LWIs s w) := by
 have HQ := Lib.hid (fun (a : Ptr) W (hC : ColsAt W.heap.size W a catC) => lawQuery_any (preA s) (catT a) W hC (by show (4 : Nat) ≤ 4; decide) ⟨by show (1 : Nat) ≤ _; decide, catC_names⟩)
 have HC := Lib.hid (fun W => catalogC_any W)
 unfold preA at HQ
 have GA := Lib.hid (World.grownBy_alloc w (.cells z10 34) none)
 have AA := Lib.hid (heap_alloc_new w (.cells z10 34))
 go_enter Try.func16, Try.ntmps16
 go_wp2_with fail
 refine (HC.out _).mono ?_
 rintro e w1 ⟨⟨a, b, rfl, hT⟩, hg⟩
 have G1 := Lib.hid (GA.out.trans hg)
 have A1 := Lib.hid (blk_grown hg AA.out)
 obtain ⟨b0, off, rfl, _, t0, t1, t2⟩ := hT.at (i := 0) (by show (0:Nat) < 1; decide)
 have HCo := hT.2.1 (catT a) (by simp)
 have HQ1 := Lib.hid (HQ.out a w1 HCo)
 simp only [Nat.zero_mul, Nat.add_zero] at t0 t1 t2
 change _ = some (Value.string ⟨#[116]⟩) at t0
 change _ = some (Value.slice a 4 4) at t1
 change _ = some (Value.int .i64 1) at t2
 clear hT HCo hg HQ HC
 replace HQ1 : Hid (Calls Try.prog 6 #[.string (⟨#[83, 69, 76, 69, 67, 84, 32, 97, 32, 70, 82, 79, 77, 32, 116, 32, 87, 72, 69, 82, 69, 32]⟩ ++ s), .agg #[.string ⟨#[116]⟩, .slice a 4 4, .int .i64 1]] w1 (LQIs (preA s) (catT a) w1)) := HQ1
 go_wp2_with fail
 refine HQ1.out.mono ?_
 rintro e w2 ⟨hg, y, hr⟩
 have hE : ∃ b, e = .returned (.tuple #[.agg y.c, .bool b]) ∧ ((∀ a, Able (preA s) (catT a)) → b = true) ∧ (b = true → predC catC y.cond.e = 0 ∧ QmS (fun j => w1.heap.size ≤ j) w2 y ∧ ∃ Q, parseL (preA s) = .ok Q ∧ Red Q ∧ y.cond.e.e = Q.cond.e) := by
  rcases hr with ⟨rfl, hn⟩ | ⟨rfl, _, _, hp, hS, hq⟩
  ·exact ⟨false, rfl, fun h => absurd (h a) hn, fun h => by cases h⟩
  ·exact ⟨true, rfl, fun _ => rfl, fun _ => ⟨hp, hS, hq⟩⟩
 obtain ⟨ok, rfl, h1, h2⟩ := hE
 have HS := Lib.hid (And.intro h1 h2)
 have G2 := Lib.hid (G1.out.trans hg)
 have A2 := Lib.hid (blk_grown hg A1.out)
 have l1 := (Array.getElem?_eq_some_iff.1 A1.out).1
 have l2 := hg.size
 have B5 := Lib.hid (heap_alloc_new w2 (.cells (Qm.z 0).c 37))
 have gA := Lib.hid (World.grownBy_alloc w2 (.cells (Qm.z 0).c 37) none)
 have gS := Lib.hid (grown_setRow (w2.alloc (.cells (Qm.z 0).c 37)) w2.heap.size y.c)
 have B6 := Lib.hid (setRow_heap (w2.alloc (.cells (Qm.z 0).c 37)) w2.heap.size (Qm.z 0).c y.c _ _ B5.out)
 have A6 := Lib.hid ((setRow_other (w2.alloc (.cells (Qm.z 0).c 37)) w2.heap.size w.heap.size y.c (by omega)).trans (blk_grown gA.out A2.out))
 have g2 := Lib.hid (grown_thenX gA.out gS.out (fun j e => by cases e; exact Nat.le_refl _))
 have R6 : Hid (((w2.alloc (.cells (Qm.z 0).c 37)).setRow w2.heap.size y.c).rangeAt w2.heap.size 3 y.cond.c) := Lib.hid (fun j u hj => by
  rw [cell_of_row _ _ _ _ _ _ B6.out]; exact y.at3 j u hj)
 clear hr h1 h2 hg HQ1 t0 t1 t2
 go_wp2_with (first
  | (refine wpList_store_row rfl 37 (.tmp 4) (.tmp 13) rfl w2.heap.size y.c rfl rfl 37 (Qm.z 0).c B5.out (by rw [Qm.c_size]; exact query_size) (by rw [Qm.c_size, Qm.c_size]) (Qm.c_all _) ?_)
  | (refine wpList_load_mid rfl 34 (.tmp 15) rfl w2.heap.size 3 rfl y.cond.c _ R6.out Try.underlying34 rfl (by rw [Pm.c_len]; exact pred_size) ?_)
  | (refine wpList_store_row rfl 34 (.tmp 2) (.tmp 16) rfl w.heap.size y.cond.c.toArray rfl rfl 34 z10 A6.out (by rw [Pm.c_size]; exact pred_size) (by rw [Pm.c_size]; rfl) (Pm.c_all _) ?_))
 obtain ⟨w6, hw6⟩ : ∃ w6, w6 = (w2.alloc (.cells (Qm.z 0).c 37)).setRow w2.heap.size y.c := ⟨_, rfl⟩
 have hS := grown_setRow w6 w.heap.size y.cond.c.toArray
 have A6 := A6.out
 have g2 := g2.out
 rw [← hw6] at A6 g2
 change bodyPost _ _ _ _ _ (((w2.alloc (.cells (Qm.z 0).c 37)).setRow w2.heap.size y.c).setRow w.heap.size y.cond.c.toArray)
 rw [← hw6]
 refine bodyPost_ret (v := .tuple #[y.cond.v, .bool ok]) (results_pm2 (p := 2) (u := 3) rfl _ _ w.heap.size y.cond rfl (setRow_heap w6 w.heap.size z10 y.cond.c.toArray _ _ A6)) rfl ⟨grown_thenX (G2.out.trans g2) hS (fun j e => by cases e; exact Nat.le_refl _), y.cond, ok, rfl, HS.out.1, fun hb => ?_⟩
 obtain ⟨hp, hQ, hq⟩ := HS.out.2 hb
 have h1 := (hQ.2.1.keep (.of g2)).keep (w' := w6.setRow w.heap.size y.cond.c.toArray) ⟨hS.size, fun b hb hlt => hS.block b hlt (by simp; omega)⟩
 exact ⟨hp, h1.mono (fun j _ hj => by omega), hq⟩
end Go.Proofs.Ytfambadamebjjaa
namespace Go.Proofs.Ytfambadamebjjaa
open Go.RowKit
set_option linter.unusedVariables false
def rowV (a : Int) (d : Vv) : List Vv := [⟨2, a, ⟨#[]⟩⟩, ⟨3, 0, ⟨#[]⟩⟩, ⟨0, 0, ⟨#[]⟩⟩, d]
def RowIs (a : Int) (d : Vv) (w : World) (e : Ending) (w' : World) : Prop := ∃ p, e = .returned (.slice p 4 4) ∧ VvAt w'.heap.size w' p (rowV a d) ∧ w.grownBy w' none
set_option linter.unusedSimpArgs false in
set_option maxRecDepth 100000 in
set_option maxHeartbeats 3200000 in
theorem lawRow_any (a dk dn : Int) (ds : ByteArray) (w : World) : Calls Try.prog 17 #[.int .i64 a, .agg #[.int .i64 dk, .int .i64 dn, .string ds]] w (RowIs a ⟨dk, dn, ds⟩ w) := by
 have G1 := Lib.hid (World.grownBy_alloc w (.cells #[.int .i64 dk, .int .i64 dn, .string ds] 31) none)
 have B1 := Lib.hid (heap_alloc_new w (.cells #[.int .i64 dk, .int .i64 dn, .string ds] 31))
 go_enter Try.func17, Try.ntmps17
 go_upto_region 1 with fail
 generalize w.alloc (.cells #[.int .i64 dk, .int .i64 dn, .string ds] 31) = w1 at *
 refine wp_region_held_drew (S := (fun W => Hid (w1.grownBy W none))) (by kernel_rfl) (Lib.hid (grown_drewT (grown_reflX w1 none))) (fun hHeld => ?_)
 refine TKB (i := 0) (v := ?vaz) rfl ?yaz ?raz
 case yaz => (intro w hSw; (try dsimp only at hSw); go_simp; try with_reducible rfl)
 simp only [Act.put, List.getElem_toArray, List.getElem_cons_succ, List.getElem_cons_zero, List.size_toArray, List.length_cons, List.length_nil, Nat.reduceAdd, Array.replicate, List.replicate, List.setIfInBounds_toArray, List.set_cons_zero, List.set_cons_succ]
 refine TKB (i := 2) (v := ?vbz) rfl ?ybz ?rbz
 case ybz => (intro w hSw; (try dsimp only at hSw); go_simp; try with_reducible rfl)
 simp only [Act.put, List.getElem_toArray, List.getElem_cons_succ, List.getElem_cons_zero, List.size_toArray, List.length_cons, List.length_nil, Nat.reduceAdd, Array.replicate, List.replicate, List.setIfInBounds_toArray, List.set_cons_zero, List.set_cons_succ]
 refine TKB (i := 3) (v := ?vcz) rfl ?ycz ?rcz
 case ycz => (intro w hSw; (try dsimp only at hSw); go_simp; try with_reducible rfl)
 simp only [Act.put, List.getElem_toArray, List.getElem_cons_succ, List.getElem_cons_zero, List.size_toArray, List.length_cons, List.length_nil, Nat.reduceAdd, Array.replicate, List.replicate, List.setIfInBounds_toArray, List.set_cons_zero, List.set_cons_succ]
 refine TKB (i := 4) (v := ?vdz) rfl ?ydz ?rdz
 case ydz => (intro w hSw; obtain ⟨⟨q0, q1, q2⟩, _, _, _⟩ := boxD3 (blkD hSw.out B1.out); clear hSw; go_simp; try with_reducible rfl)
 simp only [Act.put, List.getElem_toArray, List.getElem_cons_succ, List.getElem_cons_zero, List.size_toArray, List.length_cons, List.length_nil, Nat.reduceAdd, Array.replicate, List.replicate, List.setIfInBounds_toArray, List.set_cons_zero, List.set_cons_succ]
 refine RD1 (i := 1) rfl (fun K' hK => ?_)
 go_simp
 go_at_call 43
 refine (refInt_any a _).mono ?_
 rintro e w2 ⟨rfl, rfl⟩
 have Z2 : Hid (w1.grownBy _ none) := Lib.hid ((grown_drewT (grown_reflX w1 none)).trans (World.grownBy_alloc _ (.cells #[.int .i64 2, .int .i64 a, .string ⟨#[]⟩] 31) none))
 unfold vi
 refine hK.out _ _ Z2 (fun hHeld => ?_)
 clear hK K'
 simp only [Act.put, List.getElem_toArray, List.getElem_cons_succ, List.getElem_cons_zero, List.size_toArray, List.length_cons, List.length_nil, Nat.reduceAdd, Array.replicate, List.replicate, List.setIfInBounds_toArray, List.set_cons_zero, List.set_cons_succ]
 refine RD1 (i := 5) rfl (fun K' hK => ?_)
 go_simp
 obtain ⟨w3, hw3⟩ : ∃ w3, w3 = ((w1.alloc (.cells #[.int .i64 2, .int .i64 a, .string ⟨#[]⟩] 31)).alloc (.cells #[.int .i64 2, .int .i64 a, .string ⟨#[]⟩, .int .i64 3, .int .i64 0, .string ⟨#[]⟩, .int .i64 0, .int .i64 0, .string ⟨#[]⟩, .int .i64 dk, .int .i64 dn, .string ds] 31)).drew := ⟨_, rfl⟩
 have Z3 : Hid (w1.grownBy w3 none) := Lib.hid (by rw [hw3]; exact grown_drewT ((World.grownBy_alloc w1 _ none).trans (World.grownBy_alloc _ _ none)))
 have N3 : Hid (w3.heap[w1.heap.size + 1]? = some (.cells #[.int .i64 2, .int .i64 a, .string ⟨#[]⟩, .int .i64 3, .int .i64 0, .string ⟨#[]⟩, .int .i64 0, .int .i64 0, .string ⟨#[]⟩, .int .i64 dk, .int .i64 dn, .string ds] 31 (0, 0))) := Lib.hid (by rw [hw3]; have := heap_alloc_new (w1.alloc (.cells #[.int .i64 2, .int .i64 a, .string ⟨#[]⟩] 31)) (.cells #[.int .i64 2, .int .i64 a, .string ⟨#[]⟩, .int .i64 3, .int .i64 0, .string ⟨#[]⟩, .int .i64 0, .int .i64 0, .string ⟨#[]⟩, .int .i64 dk, .int .i64 dn, .string ds] 31); rw [show (w1.alloc (.cells #[.int .i64 2, .int .i64 a, .string ⟨#[]⟩] 31)).heap.size = w1.heap.size + 1 by simp] at this; exact this)
 rw [← hw3]; clear hw3
 refine hK.out _ _ Z3 (fun hHeld => ?_)
 clear hK K'
 simp only [Act.put, List.getElem_toArray, List.getElem_cons_succ, List.getElem_cons_zero, List.size_toArray, List.length_cons, List.length_nil, Nat.reduceAdd, Array.replicate, List.replicate, List.setIfInBounds_toArray, List.set_cons_zero, List.set_cons_succ]
 refine TKB (i := 6) (v := ?vez) rfl ?yez ?rez
 case yez => (intro w hSw; (try dsimp only at hSw); go_simp; try with_reducible rfl)
 simp only [Act.put, List.getElem_toArray, List.getElem_cons_succ, List.getElem_cons_zero, List.size_toArray, List.length_cons, List.length_nil, Nat.reduceAdd, Array.replicate, List.replicate, List.setIfInBounds_toArray, List.set_cons_zero, List.set_cons_succ]
 refine wpAnyH_done (by kernel_rfl) ?_ _
 go_wp2_with fail
 go_ret
 refine ⟨_, rfl, ⟨by show 4 ≤ 9223372036854775807; decide, .inr ⟨w1.heap.size + 1, 0, rfl, (Array.getElem?_eq_some_iff.1 N3.out).1, fun i hi => ?_⟩⟩, G1.out.trans Z3.out⟩
 have hi4 : i < 4 := hi
 obtain rfl | rfl | rfl | rfl : i = 0 ∨ i = 1 ∨ i = 2 ∨ i = 3 := by omega
 all_goals exact ⟨cell_of_row _ _ _ _ _ _ N3.out, cell_of_row _ _ _ _ _ _ N3.out, cell_of_row _ _ _ _ _ _ N3.out⟩
end Go.Proofs.Ytfambadamebjjaa
namespace Go.Proofs.Ytfambadamebjjaa
open Go.RowKit
set_option linter.unusedVariables false
mutual
theorem predC_e (l : List Cl) : ∀ p : Prd, predC l p.e = predC l p
 | .mk k c r v o ls ks _ => by rw [Prd.e, predC, predC, predCs_e l ks]
theorem predCs_e (l : List Cl) : ∀ ps : List Prd, predCs l (Prd.es ps) = predCs l ps
 | [] => rfl
 | x :: r => by rw [Prd.es, predCs, predCs, predC_e l x, predCs_e l r]
end
theorem cat_once : ∀ j, j < 4 → ∀ k, k < j → ((catC.getD k default).n.toList == (catC.getD j default).n.toList) = false := by decide +kernel
theorem cat_right (a : Ptr) : RightG [catT a] := by
 intro i hi
 obtain rfl : i = 0 := by simp at hi; omega
 refine ⟨⟨by decide, by show 1 ≤ 4; decide, by show 4 ≤ 8; decide⟩, ⟨by show nameB ⟨#[116]⟩ = true; decide +kernel, by show (1 : Int) ≤ 1; decide, by show (1 : Int) ≤ (4 : Nat); decide, fun j hj => ?_⟩, ⟨fun j hj => by simp at hj, fun j hj k hk => ?_⟩⟩
 ·have hj4 : j < 4 := hj
  obtain rfl | rfl | rfl | rfl : j = 0 ∨ j = 1 ∨ j = 2 ∨ j = 3 := by omega
  ·exact ⟨by show nameB ⟨#[97]⟩ = true; decide +kernel, by show (2 : Int) = 1 ∨ (2 : Int) = 2 ∨ (2 : Int) = 3; decide, fun _ => rfl⟩
  ·exact ⟨by show nameB ⟨#[98]⟩ = true; decide +kernel, by show (3 : Int) = 1 ∨ (3 : Int) = 2 ∨ (3 : Int) = 3; decide, fun _ => rfl⟩
  ·exact ⟨by show nameB ⟨#[99]⟩ = true; decide +kernel, by show (1 : Int) = 1 ∨ (1 : Int) = 2 ∨ (1 : Int) = 3; decide, fun h => by have : ((2 : Nat) : Int) < 1 := h; omega⟩
  ·exact ⟨by show nameB ⟨#[100]⟩ = true; decide +kernel, by show (2 : Int) = 1 ∨ (2 : Int) = 2 ∨ (2 : Int) = 3; decide, fun h => by have : ((3 : Nat) : Int) < 1 := h; omega⟩
 ·exact cat_once j hj k hk
theorem cat_few (a : Ptr) : fewG [catT a] = true := rfl
theorem able_of {s : ByteArray} {q : Qry} (h : parseL (preA s) = .ok q) (hs : (preA s).size ≤ 1500) (ht : q.table = ⟨#[116]⟩) (hi : q.items.map Itm.e = [⟨0, ⟨#[97]⟩, 0⟩]) (hg : q.group = []) (ho : q.order = []) (hc : predC catC q.cond = 0) (a : Ptr) : Able (preA s) (catT a) := by
 refine ⟨hs, cat_right a, cat_few a, q, h, ht, fun y he => ?_⟩
 have e1 := congrArg Qry.items he
 have e2 := congrArg Qry.group he
 have e3 := congrArg Qry.order he
 have e4 := congrArg Qry.cond he
 simp only [Qry.e, Qm.e] at e1 e2 e3 e4
 rw [hi] at e1
 rw [hg] at e2
 rw [ho] at e3
 refine ⟨fun x hx => ?_, ?_, by simpa using e2, by simpa using e3⟩
 ·have hm := List.mem_map_of_mem (f := Itm.e) hx
  rw [e1] at hm
  have hx2 := List.mem_singleton.1 hm
  have c1 : x.agg = 0 := congrArg Itm.agg hx2
  have c2 : x.col = ⟨#[97]⟩ := congrArg Itm.col hx2
  rw [c1, c2]
  exact ⟨rfl, by show itemC catC 0 ⟨#[97]⟩ = 0; decide +kernel⟩
 ·rw [← predC_e, e4, predC_e]; exact hc
def awA : ByteArray := ⟨#[97, 32, 73, 78, 32, 40, 49, 44, 32, 78, 85, 76, 76, 41]⟩
def awB : ByteArray := ⟨#[78, 79, 84, 32, 97, 32, 73, 78, 32, 40, 49, 44, 32, 78, 85, 76, 76, 41]⟩
def condA : Prd := .mk 5 ⟨#[97]⟩ 0 ⟨0, 0, ⟨#[]⟩⟩ ⟨#[]⟩ [⟨2, 1, ⟨#[]⟩⟩, ⟨0, 0, ⟨#[]⟩⟩] [] 22
def qryA : Qry := ⟨[⟨0, ⟨#[97]⟩, 7⟩], false, ⟨#[116]⟩, condA, [], [], -1⟩
def condB : Prd := .mk 10 ⟨#[]⟩ 0 ⟨0, 0, ⟨#[]⟩⟩ ⟨#[]⟩ [] [.mk 5 ⟨#[97]⟩ 0 ⟨0, 0, ⟨#[]⟩⟩ ⟨#[]⟩ [⟨2, 1, ⟨#[]⟩⟩, ⟨0, 0, ⟨#[]⟩⟩] [] 26] 22
def qryB : Qry := ⟨[⟨0, ⟨#[97]⟩, 7⟩], false, ⟨#[116]⟩, condB, [], [], -1⟩
set_option maxRecDepth 100000 in
theorem parse_awA : parseL (preA awA) = .ok qryA := by kernel_rfl
set_option maxRecDepth 100000 in
theorem parse_awB : parseL (preA awB) = .ok qryB := by kernel_rfl
theorem able_awA (a : Ptr) : Able (preA awA) (catT a) := able_of parse_awA (by decide +kernel) rfl rfl rfl rfl (by decide +kernel) a
theorem able_awB (a : Ptr) : Able (preA awB) (catT a) := able_of parse_awB (by decide +kernel) rfl rfl rfl rfl (by decide +kernel) a
end Go.Proofs.Ytfambadamebjjaa
