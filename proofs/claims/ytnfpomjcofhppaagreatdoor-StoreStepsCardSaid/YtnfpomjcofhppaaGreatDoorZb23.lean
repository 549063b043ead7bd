/- An act done to both. Acts in memory; Fits. Catalogs in memory; what the store's number answers. -/
import Derived.Test.YtnfpomjcofhppaaGreatDoorZb22
import Derived.Deep.RegionWith
import Derived.Deep.RegionHeld3
import Derived.Test.YtnfpomjcofhppaaGreatDoorZb07
namespace Go.Proofs.YtnfpomjcofhppaaGreatDoor
open Go.RowKit

/-- What an act makes of both. -/
def Done (S S2 : Nat → Prop) (d : Bool) (K R : Rw) (t : Tre) (l : List Pw) (W : World) (q a' : Ptr) (cap' : Nat) : Prop := (doP d K R l).length ≤ cap' ∧ TrAt S W (doT d K R t) q ∧ PsS S2 W a' (doP d K R l)
end Go.Proofs.YtnfpomjcofhppaaGreatDoor
namespace Go.Proofs.YtnfpomjcofhppaaGreatDoor
open Go.RowKit

structure Aw where
  d : Bool
  k : Rw
  r : Rw
instance : Inhabited Aw := ⟨⟨false, default, default⟩⟩
/-- A slice of acts in memory. -/
def AcAt (w : World) (a : Ptr) (l : List Aw) : Prop :=
  l.length ≤ 9223372036854775807 ∧ (∀ x ∈ l, RowAt w x.k.a x.k.l ∧ RowAt w x.r.a x.r.l) ∧ (l = [] ∨ ∃ b off, a = some ⟨b, off, none⟩ ∧ b < w.heap.size ∧ ∀ i, i < l.length → w.cell? ⟨b, off + i * 3, none⟩ = some (.bool (l.getD i default).d) ∧ w.cell? ⟨b, off + i * 3 + 1, none⟩ = some (l.getD i default).k.v ∧ w.cell? ⟨b, off + i * 3 + 2, none⟩ = some (l.getD i default).r.v)
theorem AcAt.keep {w w' : World} {a : Ptr} {l : List Aw} (h : AcAt w a l) (hg : Below w.heap.size w w') : AcAt w' a l := by
  refine ⟨h.1, fun x hx => ⟨(h.2.1 x hx).1.keep hg, (h.2.1 x hx).2.keep hg⟩, h.2.2.imp id fun ⟨b, off, e, hlt, hc⟩ => ⟨b, off, e, Nat.lt_of_lt_of_le hlt hg.size, fun i hi => ?_⟩⟩
  exact ⟨(hg.cell (p := ⟨b, _, none⟩) hlt).trans (hc i hi).1, (hg.cell (p := ⟨b, _, none⟩) hlt).trans (hc i hi).2.1, (hg.cell (p := ⟨b, _, none⟩) hlt).trans (hc i hi).2.2⟩
theorem AcAt.at {w : World} {a : Ptr} {l : List Aw} (h : AcAt w a l) {i : Nat} (hi : i < l.length) : (∃ b off, a = some ⟨b, off, none⟩ ∧ w.cell? ⟨b, off + i * 3, none⟩ = some (.bool (l.getD i default).d) ∧ w.cell? ⟨b, off + i * 3 + 1, none⟩ = some (l.getD i default).k.v ∧ w.cell? ⟨b, off + i * 3 + 2, none⟩ = some (l.getD i default).r.v) ∧ RowAt w (l.getD i default).k.a (l.getD i default).k.l ∧ RowAt w (l.getD i default).r.a (l.getD i default).r.l := by
  refine ⟨?_, h.2.1 _ (by simp [List.getD, hi])⟩
  rcases h.2.2 with h0 | ⟨b, off, e, _, hc⟩
  · rw [h0] at hi; simp at hi
  · exact ⟨b, off, e, hc i hi⟩
theorem RowAt.rws {w : World} {a : Ptr} {l : List Vl} (h : RowAt w a l) (hl : l.length ≤ 10) : RwS (fun _ => True) w a l :=
  ⟨by omega, h.2.1, h.2.2.imp id fun ⟨b, off, e, hlt, hc⟩ => ⟨b, off, e, trivial, hlt, hc⟩⟩
def fitA (x : Aw) : Prop := x.k.l.length ≤ 10 ∧ x.r.l.length ≤ 10 ∧ x.k.l.all Vl.good = true ∧ x.r.l.all Vl.good = true ∧ (x.d = false → x.r.l.length ≠ 0)
theorem take_atA {D : List Aw} {j : Nat} (h : j < D.length) : D.take (j + 1) = D.take j ++ [D.getD j default] := by
  rw [List.take_succ_eq_append_getElem h]; simp [List.getD, h]
def FitsB (l : List Aw) (b : Bool) : Prop := b = true → l.length ≤ 200 ∧ ∀ x ∈ l, fitA x
def SaysFit (l : List Aw) (w : World) (e : Ending) (w' : World) : Prop := (∃ b, e = .returned (.bool b) ∧ FitsB l b) ∧ w.grownBy w' none
theorem says_fit {l : List Aw} {w w' : World} {b : Bool} (hb : FitsB l b) (hg : w.grownBy w' none) : SaysFit l w (.returned (.bool b)) w' := ⟨⟨b, rfl, hb⟩, hg⟩
theorem says_no {l : List Aw} {w w' : World} (hg : w.grownBy w' none) : SaysFit l w (.returned (.bool false)) w' := says_fit (fun h => by cases h) hg
end Go.Proofs.YtnfpomjcofhppaaGreatDoor
namespace Go.Proofs.YtnfpomjcofhppaaGreatDoor
open Go.RowKit

/-- Columns in blocks of S. -/
def ClsS (S : Nat → Prop) (w : World) (a : Option Addr) (l : List Cl) : Prop :=
  l.length ≤ 9223372036854775807 ∧ (l = [] ∨ ∃ b off, a = some ⟨b, off, none⟩ ∧ S b ∧ b < w.heap.size ∧ ∀ i, i < l.length → w.cell? ⟨b, off + i * 3, none⟩ = some (.string (l.getD i default).n) ∧ w.cell? ⟨b, off + i * 3 + 1, none⟩ = some (.int .i64 (l.getD i default).k) ∧ w.cell? ⟨b, off + i * 3 + 2, none⟩ = some (.bool (l.getD i default).b))
theorem ClsS.cols {S : Nat → Prop} {w : World} {a : Option Addr} {l : List Cl} (h : ClsS S w a l) : ColsAt w.heap.size w a l := ⟨h.1, h.2.imp id fun ⟨b, off, e, _, hlt, hc⟩ => ⟨b, off, e, hlt, hc⟩⟩
theorem ClsS.of {w : World} {a : Option Addr} {l : List Cl} (h : ColsAt w.heap.size w a l) : ClsS (fun _ => True) w a l := ⟨h.1, h.2.imp id fun ⟨b, off, e, hlt, hc⟩ => ⟨b, off, e, trivial, hlt, hc⟩⟩
theorem ClsS.keep {S : Nat → Prop} {w w' : World} {a : Option Addr} {l : List Cl} (h : ClsS S w a l) (hk : Stays S w w') : ClsS S w' a l := by
  refine ⟨h.1, h.2.imp id fun ⟨b, off, e, hs, hlt, hc⟩ => ⟨b, off, e, hs, Nat.lt_of_lt_of_le hlt hk.1, fun i hi => ?_⟩⟩
  have hb := hk.2 b hs hlt
  exact ⟨(World.cell?_of_block (a := ⟨b, _, none⟩) hb).trans (hc i hi).1, (World.cell?_of_block (a := ⟨b, _, none⟩) hb).trans (hc i hi).2.1, (World.cell?_of_block (a := ⟨b, _, none⟩) hb).trans (hc i hi).2.2⟩
theorem ClsS.mono {S S' : Nat → Prop} {w : World} {a : Option Addr} {l : List Cl} (h : ClsS S w a l) (hs : ∀ b, b < w.heap.size → S b → S' b) : ClsS S' w a l :=
  ⟨h.1, h.2.imp id fun ⟨b, off, e, h1, h2, hc⟩ => ⟨b, off, e, hs b h2 h1, h2, hc⟩⟩
/-- Tables, with their columns, in blocks of S. -/
def TbsS (S : Nat → Prop) (w : World) (a : Option Addr) (l : List Tb) : Prop :=
  l.length ≤ 9223372036854775807 ∧ (∀ t ∈ l, ClsS S w t.a t.l) ∧ (l = [] ∨ ∃ b off, a = some ⟨b, off, none⟩ ∧ S b ∧ b < w.heap.size ∧ ∀ i, i < l.length → w.cell? ⟨b, off + i * 3, none⟩ = some (.string (l.getD i default).n) ∧ w.cell? ⟨b, off + i * 3 + 1, none⟩ = some (.slice (l.getD i default).a (l.getD i default).l.length (l.getD i default).cap) ∧ w.cell? ⟨b, off + i * 3 + 2, none⟩ = some (.int .i64 (l.getD i default).k))
theorem TbsS.tabs {S : Nat → Prop} {w : World} {a : Option Addr} {l : List Tb} (h : TbsS S w a l) : TabsAt w.heap.size w a l := ⟨h.1, fun t ht => (h.2.1 t ht).cols, h.2.2.imp id fun ⟨b, off, e, _, hlt, hc⟩ => ⟨b, off, e, hlt, hc⟩⟩
theorem TbsS.of {w : World} {a : Option Addr} {l : List Tb} (h : TabsAt w.heap.size w a l) : TbsS (fun _ => True) w a l := ⟨h.1, fun t ht => .of (h.2.1 t ht), h.2.2.imp id fun ⟨b, off, e, hlt, hc⟩ => ⟨b, off, e, trivial, hlt, hc⟩⟩
theorem TbsS.keep {S : Nat → Prop} {w w' : World} {a : Option Addr} {l : List Tb} (h : TbsS S w a l) (hk : Stays S w w') : TbsS S w' a l := by
  refine ⟨h.1, fun t ht => (h.2.1 t ht).keep hk, h.2.2.imp id fun ⟨b, off, e, hs, hlt, hc⟩ => ⟨b, off, e, hs, Nat.lt_of_lt_of_le hlt hk.1, fun i hi => ?_⟩⟩
  have hb := hk.2 b hs hlt
  exact ⟨(World.cell?_of_block (a := ⟨b, _, none⟩) hb).trans (hc i hi).1, (World.cell?_of_block (a := ⟨b, _, none⟩) hb).trans (hc i hi).2.1, (World.cell?_of_block (a := ⟨b, _, none⟩) hb).trans (hc i hi).2.2⟩
theorem TbsS.mono {S S' : Nat → Prop} {w : World} {a : Option Addr} {l : List Tb} (h : TbsS S w a l) (hs : ∀ b, b < w.heap.size → S b → S' b) : TbsS S' w a l :=
  ⟨h.1, fun t ht => (h.2.1 t ht).mono hs, h.2.2.imp id fun ⟨b, off, e, h1, h2, hc⟩ => ⟨b, off, e, hs b h2 h1, h2, hc⟩⟩
theorem TbsS.at {S : Nat → Prop} {w : World} {a : Option Addr} {l : List Tb} (h : TbsS S w a l) {i : Nat} (hi : i < l.length) : ∃ b off, a = some ⟨b, off, none⟩ ∧ b < w.heap.size ∧ w.cell? ⟨b, off + i * 3, none⟩ = some (.string (l.getD i default).n) ∧ w.cell? ⟨b, off + i * 3 + 1, none⟩ = some (.slice (l.getD i default).a (l.getD i default).l.length (l.getD i default).cap) ∧ w.cell? ⟨b, off + i * 3 + 2, none⟩ = some (.int .i64 (l.getD i default).k) := by
  rcases h.2.2 with h0 | ⟨b, off, e, _, hlt, hc⟩
  · rw [h0] at hi; simp at hi
  · exact ⟨b, off, e, hlt, hc i hi⟩
/-- The closure of number: is it the table's name? -/
theorem numIs_any (N M : ByteArray) (a : Option Addr) (m cap : Nat) (k : Int) (g : Nat) (w : World) (hc : w.cell? ⟨g, 0, none⟩ = some (.string M)) :
    Calls Tryz.prog 51 #[.agg #[.string N, .slice a m cap, .int .i64 k], .pointer (some ⟨g, 0, none⟩)] w fun e w' => e = .returned (.bool (N.toList == M.toList)) ∧ w.grownBy w' none := by
  have hc2 : ∀ o, (w.alloc o).cell? ⟨g, 0, none⟩ = some (.string M) := fun o => (World.grownBy_alloc w o none).cell hc (by simp)
  go_enter Tryz.func51, Tryz.ntmps51
  go_wp2_with fail
  go_ret
  exact ⟨rfl, World.grownBy_alloc _ _ _⟩
set_option maxHeartbeats 1600000 in
theorem indexNum_any (a : Option Addr) (cap : Nat) (l : List Tb) (M : ByteArray) (g : Nat) (w : World) (h : TabsAt w.heap.size w a l) (hc : w.cell? ⟨g, 0, none⟩ = some (.string M)) :
    Calls Tryz.prog 50 #[.slice a l.length cap, .func (.func 51) #[] #[.pointer (some ⟨g, 0, none⟩)]] w fun e w' => (∃ r, e = .returned (.int .i64 r) ∧ TxIs M l r) ∧ w.grownBy w' none := by
  have H := Lib.hid h
  have HC := Lib.hid (fun (W : World) (hW : w.grownBy W none) (N : ByteArray) (a : Option Addr) (m cap : Nat) (k : Int) => numIs_any N M a m cap k g W (hW.cell hc (by simp)))
  have hlen := h.1
  obtain ⟨n, hn⟩ : ∃ n, n = l.length := ⟨_, rfl⟩
  have Hn := Lib.hid hn
  rw [← hn] at hlen ⊢
  clear h hc hn
  go_enter Tryz.func50, Tryz.ntmps50
  go_wp2_with fail
  go_loopw [8] (fun i wr => ∃ (k : Nat), i = .int .i64 k ∧ k ≤ n ∧ Hid (tabIx M l k) ∧ Hid (w.grownBy wr none)) (fun i _ => n - (intOf i).toNat)
  case atStart => exact ⟨0, rfl, by omega, Lib.hid (fun i hi => by omega), Lib.hid (grown_refl6 _ _)⟩
  case round =>
    obtain ⟨k, rfl, hk, E, K⟩ := hrel
    by_cases hlt : k < n
    · obtain ⟨b, off, rfl, _, c0, c1, c2⟩ := (H.out.keep K.out (by simp)).at (i := k) (by rw [← Hn.out]; exact hlt)
      obtain ⟨x, hx⟩ : ∃ x, x = l.getD k default := ⟨_, rfl⟩
      rw [← hx] at c0 c1 c2
      have Hx := Lib.hid hx
      obtain ⟨xn, xa, xc, xl, xk⟩ := x
      generalize hxl : xl.length = xm at *
      simp only at c0 c1 c2
      clear hx
      have HC1 := Lib.hid (HC.out wr K.out xn xa xm xc xk)
      by_cases hm : (xn.toList == M.toList) = true
      · have HM := Lib.hid (show ((l.getD k default).n.toList == M.toList) = true by rw [← Hx.out]; exact hm)
        rw [hm] at HC1
        clear hm
        go_wp2_with fail
        refine HC1.out.mono ?_
        rintro e w2 ⟨rfl, hg⟩
        have K2 := Lib.hid (K.out.trans hg)
        clear hg
        go_wp2_with fail
        go_ret
        exact ⟨⟨k, rfl, .inr ⟨k, rfl, by rw [← Hn.out]; exact hlt, HM.out, E.out⟩⟩, K2.out⟩
      · have hm' : (xn.toList == M.toList) = false := by simpa using hm
        have E2 : Hid (tabIx M l (k + 1)) := Lib.hid fun i hi => by
          by_cases e : i = k
          · rw [e, ← Hx.out]; exact hm'
          · exact E.out i (by omega)
        rw [hm'] at HC1
        clear hm hm'
        go_wp2_with fail
        refine HC1.out.mono ?_
        rintro e w2 ⟨rfl, hg⟩
        have K2 := Lib.hid (K.out.trans hg)
        clear hg
        go_wp2_with fail
        go_roundw
        case rel => exact ⟨k + 1, by go_num, by omega, E2, K2⟩
        case measure => simp [intOf]; omega
    · obtain rfl : k = n := by omega
      go_wp2_with fail
      go_ret
      exact ⟨⟨-1, rfl, .inl ⟨rfl, by rw [← Hn.out]; exact E.out⟩⟩, K.out⟩
set_option maxHeartbeats 1600000 in
theorem number_any (S : Nat → Prop) (b : Nat) (a : Option Addr) (cap : Nat) (l : List Tb) (M : ByteArray) (w : World) (h : TbsS S w a l) (hc : w.cell? ⟨b, 0, none⟩ = some (.slice a l.length cap)) :
    Calls Tryz.prog 30 #[.pointer (some ⟨b, 0, none⟩), .string M] w fun e w' => (∃ r, e = .returned (.int .i64 r) ∧ TxIs M l r) ∧ w.grownBy w' none := by
  have hb : ∀ T, (w.alloc (.cells #[.string M] T)).cell? ⟨w.heap.size, 0, none⟩ = some (.string M) := fun T => cell_of_row _ _ 0 _ _ _ (heap_alloc_new w _)
  have HI := Lib.hid (fun T => indexNum_any a cap l M w.heap.size (w.alloc (.cells #[.string M] T)) (h.keep (.of (World.grownBy_alloc w _ none))).tabs (hb T))
  have hc2 : ∀ o, (w.alloc o).cell? ⟨b, 0, none⟩ = some (.slice a l.length cap) := fun o => (World.grownBy_alloc w o none).cell hc (by simp)
  generalize l.length = n at *
  clear h hc hb
  go_enter Tryz.func30, Tryz.ntmps30
  go_wp2_with fail
  refine (HI.out _).mono ?_
  rintro e w2 ⟨⟨r, rfl, hr⟩, hg⟩
  have HR := Lib.hid hr
  have K2 := Lib.hid ((World.grownBy_alloc w _ none).trans hg)
  clear hg hr
  go_wp2_with fail
  go_ret
  exact ⟨⟨r, rfl, HR.out⟩, K2.out⟩
end Go.Proofs.YtnfpomjcofhppaaGreatDoor
