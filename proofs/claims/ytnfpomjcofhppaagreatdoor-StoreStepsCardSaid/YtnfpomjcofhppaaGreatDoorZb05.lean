/- The contract of schema's twice where no name comes twice. Trees in memory. The contracts of schema's review and Check at tables that are a catalog. -/
import Derived.Test.YtnfpomjcofhppaaGreatDoorZb04
import Derived.Deep.RegionWith
import Derived.Test.YtnfpomjcofhppaaGreatDoorZb00
import Derived.Deep.AppendLies
import Derived.Maps.AppendAt
namespace Go.Proofs.YtnfpomjcofhppaaGreatDoor
open Go.RowKit

theorem grown_drew6 {w w' : World} {row : Option Nat} (h : w.grownBy w' row) : w.grownBy w'.drew row := ⟨h.os, h.tape, h.output, h.size, h.block⟩
theorem ColsAt.pre {B : Nat} {w : World} {a : Option Addr} {l : List Cl} (h : ColsAt B w a l) {k : Nat} (hk : k ≤ l.length) : ColsAt B w a (l.take k) := by
  refine ⟨by rw [List.length_take]; have := h.1; omega, ?_⟩
  rcases h.2 with h0 | ⟨b, off, e, hlt, hc⟩
  · exact .inl (by rw [h0]; simp)
  · refine .inr ⟨b, off, e, hlt, fun i hi => ?_⟩
    rw [List.length_take] at hi
    have e : (l.take k).getD i default = l.getD i default := by simp [List.getD, show i < k by omega]
    rw [e]
    exact hc i (by omega)
set_option maxRecDepth 100000 in
set_option maxHeartbeats 3200000 in
theorem twice_ok (a ca : Option Addr) (cap ccap : Nat) (ts : List Tb) (l : List Cl) (N : ByteArray) (K : Int) (w : World) (ht : TabsAt w.heap.size w a ts) (h : ColsAt w.heap.size w ca l) (hcap : l.length ≤ ccap)
    (hd : ∀ i, i < ts.length → ((ts.getD i default).n.toList == N.toList) = false) (hu : ∀ i, i < l.length → ∀ j, j < i → ((l.getD j default).n.toList == (l.getD i default).n.toList) = false) :
    Calls Tryz.prog 74 #[.slice a ts.length cap, .agg #[.string N, .slice ca l.length ccap, .int .i64 K]] w fun e w' => e = .returned .nilIface ∧ w.grownBy w' none := by
  have HT : Hid (∀ W, w.grownBy W none → Calls Tryz.prog 87 #[.slice a ts.length cap, .string N] W fun e w' => e = .returned (.int .i64 (-1)) ∧ W.grownBy w' none) := Lib.hid fun W hW => by
    refine (tableOf_any a cap ts N W ((ht.keep hW (by simp)).mono hW.size)).mono ?_
    rintro e w' ⟨⟨r, rfl, hr⟩, hg⟩
    rcases hr with ⟨rfl, _⟩ | ⟨k, rfl, hk, hm, _⟩
    · exact ⟨rfl, hg⟩
    · rw [hd k hk] at hm; cases hm
  have HC : Hid (∀ k, k < l.length → ∀ W, w.grownBy W none → Calls Tryz.prog 88 #[.slice ca k ccap, .string (l.getD k default).n] W fun e w' => e = .returned (.int .i64 (-1)) ∧ W.grownBy w' none) := Lib.hid fun k hk W hW => by
    have hl : (l.take k).length = k := by rw [List.length_take]; omega
    have hc := columnOf_any ca ccap (l.take k) (l.getD k default).n W ((((h.keep hW (by simp)).mono hW.size).pre (by omega)))
    rw [hl] at hc
    refine hc.mono ?_
    rintro e w' ⟨⟨r, rfl, hr⟩, hg⟩
    rcases hr with ⟨rfl, _⟩ | ⟨j, rfl, hj, hm, _⟩
    · exact ⟨rfl, hg⟩
    · rw [hl] at hj
      have e : (l.take k).getD j default = l.getD j default := by simp [List.getD, hj]
      rw [e, hu k hk j hj] at hm; cases hm
  have H := Lib.hid h
  have HB := Lib.hid (box3_new6 w (.string N) (.slice ca l.length ccap) (.int .i64 K) 50)
  have hlen := h.1
  obtain ⟨n, hn⟩ : ∃ n, n = l.length := ⟨_, rfl⟩
  have Hn := Lib.hid hn
  rw [← hn] at hlen HB hcap HC ⊢
  generalize ts.length = tn at *
  clear h hn ht hd hu
  have K0 := Lib.hid (World.grownBy_alloc w (.cells #[.string N, .slice ca n ccap, .int .i64 K] 50) none)
  go_enter Tryz.func74, Tryz.ntmps74
  go_wp2_with fail
  refine (HT.out _ K0.out).mono ?_
  rintro e w1 ⟨rfl, hg⟩
  have K1 := Lib.hid (K0.out.trans hg)
  obtain ⟨g0, g1, g2⟩ := HB.out
  have d1 := hg.cell g1 (by simp)
  have D1 := Lib.hid (fun (W : World) (hW : w1.grownBy W none) => (hg.trans hW).cell g1 (by simp))
  clear hg g0 g1 g2
  go_wp2_with fail
  clear d1
  go_loopw [16] (fun i wr => ∃ (k : Nat), i = .int .i64 k ∧ k ≤ n ∧ Hid (w1.grownBy wr none)) (fun i _ => n - (intOf i).toNat)
  case atStart => exact ⟨0, rfl, by omega, Lib.hid (grown_refl6 _ _)⟩
  case round =>
    obtain ⟨k, rfl, hk, KR⟩ := hrel
    by_cases hlt : k < n
    · obtain ⟨b, off, rfl, _, c0, c1, c2⟩ := (H.out.keep (K1.out.trans KR.out) (by simp)).at (i := k) (by rw [← Hn.out]; exact hlt)
      have HX := Lib.hid (HC.out k hlt)
      generalize l.getD k default = x at *
      obtain ⟨xn, xk, xb⟩ := x
      simp only at c0 c1 c2 HX
      have d1 : ∀ o, (wr.alloc o).cell? ⟨w.heap.size, 1, none⟩ = some (.slice (some ⟨b, off, none⟩) n ccap) := fun o => D1.out _ (KR.out.trans (World.grownBy_alloc wr o none))
      have KA := Lib.hid (fun o => K1.out.trans (KR.out.trans (World.grownBy_alloc wr o none)))
      have KA1 := Lib.hid (fun o => KR.out.trans (World.grownBy_alloc wr o none))
      have j0 : (k : Int) ≤ ccap := by omega
      go_wp2_with fail
      go_region_with (go_at_call 88; (with_reducible refine (HX.out _ (by first | exact KA.out _ | exact grown_drew6 (KA.out _))).mono ?_); rintro e w3 ⟨rfl, hg3⟩; have K3 := Lib.hid hg3)
      all_goals
        go_wp2_with fail
        go_roundw
        case rel => exact ⟨k + 1, by go_num, by omega, Lib.hid ((grown_drew6 (KA1.out _)).trans K3.out)⟩
        case measure => simp [intOf]; omega
    · obtain rfl : k = n := by omega
      go_wp2_with fail
      go_ret
      exact ⟨rfl, K1.out.trans KR.out⟩
end Go.Proofs.YtnfpomjcofhppaaGreatDoor
namespace Go.Proofs.YtnfpomjcofhppaaGreatDoor
open Go.RowKit

abbrev Tre := Tr (List Vl) (List Vl)
theorem grown_reflT (w : World) (row : Option Nat) : w.grownBy w row := ⟨rfl, rfl, rfl, Nat.le_refl _, fun _ _ _ => rfl⟩
theorem grown_drewT {w w' : World} {row : Option Nat} (h : w.grownBy w' row) : w.grownBy w'.drew row := ⟨h.os, h.tape, h.output, h.size, h.block⟩
theorem grown_drewNT {w w' : World} {row : Option Nat} (h : w.grownBy w' row) (n : Nat) : w.grownBy (w'.drewN n) row := ⟨h.os, h.tape, h.output, h.size, h.block⟩
theorem grown_belowT {w w' : World} (h : Below w.heap.size w w') (row : Option Nat) : w.grownBy w' row := ⟨h.os, h.tape, h.output, h.size, fun i hi _ => h.block i hi⟩
theorem below_grownT {w w' : World} (h : w.grownBy w' none) : Below w.heap.size w w' := ⟨h.os, h.tape, h.output, h.size, fun k hk => h.block k hk (by simp)⟩
/-- A row that lies in blocks of S. -/
def RwS (S : Nat → Prop) (w : World) (a : Option Addr) (l : List Vl) : Prop :=
  l.length ≤ 4294967296 ∧ (∀ x ∈ l, x.s.size ≤ maxLen) ∧ (l = [] ∨ ∃ b off, a = some ⟨b, off, none⟩ ∧ S b ∧ b < w.heap.size ∧ ∀ i, i < l.length → w.cell? ⟨b, off + i * 3, none⟩ = some (.int .i64 (l.getD i default).k) ∧ w.cell? ⟨b, off + i * 3 + 1, none⟩ = some (.int .i64 (l.getD i default).n) ∧ w.cell? ⟨b, off + i * 3 + 2, none⟩ = some (.string (l.getD i default).s))
theorem RwS.row {S : Nat → Prop} {w : World} {a : Option Addr} {l : List Vl} (h : RwS S w a l) : RowAt w a l :=
  ⟨by have := h.1; omega, h.2.1, h.2.2.imp id fun ⟨b, off, e, _, hlt, hc⟩ => ⟨b, off, e, hlt, hc⟩⟩
/-- What lies in S stays. -/
def Stays (S : Nat → Prop) (w w' : World) : Prop := w.heap.size ≤ w'.heap.size ∧ ∀ b, S b → b < w.heap.size → w'.heap[b]? = w.heap[b]?
theorem Stays.of {S : Nat → Prop} {w w' : World} (h : w.grownBy w' none) : Stays S w w' := ⟨h.size, fun b _ hb => h.block b hb (by simp)⟩
theorem RwS.keep {S : Nat → Prop} {w w' : World} {a : Option Addr} {l : List Vl} (h : RwS S w a l) (hk : Stays S w w') : RwS S w' a l := by
  refine ⟨h.1, h.2.1, h.2.2.imp id fun ⟨b, off, e, hs, hlt, hc⟩ => ⟨b, off, e, hs, Nat.lt_of_lt_of_le hlt hk.1, fun i hi => ?_⟩⟩
  have hb := hk.2 b hs hlt
  exact ⟨(World.cell?_of_block (a := ⟨b, _, none⟩) hb).trans (hc i hi).1, (World.cell?_of_block (a := ⟨b, _, none⟩) hb).trans (hc i hi).2.1, (World.cell?_of_block (a := ⟨b, _, none⟩) hb).trans (hc i hi).2.2⟩
theorem RwS.mono {S S' : Nat → Prop} {w : World} {a : Option Addr} {l : List Vl} (h : RwS S w a l) (hs : ∀ b, b < w.heap.size → S b → S' b) : RwS S' w a l :=
  ⟨h.1, h.2.1, h.2.2.imp id fun ⟨b, off, e, h1, h2, hc⟩ => ⟨b, off, e, hs b h2 h1, h2, hc⟩⟩
/-- A tree that lies in blocks of S. -/
def TrAt (S : Nat → Prop) (w : World) : Tre → Option Addr → Prop
  | .nil, p => p = none
  | .node l k v r, p => ∃ b ka kc va vc lp rp, p = some ⟨b, 0, none⟩ ∧ S b ∧ b < w.heap.size
      ∧ (w.cell? ⟨b, 0, none⟩ = some (.slice ka k.length kc) ∧ w.cell? ⟨b, 1, none⟩ = some (.slice va v.length vc) ∧ w.cell? ⟨b, 2, none⟩ = some (.pointer lp) ∧ w.cell? ⟨b, 3, none⟩ = some (.pointer rp) ∧ w.cell? ⟨b, 4, none⟩ = some (.int .i64 (Tr.h (.node l k v r) : Nat)) ∧ w.cell? ⟨b, 5, none⟩ = some (.int .i64 (Tr.n (.node l k v r) : Nat)))
      ∧ RwS S w ka k ∧ RwS S w va v ∧ TrAt S w l lp ∧ TrAt S w r rp
theorem TrAt.keep {S : Nat → Prop} {w w' : World} (hk : Stays S w w') : ∀ {t : Tre} {p : Option Addr}, TrAt S w t p → TrAt S w' t p
  | .nil, _, h => h
  | .node _ _ _ _, _, ⟨b, ka, kc, va, vc, lp, rp, e, hs, hb, ⟨c0, c1, c2, c3, c4, c5⟩, h1, h2, h3, h4⟩ => by
    have hbb := hk.2 b hs hb
    have g : ∀ {o : Nat} {x : Value}, w.cell? ⟨b, o, none⟩ = some x → w'.cell? ⟨b, o, none⟩ = some x := fun {o x} h => (World.cell?_of_block (a := ⟨b, o, none⟩) hbb).trans h
    exact ⟨b, ka, kc, va, vc, lp, rp, e, hs, Nat.lt_of_lt_of_le hb hk.1, ⟨g c0, g c1, g c2, g c3, g c4, g c5⟩, h1.keep hk, h2.keep hk, TrAt.keep hk h3, TrAt.keep hk h4⟩
theorem TrAt.mono {S S' : Nat → Prop} {w : World} (hs : ∀ b, b < w.heap.size → S b → S' b) : ∀ {t : Tre} {p : Option Addr}, TrAt S w t p → TrAt S' w t p
  | .nil, _, h => h
  | .node _ _ _ _, _, ⟨b, ka, kc, va, vc, lp, rp, e, hb1, hb, hc, h1, h2, h3, h4⟩ =>
    ⟨b, ka, kc, va, vc, lp, rp, e, hs b hb hb1, hb, hc, h1.mono hs, h2.mono hs, TrAt.mono hs h3, TrAt.mono hs h4⟩
set_option maxHeartbeats 1600000 in
theorem len_any (S : Nat → Prop) (t : Tre) (p : Option Addr) (w : World) (h : TrAt S w t p) :
    Calls Tryz.prog 45 #[.pointer p] w fun e w' => e = .returned (.int .i64 (t.n : Nat)) ∧ w = w' := by
  cases t with
  | nil =>
    obtain rfl : p = none := h
    go_enter Tryz.func45, Tryz.ntmps45
    go_wp2_with fail
    go_ret
    exact ⟨rfl, rfl⟩
  | node l k v r =>
    obtain ⟨b, ka, kc, va, vc, lp, rp, rfl, _, _, ⟨c0, c1, c2, c3, c4, c5⟩, _⟩ := h
    generalize Tr.n (.node l k v r) = n at *
    go_enter Tryz.func45, Tryz.ntmps45
    go_wp2_with fail
    go_ret
    exact ⟨rfl, rfl⟩
set_option maxHeartbeats 1600000 in
theorem height_any (S : Nat → Prop) (t : Tre) (p : Option Addr) (w : World) (h : TrAt S w t p) :
    Calls Tryz.prog 95 #[.pointer p] w fun e w' => e = .returned (.int .i64 (t.h : Nat)) ∧ w = w' := by
  cases t with
  | nil =>
    obtain rfl : p = none := h
    go_enter Tryz.func95, Tryz.ntmps95
    go_wp2_with fail
    go_ret
    exact ⟨rfl, rfl⟩
  | node l k v r =>
    obtain ⟨b, ka, kc, va, vc, lp, rp, rfl, _, _, ⟨c0, c1, c2, c3, c4, c5⟩, _⟩ := h
    generalize Tr.h (.node l k v r) = n at *
    go_enter Tryz.func95, Tryz.ntmps95
    go_wp2_with fail
    go_ret
    exact ⟨rfl, rfl⟩
end Go.Proofs.YtnfpomjcofhppaaGreatDoor
namespace Go.Proofs.YtnfpomjcofhppaaGreatDoor
open Go.RowKit

/-- A table that is right, as the i-th of a list. -/
structure TabGood (l : List Tb) (i : Nat) (t : Tb) : Prop where
  six : i < 6
  one : 1 ≤ t.l.length
  eight : t.l.length ≤ 8
  name : nameB t.n = true
  k1 : 1 ≤ t.k
  k2 : t.k ≤ t.l.length
  cols : ∀ j, j < t.l.length → colGood t.k j (t.l.getD j default)
  apart : ∀ j, j < i → ((l.getD j default).n.toList == t.n.toList) = false
  once : ∀ i, i < t.l.length → ∀ j, j < i → ((t.l.getD j default).n.toList == (t.l.getD i default).n.toList) = false
  room : t.l.length ≤ t.cap
theorem TabsAt.pre {B : Nat} {w : World} {a : Option Addr} {l : List Tb} (h : TabsAt B w a l) {k : Nat} (hk : k ≤ l.length) : TabsAt B w a (l.take k) := by
  refine ⟨by rw [List.length_take]; have := h.1; omega, fun t ht => h.2.1 t (List.mem_of_mem_take ht), ?_⟩
  rcases h.2.2 with h0 | ⟨b, off, e, hlt, hc⟩
  · exact .inl (by rw [h0]; simp)
  · refine .inr ⟨b, off, e, hlt, fun i hi => ?_⟩
    rw [List.length_take] at hi
    have e : (l.take k).getD i default = l.getD i default := by simp [List.getD, show i < k by omega]
    rw [e]
    exact hc i (by omega)
theorem tb_mem {l : List Tb} {i : Nat} (hi : i < l.length) : l.getD i default ∈ l := by simp [List.getD, hi]
set_option maxRecDepth 100000 in
set_option maxHeartbeats 3200000 in
theorem review_ok (a : Option Addr) (cap : Nat) (l : List Tb) (w : World) (h : TabsAt w.heap.size w a l) (hcap : l.length ≤ cap) (hg : ∀ i, i < l.length → TabGood l i (l.getD i default)) :
    Calls Tryz.prog 55 #[.slice a l.length cap] w fun e w' => e = .returned .nilIface ∧ w.grownBy w' none := by
  have HF := Lib.hid (fun k (hk : k < l.length) W => full_ok k (l.getD k default).l.length (l.getD k default).cap (l.getD k default).n (l.getD k default).a (l.getD k default).k W (hg k hk).six (hg k hk).one (hg k hk).eight)
  have HM := Lib.hid (fun k (hk : k < l.length) W (hW : w.grownBy W none) => malformed_ok (l.getD k default).a (l.getD k default).cap (l.getD k default).l (l.getD k default).n (l.getD k default).k W (((h.2.1 _ (tb_mem hk)).keep hW (by simp)).mono hW.size) (hg k hk).name (hg k hk).k1 (hg k hk).k2 (hg k hk).cols)
  have HW : Hid (∀ k, k < l.length → ∀ W, w.grownBy W none → Calls Tryz.prog 74 #[.slice a k cap, .agg #[.string (l.getD k default).n, .slice (l.getD k default).a (l.getD k default).l.length (l.getD k default).cap, .int .i64 (l.getD k default).k]] W fun e w' => e = .returned .nilIface ∧ W.grownBy w' none) := Lib.hid fun k hk W hW => by
    have hl : (l.take k).length = k := by rw [List.length_take]; omega
    have := twice_ok a (l.getD k default).a cap (l.getD k default).cap (l.take k) (l.getD k default).l (l.getD k default).n (l.getD k default).k W (((h.keep hW (by simp)).mono hW.size).pre (by omega)) (((h.2.1 _ (tb_mem hk)).keep hW (by simp)).mono hW.size) (hg k hk).room (fun i hi => by
      rw [hl] at hi
      have e : (l.take k).getD i default = l.getD i default := by simp [List.getD, hi]
      rw [e]; exact (hg k hk).apart i hi) (hg k hk).once
    rw [hl] at this
    exact this
  have H := Lib.hid h
  have hlen := h.1
  obtain ⟨n, hn⟩ : ∃ n, n = l.length := ⟨_, rfl⟩
  have Hn := Lib.hid hn
  rw [← hn] at hlen hcap HF HM HW ⊢
  clear h hg hn
  go_enter Tryz.func55, Tryz.ntmps55
  go_wp2_with fail
  go_loopw [10] (fun i wr => ∃ (k : Nat), i = .int .i64 k ∧ k ≤ n ∧ Hid (w.grownBy wr none)) (fun i _ => n - (intOf i).toNat)
  case atStart => exact ⟨0, rfl, by omega, Lib.hid (grown_refl6 _ _)⟩
  case round =>
    obtain ⟨k, rfl, hk, KR⟩ := hrel
    by_cases hlt : k < n
    · obtain ⟨b, off, rfl, _, c0, c1, c2⟩ := (H.out.keep KR.out (by simp)).at (i := k) (by rw [← Hn.out]; exact hlt)
      have HF1 := Lib.hid (HF.out k hlt)
      have HM1 := Lib.hid (HM.out k hlt)
      have HW1 := Lib.hid (HW.out k hlt)
      generalize l.getD k default = x at *
      obtain ⟨xn, xa, xc, xl, xk⟩ := x
      simp only at c0 c1 c2 HF1 HM1 HW1
      generalize xl.length = xm at *
      have bx := Lib.hid (box3_new6 wr (.string xn) (.slice xa xm xc) (.int .i64 xk) 50)
      have KA := Lib.hid (KR.out.trans (World.grownBy_alloc wr (.cells #[.string xn, .slice xa xm xc, .int .i64 xk] 50) none))
      have j0 : (k : Int) ≤ cap := by omega
      go_wp2_with fail
      refine (HF1.out _).mono ?_
      rintro e w2 ⟨rfl, hg⟩
      have K2 := Lib.hid (KA.out.trans hg)
      have d0 := hg.cell bx.out.1 (by simp)
      have d1 := hg.cell bx.out.2.1 (by simp)
      have d2 := hg.cell bx.out.2.2 (by simp)
      have B2 := Lib.hid (And.intro d0 (And.intro d1 d2))
      clear hg
      go_wp2_with fail
      refine (HM1.out _ K2.out).mono ?_
      rintro e w3 ⟨rfl, hg⟩
      have K3 := Lib.hid (K2.out.trans hg)
      have e0 := hg.cell B2.out.1 (by simp)
      have e1 := hg.cell B2.out.2.1 (by simp)
      have e2 := hg.cell B2.out.2.2 (by simp)
      clear hg d0 d1 d2 c0 c1 c2
      go_wp2_with fail
      go_region_with (go_at_call 74; (with_reducible refine (HW1.out _ (by first | exact K3.out | exact grown_drew6 K3.out)).mono ?_); rintro e w4 ⟨rfl, hg4⟩; have K4 := Lib.hid hg4)
      all_goals
        go_wp2_with fail
        go_roundw
        case rel => exact ⟨k + 1, by go_num, by omega, Lib.hid ((grown_drew6 K3.out).trans K4.out)⟩
        case measure => simp [intOf]; omega
    · obtain rfl : k = n := by omega
      go_wp2_with fail
      go_ret
      exact ⟨rfl, KR.out⟩
set_option maxHeartbeats 1600000 in
theorem as_nil (t : TypeId) (v : Value) (w : World) : Calls Tryz.prog 24 #[.nilIface, .iface t v] w fun e w' => e = .returned (.bool false) ∧ w = w' := by
  go_enter Tryz.func24, Tryz.ntmps24
  go_wp2_with fail
  go_ret
  exact ⟨rfl, rfl⟩
set_option maxHeartbeats 1600000 in
theorem check_ok (a : Option Addr) (cap : Nat) (l : List Tb) (w : World) (h : TabsAt w.heap.size w a l) (hcap : l.length ≤ cap) (hg : ∀ i, i < l.length → TabGood l i (l.getD i default)) :
    Calls Tryz.prog 36 #[.slice a l.length cap] w fun e w' => e = .returned (.tuple #[.int .i64 0, .int .i64 0]) ∧ w.grownBy w' none := by
  have HR := Lib.hid (fun W (hW : w.grownBy W none) => review_ok a cap l W ((h.keep hW (by simp)).mono hW.size) hcap hg)
  have HA := Lib.hid as_nil
  generalize l.length = n at *
  clear h hcap hg
  go_enter Tryz.func36, Tryz.ntmps36
  go_wp2_with fail
  refine (HR.out _ (World.grownBy_alloc _ _ _)).mono ?_
  rintro e w2 ⟨rfl, hg⟩
  have K2 := Lib.hid ((World.grownBy_alloc w _ none).trans hg)
  clear hg
  go_wp2_with fail
  refine (HA.out _ _ _).mono ?_
  rintro e w3 ⟨rfl, rfl⟩
  go_wp2_with fail
  go_ret2
  exact ⟨rfl, K2.out⟩
end Go.Proofs.YtnfpomjcofhppaaGreatDoor
