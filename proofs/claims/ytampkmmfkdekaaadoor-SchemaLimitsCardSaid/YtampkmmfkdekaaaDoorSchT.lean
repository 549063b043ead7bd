/- Tables in memory; contracts of slices.IndexFunc at tables, of tableOf, and of twice where no name comes twice. -/
import Derived.Test.YtampkmmfkdekaaaDoorSchM
namespace Go.Proofs.YtampkmmfkdekaaaDoor
open Go.RowKit

/-- A table: its name, its columns' slice and what that reads as, its keys. -/
structure Tb where
  n : ByteArray
  a : Option Addr
  cap : Nat
  l : List Cl
  k : Int
instance : Inhabited Tb := ⟨⟨⟨#[]⟩, none, 0, [], 0⟩⟩
def Tb.v (t : Tb) : Value := .agg #[.string t.n, .slice t.a t.l.length t.cap, .int .i64 t.k]
/-- A slice of tables that lies in memory, each with its columns. -/
def TabsAt (B : Nat) (w : World) (a : Option Addr) (l : List Tb) : Prop :=
  l.length ≤ 9223372036854775807 ∧ (∀ t ∈ l, ColsAt B w t.a t.l) ∧ (l = [] ∨ ∃ b off, a = some ⟨b, off, none⟩ ∧ b < B ∧ ∀ i, i < l.length → w.cell? ⟨b, off + i * 3, none⟩ = some (.string (l.getD i default).n) ∧ w.cell? ⟨b, off + i * 3 + 1, none⟩ = some (.slice (l.getD i default).a (l.getD i default).l.length (l.getD i default).cap) ∧ w.cell? ⟨b, off + i * 3 + 2, none⟩ = some (.int .i64 (l.getD i default).k))
theorem TabsAt.keep {B : Nat} {w w' : World} {a : Option Addr} {l : List Tb} (h : TabsAt B w a l) {row : Option Nat} (hg : w.grownBy w' row) (hr : ∀ k, row = some k → B ≤ k) : TabsAt B w' a l := by
  refine ⟨h.1, fun t ht => (h.2.1 t ht).keep hg hr, h.2.2.imp id fun ⟨b, off, e, hlt, hc⟩ => ⟨b, off, e, hlt, fun i hi => ?_⟩⟩
  have hb : some b ≠ row := fun e => by have := hr b e.symm; omega
  exact ⟨hg.cell (hc i hi).1 hb, hg.cell (hc i hi).2.1 hb, hg.cell (hc i hi).2.2 hb⟩
theorem TabsAt.at {B : Nat} {w : World} {a : Option Addr} {l : List Tb} (h : TabsAt B w a l) {i : Nat} (hi : i < l.length) : ∃ b off, a = some ⟨b, off, none⟩ ∧ b < B ∧ w.cell? ⟨b, off + i * 3, none⟩ = some (.string (l.getD i default).n) ∧ w.cell? ⟨b, off + i * 3 + 1, none⟩ = some (.slice (l.getD i default).a (l.getD i default).l.length (l.getD i default).cap) ∧ w.cell? ⟨b, off + i * 3 + 2, none⟩ = some (.int .i64 (l.getD i default).k) := by
  rcases h.2.2 with h | ⟨b, off, e, hlt, hc⟩
  · rw [h] at hi; simp at hi
  · exact ⟨b, off, e, hlt, hc i hi⟩
/-- The closure of tableOf: is it the table's name? -/
theorem tabIs_any (N M : ByteArray) (a : Option Addr) (m cap : Nat) (k : Int) (g : Nat) (w : World) (hc : w.cell? ⟨g, 0, none⟩ = some (.string M)) :
    Calls Tryd.prog 35 #[.agg #[.string N, .slice a m cap, .int .i64 k], .pointer (some ⟨g, 0, none⟩)] w fun e w' => e = .returned (.bool (N.toList == M.toList)) ∧ w.grownBy w' none := by
  have hc2 : ∀ o, (w.alloc o).cell? ⟨g, 0, none⟩ = some (.string M) := fun o => (World.grownBy_alloc w o none).cell hc (by simp)
  go_enter Tryd.func35, Tryd.ntmps35
  go_wp2_with fail
  go_ret
  exact ⟨rfl, World.grownBy_alloc _ _ _⟩
/-- The first table of a name. -/
def tabIx (M : ByteArray) (l : List Tb) (k : Nat) : Prop := ∀ i, i < k → ((l.getD i default).n.toList == M.toList) = false
def TxIs (M : ByteArray) (l : List Tb) (r : Int) : Prop := (r = -1 ∧ tabIx M l l.length) ∨ (∃ k : Nat, r = k ∧ k < l.length ∧ ((l.getD k default).n.toList == M.toList) = true ∧ tabIx M l k)
set_option maxHeartbeats 1600000 in
theorem indexTab_any (a : Option Addr) (cap : Nat) (l : List Tb) (M : ByteArray) (g : Nat) (w : World) (h : TabsAt w.heap.size w a l) (hc : w.cell? ⟨g, 0, none⟩ = some (.string M)) :
    Calls Tryd.prog 34 #[.slice a l.length cap, .func (.func 35) #[] #[.pointer (some ⟨g, 0, none⟩)]] w fun e w' => (∃ r, e = .returned (.int .i64 r) ∧ TxIs M l r) ∧ w.grownBy w' none := by
  have H := Lib.hid h
  have HC := Lib.hid (fun (W : World) (hW : w.grownBy W none) (N : ByteArray) (a : Option Addr) (m cap : Nat) (k : Int) => tabIs_any N M a m cap k g W (hW.cell hc (by simp)))
  have hlen := h.1
  obtain ⟨n, hn⟩ : ∃ n, n = l.length := ⟨_, rfl⟩
  have Hn := Lib.hid hn
  rw [← hn] at hlen ⊢
  clear h hc hn
  go_enter Tryd.func34, Tryd.ntmps34
  go_wp2_with fail
  go_loopw [8] (fun i wr => ∃ (k : Nat), i = .int .i64 k ∧ k ≤ n ∧ Hid (tabIx M l k) ∧ Hid (w.grownBy wr none)) (fun i _ => n - (intOf i).toNat)
  case atStart => exact ⟨0, rfl, by omega, Lib.hid (fun i hi => by omega), Lib.hid (grown_refl6 _ _)⟩
  case round =>
    obtain ⟨k, rfl, hk, E, K⟩ := hrel
    by_cases hlt : k < n
    · obtain ⟨b, off, rfl, _, c0, c1, c2⟩ := (H.out.keep K.out (by simp)).at (i := k) (by rw [← Hn.out]; exact hlt)
      obtain ⟨x, hx⟩ : ∃ x, x = l.getD k default := ⟨_, rfl⟩
      rw [← hx] at c0 c1 c2
      have Hx := Lib.hid hx
      obtain ⟨xn, xa, xc, xl, xk⟩ := x
      generalize hxl : xl.length = xm at *
      simp only at c0 c1 c2
      clear hx
      have HC1 := Lib.hid (HC.out wr K.out xn xa xm xc xk)
      by_cases hm : (xn.toList == M.toList) = true
      · have HM := Lib.hid (show ((l.getD k default).n.toList == M.toList) = true by rw [← Hx.out]; exact hm)
        rw [hm] at HC1
        clear hm
        go_wp2_with fail
        refine HC1.out.mono ?_
        rintro e w2 ⟨rfl, hg⟩
        have K2 := Lib.hid (K.out.trans hg)
        clear hg
        go_wp2_with fail
        go_ret
        exact ⟨⟨k, rfl, .inr ⟨k, rfl, by rw [← Hn.out]; exact hlt, HM.out, E.out⟩⟩, K2.out⟩
      · have hm' : (xn.toList == M.toList) = false := by simpa using hm
        have E2 : Hid (tabIx M l (k + 1)) := Lib.hid fun i hi => by
          by_cases e : i = k
          · rw [e, ← Hx.out]; exact hm'
          · exact E.out i (by omega)
        rw [hm'] at HC1
        clear hm hm'
        go_wp2_with fail
        refine HC1.out.mono ?_
        rintro e w2 ⟨rfl, hg⟩
        have K2 := Lib.hid (K.out.trans hg)
        clear hg
        go_wp2_with fail
        go_roundw
        case rel => exact ⟨k + 1, by go_num, by omega, E2, K2⟩
        case measure => simp [intOf]; omega
    · obtain rfl : k = n := by omega
      go_wp2_with fail
      go_ret
      exact ⟨⟨-1, rfl, .inl ⟨rfl, by rw [← Hn.out]; exact E.out⟩⟩, K.out⟩
theorem ColsAt.mono {B B' : Nat} {w : World} {a : Option Addr} {l : List Cl} (h : ColsAt B w a l) (hB : B ≤ B') : ColsAt B' w a l := ⟨h.1, h.2.imp id fun ⟨b, off, e, hlt, hc⟩ => ⟨b, off, e, by omega, hc⟩⟩
theorem TabsAt.mono {B B' : Nat} {w : World} {a : Option Addr} {l : List Tb} (h : TabsAt B w a l) (hB : B ≤ B') : TabsAt B' w a l := ⟨h.1, fun t ht => (h.2.1 t ht).mono hB, h.2.2.imp id fun ⟨b, off, e, hlt, hc⟩ => ⟨b, off, e, by omega, hc⟩⟩
set_option maxHeartbeats 1600000 in
theorem tableOf_any (a : Option Addr) (cap : Nat) (l : List Tb) (M : ByteArray) (w : World) (h : TabsAt w.heap.size w a l) :
    Calls Tryd.prog 30 #[.slice a l.length cap, .string M] w fun e w' => (∃ r, e = .returned (.int .i64 r) ∧ TxIs M l r) ∧ w.grownBy w' none := by
  have hb : ∀ T, (w.alloc (.cells #[.string M] T)).cell? ⟨w.heap.size, 0, none⟩ = some (.string M) := fun T => cell_of_row _ _ 0 _ _ _ (heap_alloc_new w _)
  have HI := Lib.hid (fun T => indexTab_any a cap l M w.heap.size (w.alloc (.cells #[.string M] T)) ((h.keep (World.grownBy_alloc w _ none) (by simp)).mono (by simp)) (hb T))
  generalize l.length = n at *
  clear h
  go_enter Tryd.func30, Tryd.ntmps30
  go_wp2_with fail
  refine (HI.out _).mono ?_
  rintro e w2 ⟨⟨r, rfl, hr⟩, hg⟩
  have HR := Lib.hid hr
  have K2 := Lib.hid ((World.grownBy_alloc w _ none).trans hg)
  clear hg hr
  go_wp2_with fail
  go_ret
  exact ⟨⟨r, rfl, HR.out⟩, K2.out⟩
end Go.Proofs.YtampkmmfkdekaaaDoor
