/- Columns in memory; contracts of slices.IndexFunc at columns and of columnOf. -/
import Derived.Test.YtampkmmfkdekaaaDoorSchF
namespace Go.Proofs.YtampkmmfkdekaaaDoor
open Go.RowKit

/-- A column. -/
structure Cl where
  n : ByteArray
  k : Int
  b : Bool
instance : Inhabited Cl := ⟨⟨⟨#[]⟩, 0, false⟩⟩
/-- A slice of columns that lies in memory. -/
def ColsAt (B : Nat) (w : World) (a : Option Addr) (l : List Cl) : Prop :=
  l.length ≤ 9223372036854775807 ∧ (l = [] ∨ ∃ b off, a = some ⟨b, off, none⟩ ∧ b < B ∧ ∀ i, i < l.length → w.cell? ⟨b, off + i * 3, none⟩ = some (.string (l.getD i default).n) ∧ w.cell? ⟨b, off + i * 3 + 1, none⟩ = some (.int .i64 (l.getD i default).k) ∧ w.cell? ⟨b, off + i * 3 + 2, none⟩ = some (.bool (l.getD i default).b))
theorem ColsAt.keep {B : Nat} {w w' : World} {a : Option Addr} {l : List Cl} (h : ColsAt B w a l) {row : Option Nat} (hg : w.grownBy w' row) (hr : ∀ k, row = some k → B ≤ k) : ColsAt B w' a l := by
  refine ⟨h.1, h.2.imp id fun ⟨b, off, e, hlt, hc⟩ => ⟨b, off, e, hlt, fun i hi => ?_⟩⟩
  have hb : some b ≠ row := fun e => by have := hr b e.symm; omega
  exact ⟨hg.cell (hc i hi).1 hb, hg.cell (hc i hi).2.1 hb, hg.cell (hc i hi).2.2 hb⟩
theorem ColsAt.at {B : Nat} {w : World} {a : Option Addr} {l : List Cl} (h : ColsAt B w a l) {i : Nat} (hi : i < l.length) : ∃ b off, a = some ⟨b, off, none⟩ ∧ b < B ∧ w.cell? ⟨b, off + i * 3, none⟩ = some (.string (l.getD i default).n) ∧ w.cell? ⟨b, off + i * 3 + 1, none⟩ = some (.int .i64 (l.getD i default).k) ∧ w.cell? ⟨b, off + i * 3 + 2, none⟩ = some (.bool (l.getD i default).b) := by
  rcases h.2 with h | ⟨b, off, e, hlt, hc⟩
  · rw [h] at hi; simp at hi
  · exact ⟨b, off, e, hlt, hc i hi⟩
/-- The first column of a name. -/
def colIx (M : ByteArray) (l : List Cl) (k : Nat) : Prop := ∀ i, i < k → ((l.getD i default).n.toList == M.toList) = false
def IxIs (M : ByteArray) (l : List Cl) (r : Int) : Prop := (r = -1 ∧ colIx M l l.length) ∨ (∃ k : Nat, r = k ∧ k < l.length ∧ ((l.getD k default).n.toList == M.toList) = true ∧ colIx M l k)
set_option maxHeartbeats 1600000 in
theorem indexCol_any (a : Option Addr) (cap : Nat) (l : List Cl) (M : ByteArray) (g : Nat) (w : World) (h : ColsAt w.heap.size w a l) (hc : w.cell? ⟨g, 0, none⟩ = some (.string M)) :
    Calls Tryd.prog 36 #[.slice a l.length cap, .func (.func 37) #[] #[.pointer (some ⟨g, 0, none⟩)]] w fun e w' => (∃ r, e = .returned (.int .i64 r) ∧ IxIs M l r) ∧ w.grownBy w' none := by
  have H := Lib.hid h
  have HC := Lib.hid (fun (W : World) (hW : w.grownBy W none) (N : ByteArray) (k : Int) (b : Bool) => colIs_any N M k b g W (hW.cell hc (by simp)))
  have hlen := h.1
  obtain ⟨n, hn⟩ : ∃ n, n = l.length := ⟨_, rfl⟩
  have Hn := Lib.hid hn
  rw [← hn] at hlen ⊢
  clear h hc hn
  go_enter Tryd.func36, Tryd.ntmps36
  go_wp2_with fail
  go_loopw [8] (fun i wr => ∃ (k : Nat), i = .int .i64 k ∧ k ≤ n ∧ Hid (colIx M l k) ∧ Hid (w.grownBy wr none)) (fun i _ => n - (intOf i).toNat)
  case atStart => exact ⟨0, rfl, by omega, Lib.hid (fun i hi => by omega), Lib.hid (grown_refl6 _ _)⟩
  case round =>
    obtain ⟨k, rfl, hk, E, K⟩ := hrel
    by_cases hlt : k < n
    · obtain ⟨b, off, rfl, _, c0, c1, c2⟩ := (H.out.keep K.out (by simp)).at (i := k) (by rw [← Hn.out]; exact hlt)
      obtain ⟨x, hx⟩ : ∃ x, x = l.getD k default := ⟨_, rfl⟩
      rw [← hx] at c0 c1 c2
      have Hx := Lib.hid hx
      obtain ⟨xn, xk, xb⟩ := x
      simp only at c0 c1 c2
      clear hx
      have HC1 := Lib.hid (HC.out wr K.out xn xk xb)
      by_cases hm : (xn.toList == M.toList) = true
      · have HM := Lib.hid (show ((l.getD k default).n.toList == M.toList) = true by rw [← Hx.out]; exact hm)
        rw [hm] at HC1
        clear hm
        go_wp2_with fail
        refine HC1.out.mono ?_
        rintro e w2 ⟨rfl, hg⟩
        have K2 := Lib.hid (K.out.trans hg)
        clear hg
        go_wp2_with fail
        go_ret
        exact ⟨⟨k, rfl, .inr ⟨k, rfl, by rw [← Hn.out]; exact hlt, HM.out, E.out⟩⟩, K2.out⟩
      · have hm' : (xn.toList == M.toList) = false := by simpa using hm
        have E2 : Hid (colIx M l (k + 1)) := Lib.hid fun i hi => by
          by_cases e : i = k
          · rw [e, ← Hx.out]; exact hm'
          · exact E.out i (by omega)
        rw [hm'] at HC1
        clear hm hm'
        go_wp2_with fail
        refine HC1.out.mono ?_
        rintro e w2 ⟨rfl, hg⟩
        have K2 := Lib.hid (K.out.trans hg)
        clear hg
        go_wp2_with fail
        go_roundw
        case rel => exact ⟨k + 1, by go_num, by omega, E2, K2⟩
        case measure => simp [intOf]; omega
    · obtain rfl : k = n := by omega
      go_wp2_with fail
      go_ret
      exact ⟨⟨-1, rfl, .inl ⟨rfl, by rw [← Hn.out]; exact E.out⟩⟩, K.out⟩
set_option maxHeartbeats 1600000 in
theorem columnOf_any (a : Option Addr) (cap : Nat) (l : List Cl) (M : ByteArray) (w : World) (h : ColsAt w.heap.size w a l) :
    Calls Tryd.prog 31 #[.slice a l.length cap, .string M] w fun e w' => (∃ r, e = .returned (.int .i64 r) ∧ IxIs M l r) ∧ w.grownBy w' none := by
  have hb : ∀ T, (w.alloc (.cells #[.string M] T)).cell? ⟨w.heap.size, 0, none⟩ = some (.string M) := fun T => cell_of_row _ _ 0 _ _ _ (heap_alloc_new w _)
  have HI := Lib.hid (fun T => indexCol_any a cap l M w.heap.size (w.alloc (.cells #[.string M] T)) ⟨h.1, (h.keep (World.grownBy_alloc w _ none) (by simp)).2.imp id fun ⟨b, off, e, hlt, hc⟩ => ⟨b, off, e, by simp; omega, hc⟩⟩ (hb T))
  generalize l.length = n at *
  clear h
  go_enter Tryd.func31, Tryd.ntmps31
  go_wp2_with fail
  refine (HI.out _).mono ?_
  rintro e w2 ⟨⟨r, rfl, hr⟩, hg⟩
  have HR := Lib.hid hr
  have K2 := Lib.hid ((World.grownBy_alloc w _ none).trans hg)
  clear hg hr
  go_wp2_with fail
  go_ret
  exact ⟨⟨r, rfl, HR.out⟩, K2.out⟩
end Go.Proofs.YtampkmmfkdekaaaDoor
