/- Contracts of schema's fit and Row. -/
import Derived.Test.YtampkmmfkdekaaaDoorSchV
namespace Go.Proofs.YtampkmmfkdekaaaDoor
open Go.RowKit

/-- A row that lies in memory. -/
def VvAt (B : Nat) (w : World) (a : Option Addr) (l : List Vv) : Prop :=
  l.length ≤ 9223372036854775807 ∧ (l = [] ∨ ∃ b off, a = some ⟨b, off, none⟩ ∧ b < B ∧ ∀ i, i < l.length → w.cell? ⟨b, off + i * 3, none⟩ = some (.int .i64 (l.getD i default).k) ∧ w.cell? ⟨b, off + i * 3 + 1, none⟩ = some (.int .i64 (l.getD i default).n) ∧ w.cell? ⟨b, off + i * 3 + 2, none⟩ = some (.string (l.getD i default).s))
theorem VvAt.keep {B : Nat} {w w' : World} {a : Option Addr} {l : List Vv} (h : VvAt B w a l) {row : Option Nat} (hg : w.grownBy w' row) (hr : ∀ k, row = some k → B ≤ k) : VvAt B w' a l := by
  refine ⟨h.1, h.2.imp id fun ⟨b, off, e, hlt, hc⟩ => ⟨b, off, e, hlt, fun i hi => ?_⟩⟩
  have hb : some b ≠ row := fun e => by have := hr b e.symm; omega
  exact ⟨hg.cell (hc i hi).1 hb, hg.cell (hc i hi).2.1 hb, hg.cell (hc i hi).2.2 hb⟩
theorem VvAt.mono {B B' : Nat} {w : World} {a : Option Addr} {l : List Vv} (h : VvAt B w a l) (hB : B ≤ B') : VvAt B' w a l := ⟨h.1, h.2.imp id fun ⟨b, off, e, hlt, hc⟩ => ⟨b, off, e, by omega, hc⟩⟩
theorem VvAt.at {B : Nat} {w : World} {a : Option Addr} {l : List Vv} (h : VvAt B w a l) {i : Nat} (hi : i < l.length) : ∃ b off, a = some ⟨b, off, none⟩ ∧ b < B ∧ w.cell? ⟨b, off + i * 3, none⟩ = some (.int .i64 (l.getD i default).k) ∧ w.cell? ⟨b, off + i * 3 + 1, none⟩ = some (.int .i64 (l.getD i default).n) ∧ w.cell? ⟨b, off + i * 3 + 2, none⟩ = some (.string (l.getD i default).s) := by
  rcases h.2 with h | ⟨b, off, e, hlt, hc⟩
  · rw [h] at hi; simp at hi
  · exact ⟨b, off, e, hlt, hc i hi⟩
/-- Is it a row of these columns? -/
def Fits (l : List Cl) (r : List Vv) : Prop := r.length = l.length ∧ ∀ i, i < l.length → holdsB (l.getD i default) (r.getD i default) = true
set_option maxRecDepth 100000 in
set_option maxHeartbeats 3200000 in
theorem fit_any (a ra : Option Addr) (cap rcap : Nat) (l : List Cl) (r : List Vv) (w : World) (h : ColsAt w.heap.size w a l) (hr : VvAt w.heap.size w ra r) :
    Calls Tryd.prog 12 #[.slice a l.length cap, .slice ra r.length rcap] w fun e w' => ((Fits l r → e = .returned (.int .i64 0)) ∧ (¬ Fits l r → e = .returned (.int .i64 20))) ∧ w.grownBy w' none := by
  by_cases hl : r.length = l.length
  · have H := Lib.hid h
    have HR := Lib.hid hr
    have hlen := h.1
    have hl2 := Lib.hid hl
    obtain ⟨n, hn⟩ : ∃ n, n = l.length := ⟨_, rfl⟩
    have Hn := Lib.hid hn
    rw [hl, ← hn]
    rw [← hn] at hlen
    clear h hr hl hn
    go_enter Tryd.func12, Tryd.ntmps12
    go_wp2_with fail
    go_loopw [14] (fun i wr => ∃ (k : Nat), i = .int .i64 k ∧ k ≤ n ∧ Hid (∀ j, j < k → holdsB (l.getD j default) (r.getD j default) = true) ∧ Hid (w.grownBy wr none)) (fun i _ => n - (intOf i).toNat)
    case atStart => exact ⟨0, rfl, by omega, Lib.hid (fun j hj => by omega), Lib.hid (grown_refl6 _ _)⟩
    case round =>
      obtain ⟨k, rfl, hk, E, KR⟩ := hrel
      by_cases hlt : k < n
      · obtain ⟨b, off, rfl, _, c0, c1, c2⟩ := (H.out.keep KR.out (by simp)).at (i := k) (by rw [← Hn.out]; exact hlt)
        obtain ⟨b2, off2, rfl, hb2, v0, v1, v2⟩ := (HR.out.keep KR.out (by simp)).at (i := k) (by rw [hl2.out, ← Hn.out]; exact hlt)
        obtain ⟨x, hx⟩ : ∃ x, x = l.getD k default := ⟨_, rfl⟩
        obtain ⟨y, hy⟩ : ∃ y, y = r.getD k default := ⟨_, rfl⟩
        rw [← hx] at c0 c1 c2
        rw [← hy] at v0 v1 v2
        have Hx := Lib.hid hx
        have Hy := Lib.hid hy
        have HH := Lib.hid (fun W => holds_any x y W)
        have HB : Hid (∀ (B : Bool), holdsB x y = B → holdsB (l.getD k default) (r.getD k default) = B) := Lib.hid fun B h => by rw [← hx, ← hy]; exact h
        generalize holdsB x y = hb at *
        obtain ⟨xn, xk, xb⟩ := x
        obtain ⟨yk, yn, ys⟩ := y
        simp only at c0 c1 c2 v0 v1 v2 HH
        clear hx hy
        have o0 : ∀ o, (wr.alloc o).cell? ⟨b2, off2 + k * 3, none⟩ = some (.int .i64 yk) := fun o => (World.grownBy_alloc wr o none).cell v0 (by simp)
        have o1 : ∀ o, (wr.alloc o).cell? ⟨b2, off2 + k * 3 + 1, none⟩ = some (.int .i64 yn) := fun o => (World.grownBy_alloc wr o none).cell v1 (by simp)
        have o2 : ∀ o, (wr.alloc o).cell? ⟨b2, off2 + k * 3 + 2, none⟩ = some (.string ys) := fun o => (World.grownBy_alloc wr o none).cell v2 (by simp)
        have KA := Lib.hid (KR.out.trans (World.grownBy_alloc wr (.cells #[.string xn, .int .i64 xk, .bool xb] 39) none))
        cases hb
        · have HB1 := Lib.hid (HB.out false rfl)
          go_wp2_with fail
          go_region_with (go_at_call 16; (with_reducible refine (HH.out _).mono ?_); rintro e w4 ⟨rfl, hg4⟩; have K4 := Lib.hid hg4)
          all_goals
            go_wp2_with fail
            go_ret
            exact ⟨⟨fun hf => by (have := hf.2 k (by rw [← Hn.out]; exact hlt); rw [HB1.out] at this; cases this), fun _ => rfl⟩, (grown_drew6 KA.out).trans K4.out⟩
        · have HB1 := Lib.hid (HB.out true rfl)
          have E2 : Hid (∀ j, j < k + 1 → holdsB (l.getD j default) (r.getD j default) = true) := Lib.hid fun j hj => by
            by_cases e : j = k
            · rw [e]; exact HB1.out
            · exact E.out j (by omega)
          go_wp2_with fail
          go_region_with (go_at_call 16; (with_reducible refine (HH.out _).mono ?_); rintro e w4 ⟨rfl, hg4⟩; have K4 := Lib.hid hg4)
          all_goals
            go_wp2_with fail
            go_roundw
            case rel => exact ⟨k + 1, by go_num, by omega, E2, Lib.hid ((grown_drew6 KA.out).trans K4.out)⟩
            case measure => simp [intOf]; omega
      · obtain rfl : k = n := by omega
        go_wp2_with fail
        go_ret
        exact ⟨⟨fun _ => rfl, fun hf => absurd ⟨hl2.out, by rw [← Hn.out]; exact E.out⟩ hf⟩, KR.out⟩
  · have tt : ((r.length : Int) != (l.length : Int)) = true := by rw [bne_iff_ne]; omega
    have HN := Lib.hid (show ¬ Fits l r from fun h => hl h.1)
    generalize l.length = m at *
    generalize r.length = q at *
    clear h hr hl
    go_enter Tryd.func12, Tryd.ntmps12
    go_wp2_with fail
    go_ret
    exact ⟨⟨fun h => absurd h HN.out, fun _ => rfl⟩, grown_refl6 _ _⟩
set_option maxHeartbeats 1600000 in
theorem row_any6 (N : ByteArray) (K : Int) (a ra : Option Addr) (cap rcap : Nat) (l : List Cl) (r : List Vv) (w : World) (h : ColsAt w.heap.size w a l) (hr : VvAt w.heap.size w ra r) :
    Calls Tryd.prog 7 #[.agg #[.string N, .slice a l.length cap, .int .i64 K], .slice ra r.length rcap] w fun e w' => ((Fits l r → e = .returned (.int .i64 0)) ∧ (¬ Fits l r → e = .returned (.int .i64 20))) ∧ w.grownBy w' none := by
  have HF := Lib.hid (fun W (hW : w.grownBy W none) => fit_any a ra cap rcap l r W ((h.keep hW (by simp)).mono hW.size) ((hr.keep hW (by simp)).mono hW.size))
  generalize l.length = m at *
  generalize r.length = q at *
  clear h hr
  by_cases hf : Fits l r
  · have HF1 := Lib.hid (fun W hW => (HF.out W hW).mono fun e w' h => And.intro (h.1.1 hf) h.2)
    have HP := Lib.hid hf
    clear hf HF
    go_enter Tryd.func7, Tryd.ntmps7
    go_wp2_with fail
    refine (HF1.out _ (World.grownBy_alloc _ _ _)).mono ?_
    rintro e w2 ⟨rfl, hg⟩
    have K2 := Lib.hid ((World.grownBy_alloc w _ none).trans hg)
    clear hg
    go_wp2_with fail
    go_ret
    exact ⟨⟨fun _ => rfl, fun h => absurd HP.out h⟩, K2.out⟩
  · have HF1 := Lib.hid (fun W hW => (HF.out W hW).mono fun e w' h => And.intro (h.1.2 hf) h.2)
    have HP := Lib.hid hf
    clear hf HF
    go_enter Tryd.func7, Tryd.ntmps7
    go_wp2_with fail
    refine (HF1.out _ (World.grownBy_alloc _ _ _)).mono ?_
    rintro e w2 ⟨rfl, hg⟩
    have K2 := Lib.hid ((World.grownBy_alloc w _ none).trans hg)
    clear hg
    go_wp2_with fail
    go_ret
    exact ⟨⟨fun h => absurd h HP.out, fun _ => rfl⟩, K2.out⟩
end Go.Proofs.YtampkmmfkdekaaaDoor
