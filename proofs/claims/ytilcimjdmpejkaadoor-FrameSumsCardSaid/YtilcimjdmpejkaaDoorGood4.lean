/- The contract of the law's good: rows of good values, not too long. -/
import Derived.Test.YtilcimjdmpejkaaDoorSame4
namespace Go.Proofs.YtilcimjdmpejkaaDoor
open Go.RowKit

/-- A row in memory: where, how many it may hold, its values. -/
structure Rw where
  a : Option Addr
  cap : Nat
  l : List Vl
instance : Inhabited Rw := ⟨⟨none, 0, []⟩⟩
def Rw.okR (r : Rw) : Bool := decide (r.l.length ≤ 255) && r.l.all Vl.good
/-- A slice of rows that reads as ls in w, all of it below B. -/
def RowsLow (B : Nat) (w : World) (a : Option Addr) (ls : List Rw) : Prop :=
  ls.length ≤ 9223372036854775807 ∧ (∀ r ∈ ls, RowLow B w r.a r.l) ∧ (ls = [] ∨ ∃ b off, a = some ⟨b, off, none⟩ ∧ b < B ∧ ∀ i, i < ls.length → w.cell? ⟨b, off + i, none⟩ = some (.slice (ls.getD i default).a (ls.getD i default).l.length (ls.getD i default).cap))
theorem RowsLow.keep {B : Nat} {w w' : World} {a : Option Addr} {ls : List Rw} (h : RowsLow B w a ls) (hb : Below B w w') : RowsLow B w' a ls := by
  obtain ⟨h1, h2, h3⟩ := h
  refine ⟨h1, fun r hr => (h2 r hr).keep hb, ?_⟩
  rcases h3 with h3 | ⟨b, off, e, hlt, hc⟩
  · exact .inl h3
  · exact .inr ⟨b, off, e, hlt, fun i hi => (hb.cell (p := ⟨b, _, none⟩) hlt).trans (hc i hi)⟩
theorem RowsLow.at {B : Nat} {w : World} {a : Option Addr} {ls : List Rw} (h : RowsLow B w a ls) {i : Nat} (hi : i < ls.length) : ∃ b off, a = some ⟨b, off, none⟩ ∧ b < B ∧ w.cell? ⟨b, off + i, none⟩ = some (.slice (ls.getD i default).a (ls.getD i default).l.length (ls.getD i default).cap) := by
  rcases h.2.2 with h3 | ⟨b, off, e, hlt, hc⟩
  · rw [h3] at hi; simp at hi
  · exact ⟨b, off, e, hlt, hc i hi⟩
theorem rw_mem {ls : List Rw} {i : Nat} (hi : i < ls.length) : ls.getD i default ∈ ls := by simp [List.getD, hi]
theorem rw_stop {l : List Rw} {k : Nat} (h : k < l.length) (hf : (l.getD k default).okR = false) : l.all Rw.okR = false := by
  rw [List.all_eq_false]
  exact ⟨l.getD k default, rw_mem h, by rw [hf]; simp⟩
theorem rw_go {l : List Rw} {k : Nat} (h : k < l.length) (ha : (l.take k).all Rw.okR = true) (hf : (l.getD k default).okR = true) : (l.take (k + 1)).all Rw.okR = true := by
  rw [List.take_succ_eq_append_getElem h, List.all_append, ha]
  simp only [List.getD, List.getElem?_eq_getElem h, Option.getD_some] at hf
  simp [hf]

set_option maxRecDepth 100000 in
set_option maxHeartbeats 3200000 in
theorem good_any (a : Option Addr) (cap : Nat) (ls : List Rw) (w : World) (h : RowsLow w.heap.size w a ls) :
    Calls Tryd.prog 32 #[.slice a ls.length cap] w fun e w' => e = .returned (.bool (ls.all Rw.okR && decide (ls.length ≤ 1000))) ∧ Below w.heap.size w w' := by
  have hm := h.1
  have H := Lib.hid h
  clear h
  generalize hlen : ls.length = len at *
  have Hlen := Lib.hid hlen
  clear hlen
  go_enter Tryd.func32, Tryd.ntmps32
  go_wp2_with fail
  go_loopw [7] (fun i wr => ∃ k : Nat, k ≤ len ∧ i = .int .i64 k ∧ Hid ((ls.take k).all Rw.okR = true) ∧ Hid (Below w.heap.size w wr)) (fun i _ => len - (intOf i).toNat)
  case atStart => exact ⟨0, Nat.zero_le _, rfl, Lib.hid rfl, Lib.hid (Below.refl _ _)⟩
  case round =>
    obtain ⟨k, hk, rfl, hall, K⟩ := hrel
    by_cases hlt : k < len
    · obtain ⟨b, off, rfl, hbs, c0⟩ := (H.out.keep K.out).at (i := k) (by rw [Hlen.out]; exact hlt)
      have HR := Lib.hid (((H.out.keep K.out).2.1 _ (rw_mem (ls := ls) (i := k) (by rw [Hlen.out]; exact hlt))).mono K.out.size)
      have HS := Lib.hid (rw_stop (l := ls) (k := k) (by rw [Hlen.out]; exact hlt))
      have HG := Lib.hid (rw_go (l := ls) (k := k) (by rw [Hlen.out]; exact hlt) hall.out)
      generalize ls.getD k default = r at *
      obtain ⟨ra, rc, rl⟩ := r
      simp only at HR c0
      by_cases h255 : rl.length ≤ 255
      · have h255' : (rl.length : Int) ≤ 255 := by omega
        cases hg : rl.all Vl.good
        · have HC : Hid (Calls Tryd.prog 67 #[.slice ra rl.length rc] wr fun e w' => e = .returned (.bool false) ∧ Below wr.heap.size wr w') := Lib.hid (hg ▸ goodRow_any ra rc rl wr HR.out)
          have HE : Hid (ls.all Rw.okR = false) := Lib.hid (HS.out (by unfold Rw.okR; simp only; rw [hg]; simp))
          clear hg HS HG HR
          generalize rl.length = n at *
          go_wp2_with fail
          refine HC.out.mono ?_
          rintro e w1 ⟨rfl, hb⟩
          have K2 := Lib.hid (K.out.trans (hb.mono K.out.size))
          clear hb
          go_wp2_with fail
          go_ret
          exact ⟨ret_bool (by rw [HE.out]; rfl), K2.out⟩
        · have HC : Hid (Calls Tryd.prog 67 #[.slice ra rl.length rc] wr fun e w' => e = .returned (.bool true) ∧ Below wr.heap.size wr w') := Lib.hid (hg ▸ goodRow_any ra rc rl wr HR.out)
          have HE : Hid ((ls.take (k + 1)).all Rw.okR = true) := Lib.hid (HG.out (by unfold Rw.okR; simp only; rw [hg, decide_eq_true h255]; rfl))
          clear hg HS HG HR
          generalize rl.length = n at *
          go_wp2_with fail
          refine HC.out.mono ?_
          rintro e w1 ⟨rfl, hb⟩
          have K2 := Lib.hid (K.out.trans (hb.mono K.out.size))
          clear hb
          go_wp2_with fail
          go_roundw
          case rel => exact ⟨k + 1, by omega, by go_num, HE, K2⟩
          case measure => simp [intOf]; omega
      · have h255' : (255 : Int) < (rl.length : Int) := by omega
        have HE : Hid (ls.all Rw.okR = false) := Lib.hid (HS.out (by unfold Rw.okR; simp only; rw [decide_eq_false h255]; rfl))
        clear HS HG HR
        generalize rl.length = n at *
        go_wp2_with fail
        go_ret
        exact ⟨ret_bool (by rw [HE.out]; rfl), K.out⟩
    · obtain rfl : k = len := by omega
      have HE : Hid (ls.all Rw.okR = true) := Lib.hid (by have := hall.out; rwa [List.take_of_length_le (by rw [Hlen.out]; exact Nat.le_refl _)] at this)
      go_wp2_with fail
      go_ret
      exact ⟨ret_bool (by rw [HE.out, Bool.true_and]; exact decide_eq_decide.2 (by omega)), K.out⟩
end Go.Proofs.YtilcimjdmpejkaaDoor
