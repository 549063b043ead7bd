/- Truths: the contracts of what joins and turns them, the program's and the document's. Memory stays as it was. -/
import Derived.Test.YtmgddieadehmeaaGood
import Derived.Lib.Hide
import Derived.Deep.RegionHeld3
import Derived.Deep.RegionWith
import Derived.Deep.QuietTactic
import Derived.BigQuiet
namespace Go.Proofs.Ytmgddieadehmeaa
open Go.RowKit

/-- The other truth. -/
def notT (a : Int) : Int := if a = 0 then 1 else if a = 1 then 0 else 2
/-- Is it a truth? -/
def isT (a : Int) : Prop := a = 0 ∨ a = 1 ∨ a = 2
/-- What a list of truths comes to: d, if one is; else Unknown, if one is; else r. -/
def joinT (d r : Int) (l : List Int) : Int := if d ∈ l then d else if 2 ∈ l then 2 else r

/-- The slice at a of len ints reads as l in w: nil and empty, or a row of cells that was there. -/
def IntsAt (k : IntKind) (w : World) (a : Option Addr) (l : List Int) : Prop :=
  l.length ≤ 9223372036854775807 ∧ (l = [] ∨ ∃ b off, a = some ⟨b, off, none⟩ ∧ b < w.heap.size ∧ ∀ i, i < l.length → w.cell? ⟨b, off + i, none⟩ = some (.int k (l.getD i 0)))
theorem IntsAt.keep {k : IntKind} {w w' : World} {a : Option Addr} {l : List Int} (h : IntsAt k w a l) (hb : Below w.heap.size w w') : IntsAt k w' a l := by
  obtain ⟨h1, h3⟩ := h
  refine ⟨h1, ?_⟩
  rcases h3 with h3 | ⟨b, off, e, hlt, hc⟩
  · exact .inl h3
  · have := hb.size
    exact .inr ⟨b, off, e, by omega, fun i hi => (hb.cell (p := ⟨b, _, none⟩) hlt).trans (hc i hi)⟩
theorem IntsAt.at {k : IntKind} {w : World} {a : Option Addr} {l : List Int} (h : IntsAt k w a l) {i : Nat} (hi : i < l.length) : ∃ b off, a = some ⟨b, off, none⟩ ∧ b < w.heap.size ∧ w.cell? ⟨b, off + i, none⟩ = some (.int k (l.getD i 0)) := by
  rcases h.2 with h3 | ⟨b, off, e, hlt, hc⟩
  · rw [h3] at hi; simp at hi
  · exact ⟨b, off, e, hlt, hc i hi⟩

theorem getD_mem {l : List Int} {i : Nat} (h : i < l.length) : l.getD i 0 ∈ l := by
  simp [List.getD, h]
theorem take_getD {l : List Int} {i : Nat} (h : i < l.length) : l.take (i + 1) = l.take i ++ [l.getD i 0] := by
  rw [List.take_succ_eq_append_getElem h]; simp [List.getD, h]

theorem not_any (a : Int) (w : World) :
    Calls Try.prog 11 #[.int .i64 a] w fun e w' => e = .returned (.int .i64 (notT a)) ∧ w = w' := by
  go_enter Try.func11, Try.ntmps11
  go_wp2
  all_goals
    go_ret
    exact ⟨ret_int (by simp_all [notT]), rfl⟩

theorem refNot_any (a : Int) (w : World) (h : isT a) :
    Calls Try.prog 12 #[.int .i64 a] w fun e w' => e = .returned (.int .i64 (notT a)) ∧ w = w' := by
  rcases h with rfl | rfl | rfl <;>
  · go_enter Try.func12, Try.ntmps12
    go_wp2
    go_ret
    exact ⟨ret_int (by decide), rfl⟩

theorem join_stop {d r x : Int} {l : List Int} {k : Nat} (hk : k < l.length) (hx : l.getD k 0 = x) (e : x = d) : joinT d r l = d := by
  unfold joinT
  rw [if_pos (by rw [← e, ← hx]; exact getD_mem hk)]
theorem join_go {d x : Int} {l : List Int} {k : Nat} (hk : k < l.length) (hx : l.getD k 0 = x) (hd : ¬ d ∈ l.take k) (e : ¬ x = d) : ¬ d ∈ l.take (k + 1) := by
  rw [take_getD hk, hx]
  simp [hd]
  exact fun h => e h.symm
theorem join_out {r x : Int} {l : List Int} {k : Nat} (hk : k < l.length) (hx : l.getD k 0 = x) (e : ¬ x = 2) : (if 2 ∈ l.take (k + 1) then 2 else r) = (if 2 ∈ l.take k then (2 : Int) else r) := by
  rw [take_getD hk, hx]
  have : ¬ (2 : Int) = x := fun h => e h.symm
  simp [this]
theorem join_two {r x : Int} {l : List Int} {k : Nat} (hk : k < l.length) (hx : l.getD k 0 = x) (e : x = 2) : (if 2 ∈ l.take (k + 1) then 2 else r) = (2 : Int) := by
  rw [take_getD hk, hx, e]
  simp
theorem join_end {d r : Int} {l : List Int} {k : Nat} (hk : l.length ≤ k) (hd : ¬ d ∈ l.take k) : (if 2 ∈ l.take k then (2 : Int) else r) = joinT d r l := by
  rw [List.take_of_length_le hk] at *
  unfold joinT
  rw [if_neg hd]

set_option maxHeartbeats 800000 in
theorem settle_any (d r : Int) (a : Option Addr) (cap : Nat) (l : List Int) (w : World) (h : IntsAt .i64 w a l) :
    Calls Try.prog 30 #[.int .i64 d, .int .i64 r, .slice a l.length cap] w fun e w' => e = .returned (.int .i64 (joinT d r l)) ∧ w = w' := by
  have hm := h.1
  have H := Lib.hid h
  clear h
  generalize hlen : l.length = len at *
  have Hlen := Lib.hid hlen
  clear hlen
  go_enter Try.func30, Try.ntmps30
  go_wp2
  go_loop [7, 13] (fun o i => ∃ (k : Nat) (x : Int), k ≤ len ∧ i = .int .i64 k ∧ o = .int .i64 x ∧ Hid (x = if 2 ∈ l.take k then (2 : Int) else r) ∧ Hid (¬ d ∈ l.take k)) (fun _ i => len - (intOf i).toNat)
  case atStart => exact ⟨0, r, Nat.zero_le _, rfl, rfl, Lib.hid (by simp), Lib.hid (by simp)⟩
  case round =>
    obtain ⟨k, o, hk, rfl, rfl, ho, hd⟩ := hrel
    by_cases hlt : k < len
    · obtain ⟨b, off, rfl, hbs, c0⟩ := H.out.at (i := k) (by rw [Hlen.out]; exact hlt)
      generalize hx : l.getD k 0 = x at *
      have Hx := Lib.hid hx
      clear hx
      have hkl : Hid (k < l.length) := Lib.hid (by rw [Hlen.out]; exact hlt)
      by_cases hxd : x = d
      · have e1 : (x == d) = true := by simpa using hxd
        have Hd := Lib.hid hxd
        clear hxd
        go_wp2
        go_ret
        exact ⟨ret_int (join_stop hkl.out Hx.out Hd.out).symm, rfl⟩
      · have e1 : (x == d) = false := by simpa using hxd
        have Hd := Lib.hid hxd
        clear hxd
        by_cases hx2 : x = 2
        · have e2 : (x == 2) = true := by simpa using hx2
          have H2 := Lib.hid hx2
          clear hx2
          go_wp2
          go_round
          case rel => exact ⟨k + 1, 2, by omega, by go_num, rfl, Lib.hid (join_two hkl.out Hx.out H2.out).symm, Lib.hid (join_go hkl.out Hx.out hd.out Hd.out)⟩
          case measure => simp [intOf]; omega
        · have e2 : (x == 2) = false := by simpa using hx2
          have H2 := Lib.hid hx2
          clear hx2
          go_wp2
          go_round
          case rel => exact ⟨k + 1, o, by omega, by go_num, rfl, Lib.hid (ho.out.trans (join_out hkl.out Hx.out H2.out).symm), Lib.hid (join_go hkl.out Hx.out hd.out Hd.out)⟩
          case measure => simp [intOf]; omega
    · obtain rfl : k = len := by omega
      go_wp2
      go_ret
      exact ⟨ret_int (ho.out.trans (join_end (by rw [Hlen.out]; exact Nat.le_refl _) hd.out)), rfl⟩

theorem and_any (a : Option Addr) (cap : Nat) (l : List Int) (w : World) (h : IntsAt .i64 w a l) :
    Calls Try.prog 13 #[.slice a l.length cap] w fun e w' => e = .returned (.int .i64 (joinT 0 1 l)) ∧ w = w' := by
  have HC := Lib.hid (settle_any 0 1 a cap l w h)
  clear h
  generalize l.length = len at *
  generalize joinT 0 1 l = x at *
  go_enter Try.func13, Try.ntmps13
  go_wp2_with fail
  refine HC.out.mono ?_
  rintro e w1 ⟨rfl, rfl⟩
  go_wp2_with fail
  go_ret
  exact ⟨rfl, rfl⟩

theorem or_any' (a : Option Addr) (cap : Nat) (l : List Int) (w : World) (h : IntsAt .i64 w a l) :
    Calls Try.prog 15 #[.slice a l.length cap] w fun e w' => e = .returned (.int .i64 (joinT 1 0 l)) ∧ w = w' := by
  have HC := Lib.hid (settle_any 1 0 a cap l w h)
  clear h
  generalize l.length = len at *
  generalize joinT 1 0 l = x at *
  go_enter Try.func15, Try.ntmps15
  go_wp2_with fail
  refine HC.out.mono ?_
  rintro e w1 ⟨rfl, rfl⟩
  go_wp2_with fail
  go_ret
  exact ⟨rfl, rfl⟩

theorem has_stop {t x : Int} {l : List Int} {k : Nat} (hk : k < l.length) (hx : l.getD k 0 = x) (e : x = t) : decide (t ∈ l) = true := by
  rw [decide_eq_true_eq, ← e, ← hx]; exact getD_mem hk
theorem has_end {t : Int} {l : List Int} {k : Nat} (hk : l.length ≤ k) (hd : ¬ t ∈ l.take k) : decide (t ∈ l) = false := by
  rw [List.take_of_length_le hk] at hd
  simpa using hd

set_option maxHeartbeats 800000 in
theorem has_any (t : Int) (a : Option Addr) (cap : Nat) (l : List Int) (w : World) (h : IntsAt .i64 w a l) :
    Calls Try.prog 31 #[.slice a l.length cap, .int .i64 t] w fun e w' => e = .returned (.bool (decide (t ∈ l))) ∧ w = w' := by
  have hm := h.1
  have H := Lib.hid h
  clear h
  generalize hlen : l.length = len at *
  have Hlen := Lib.hid hlen
  clear hlen
  go_enter Try.func31, Try.ntmps31
  go_wp2
  go_loop [8] (fun i => ∃ k : Nat, k ≤ len ∧ i = .int .i64 k ∧ Hid (¬ t ∈ l.take k)) (fun i => len - (intOf i).toNat)
  case atStart => exact ⟨0, Nat.zero_le _, rfl, Lib.hid (by simp)⟩
  case round =>
    obtain ⟨k, hk, rfl, hd⟩ := hrel
    by_cases hlt : k < len
    · obtain ⟨b, off, rfl, hbs, c0⟩ := H.out.at (i := k) (by rw [Hlen.out]; exact hlt)
      generalize hx : l.getD k 0 = x at *
      have Hx := Lib.hid hx
      clear hx
      have hkl : Hid (k < l.length) := Lib.hid (by rw [Hlen.out]; exact hlt)
      by_cases hxd : x = t
      · have e1 : (x == t) = true := by simpa using hxd
        have Hd := Lib.hid hxd
        clear hxd
        go_wp2
        go_ret
        exact ⟨ret_bool (has_stop hkl.out Hx.out Hd.out).symm, rfl⟩
      · have e1 : (x == t) = false := by simpa using hxd
        have Hd := Lib.hid hxd
        clear hxd
        go_wp2
        go_round
        case rel => exact ⟨k + 1, by omega, by go_num, Lib.hid (join_go hkl.out Hx.out hd.out Hd.out)⟩
        case measure => simp [intOf]; omega
    · obtain rfl : k = len := by omega
      go_wp2
      go_ret
      exact ⟨ret_bool (has_end (by rw [Hlen.out]; exact Nat.le_refl _) hd.out).symm, rfl⟩

theorem refAnd_any (a : Option Addr) (cap : Nat) (l : List Int) (w : World) (h : IntsAt .i64 w a l) :
    Calls Try.prog 14 #[.slice a l.length cap] w fun e w' => e = .returned (.int .i64 (joinT 0 1 l)) ∧ w = w' := by
  have H0 := Lib.hid (has_any 0 a cap l w h)
  have H2 := Lib.hid (has_any 2 a cap l w h)
  have hj : joinT 0 1 l = if decide (0 ∈ l) = true then 0 else if decide (2 ∈ l) = true then 2 else 1 := by simp [joinT]
  rw [hj]
  clear h hj
  generalize l.length = len at *
  generalize decide (0 ∈ l) = p at *
  generalize decide (2 ∈ l) = q at *
  go_enter Try.func14, Try.ntmps14
  go_wp2_with fail
  refine H0.out.mono ?_
  rintro e w1 ⟨rfl, rfl⟩
  cases p
  · go_wp2_with fail
    refine H2.out.mono ?_
    rintro e w1 ⟨rfl, rfl⟩
    cases q <;>
    · go_wp2_with fail
      go_ret
      exact ⟨rfl, rfl⟩
  · go_wp2_with fail
    go_ret
    exact ⟨rfl, rfl⟩

theorem refOr_any (a : Option Addr) (cap : Nat) (l : List Int) (w : World) (h : IntsAt .i64 w a l) :
    Calls Try.prog 16 #[.slice a l.length cap] w fun e w' => e = .returned (.int .i64 (joinT 1 0 l)) ∧ w = w' := by
  have H0 := Lib.hid (has_any 1 a cap l w h)
  have H2 := Lib.hid (has_any 2 a cap l w h)
  have hj : joinT 1 0 l = if decide (1 ∈ l) = true then 1 else if decide (2 ∈ l) = true then 2 else 0 := by simp [joinT]
  rw [hj]
  clear h hj
  generalize l.length = len at *
  generalize decide (1 ∈ l) = p at *
  generalize decide (2 ∈ l) = q at *
  go_enter Try.func16, Try.ntmps16
  go_wp2_with fail
  refine H0.out.mono ?_
  rintro e w1 ⟨rfl, rfl⟩
  cases p
  · go_wp2_with fail
    refine H2.out.mono ?_
    rintro e w1 ⟨rfl, rfl⟩
    cases q <;>
    · go_wp2_with fail
      go_ret
      exact ⟨rfl, rfl⟩
  · go_wp2_with fail
    go_ret
    exact ⟨rfl, rfl⟩
end Go.Proofs.Ytmgddieadehmeaa
