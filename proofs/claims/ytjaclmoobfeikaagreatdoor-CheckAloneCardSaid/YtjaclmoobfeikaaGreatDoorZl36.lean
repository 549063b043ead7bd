/- slices.Clone at columns, keys, values, predicates (gen_ckd.py). asked: a query's items, then those of its keys. Some elements, or none, appended to a window with room. -/
import Derived.Test.YtjaclmoobfeikaaGreatDoorZl35
import Derived.Test.YtjaclmoobfeikaaGreatDoorZl16
import Derived.Test.YtjaclmoobfeikaaGreatDoorZl30
import Derived.Laws.AppendOwnNone
namespace Go.Proofs.YtjaclmoobfeikaaGreatDoor
open Go.RowKit

/-- The cells of a column. -/
def Cl.c (x : Cl) : List Value := [.string x.n, .int .i64 x.k, .bool x.b]
theorem Cl.c_len (x : Cl) : x.c.length = 3 := rfl
theorem cl_ones (l : List Cl) : ∀ u ∈ l.flatMap Cl.c, u.oneCell' = true := by
  intro u hu
  rw [List.mem_flatMap] at hu
  obtain ⟨x, _, hx⟩ := hu
  simp only [Cl.c, List.mem_cons, List.not_mem_nil, or_false] at hx
  rcases hx with rfl | rfl | rfl <;> rfl
theorem kyo_ones (l : List Kyo) : ∀ u ∈ l.flatMap Kyo.c, u.oneCell' = true := by
  intro u hu
  rw [List.mem_flatMap] at hu
  obtain ⟨x, _, hx⟩ := hu
  simp only [Kyo.c, List.mem_cons, List.not_mem_nil, or_false] at hx
  rcases hx with rfl | rfl | rfl | rfl <;> rfl
/-- The cells of a value. -/
def Vl.cc (x : Vl) : List Value := [.int .i64 x.k, .int .i64 x.n, .string x.s]
theorem Vl.cc_len (x : Vl) : x.cc.length = 3 := rfl
theorem vl_ones (l : List Vl) : ∀ u ∈ l.flatMap Vl.cc, u.oneCell' = true := by
  intro u hu
  rw [List.mem_flatMap] at hu
  obtain ⟨x, _, hx⟩ := hu
  simp only [Vl.cc, List.mem_cons, List.not_mem_nil, or_false] at hx
  rcases hx with rfl | rfl | rfl <;> rfl
theorem flat_of {α : Type} [Inhabited α] (c : α → List Value) (n : Nat) (hc : ∀ x, (c x).length = n) : ∀ (l : List α) (j : Nat) (u : Value), (l.flatMap c)[j]? = some u → ∃ i r, i < l.length ∧ j = i * n + r ∧ r < n ∧ (c (l.getD i default))[r]? = some u
  | [], j, u, h => by simp at h
  | x :: l, j, u, h => by
    rw [List.flatMap_cons] at h
    by_cases hj : j < n
    · rw [List.getElem?_append_left (by rw [hc]; exact hj)] at h
      exact ⟨0, j, by simp, by omega, hj, h⟩
    · rw [List.getElem?_append_right (by rw [hc]; omega), hc] at h
      obtain ⟨i, r, h1, h2, h3, h4⟩ := flat_of c n hc l _ u h
      exact ⟨i + 1, r, by simpa using h1, by rw [Nat.add_mul, Nat.one_mul]; omega, h3, h4⟩
theorem three_at {a b c : Value} {r : Nat} {u : Value} (h : [a, b, c][r]? = some u) : (r = 0 ∧ u = a) ∨ (r = 1 ∧ u = b) ∨ (r = 2 ∧ u = c) := by
  match r, h with
  | 0, h => exact .inl ⟨rfl, by simpa using h.symm⟩
  | 1, h => exact .inr (.inl ⟨rfl, by simpa using h.symm⟩)
  | 2, h => exact .inr (.inr ⟨rfl, by simpa using h.symm⟩)
  | (r + 3), h => simp at h
theorem RwS.cellsV {S : Nat → Prop} {w : World} {a : Option Addr} {l : List Vl} (h : RwS S w a l) : CellsS S w a (l.flatMap Vl.cc) := by
  rcases h.2.2 with h | ⟨b, off, e, hs, hlt, hc⟩
  · exact .inl (by rw [h]; rfl)
  · refine .inr ⟨b, off, e, hs, hlt, fun j u hj => ?_⟩
    obtain ⟨i, r, h1, rfl, h3, h4⟩ := flat_of Vl.cc 3 Vl.cc_len l j u hj
    obtain ⟨c0, c1, c2⟩ := hc i h1
    rcases three_at h4 with ⟨rfl, rfl⟩ | ⟨rfl, rfl⟩ | ⟨rfl, rfl⟩
    · exact c0
    · rw [← Nat.add_assoc]; exact c1
    · rw [← Nat.add_assoc]; exact c2
theorem RwS.ofCells {S : Nat → Prop} {w : World} {a : Option Addr} {l : List Vl} (h1 : l.length ≤ 4294967296) (h2 : ∀ x ∈ l, x.s.size ≤ maxLen) (h : CellsS S w a (l.flatMap Vl.cc)) : RwS S w a l := by
  refine ⟨h1, h2, ?_⟩
  rcases h with h | ⟨b, off, e, hs, hlt, hc⟩
  · left
    have := congrArg List.length h
    rw [flat_len Vl.cc 3 Vl.cc_len] at this
    exact List.eq_nil_of_length_eq_zero (by simp at this; omega)
  · refine .inr ⟨b, off, e, hs, hlt, fun i hi => ⟨?_, ?_, ?_⟩⟩
    · exact hc _ _ (flat_at Vl.cc 3 Vl.cc_len l i hi 0 _ rfl)
    · rw [Nat.add_assoc]; exact hc _ _ (flat_at Vl.cc 3 Vl.cc_len l i hi 1 _ rfl)
    · rw [Nat.add_assoc]; exact hc _ _ (flat_at Vl.cc 3 Vl.cc_len l i hi 2 _ rfl)
theorem ColsAt.cellsC {B : Nat} {w : World} {a : Option Addr} {l : List Cl} (h : ColsAt B w a l) (hB : B ≤ w.heap.size) : CellsS (fun j => j < B) w a (l.flatMap Cl.c) := by
  rcases h.2 with h | ⟨b, off, e, hlt, hc⟩
  · exact .inl (by rw [h]; rfl)
  · refine .inr ⟨b, off, e, hlt, by omega, fun j u hj => ?_⟩
    obtain ⟨i, r, h1, rfl, h3, h4⟩ := flat_of Cl.c 3 Cl.c_len l j u hj
    obtain ⟨c0, c1, c2⟩ := hc i h1
    rcases three_at h4 with ⟨rfl, rfl⟩ | ⟨rfl, rfl⟩ | ⟨rfl, rfl⟩
    · exact c0
    · rw [← Nat.add_assoc]; exact c1
    · rw [← Nat.add_assoc]; exact c2
theorem ColsAt.ofCells {S : Nat → Prop} {B : Nat} {w : World} {a : Option Addr} {l : List Cl} (h1 : l.length ≤ 9223372036854775807) (h : CellsS S w a (l.flatMap Cl.c)) (hB : w.heap.size ≤ B) : ColsAt B w a l := by
  refine ⟨h1, ?_⟩
  rcases h with h | ⟨b, off, e, hs, hlt, hc⟩
  · left
    have := congrArg List.length h
    rw [flat_len Cl.c 3 Cl.c_len] at this
    exact List.eq_nil_of_length_eq_zero (by simp at this; omega)
  · refine .inr ⟨b, off, e, by omega, fun i hi => ⟨?_, ?_, ?_⟩⟩
    · exact hc _ _ (flat_at Cl.c 3 Cl.c_len l i hi 0 _ rfl)
    · rw [Nat.add_assoc]; exact hc _ _ (flat_at Cl.c 3 Cl.c_len l i hi 1 _ rfl)
    · rw [Nat.add_assoc]; exact hc _ _ (flat_at Cl.c 3 Cl.c_len l i hi 2 _ rfl)

theorem cl_infoC : (Tryz.prog.info? 86).map (fun i => (i.zero, i.size, i.bytes)) = some (some (.agg #[.string ⟨#[]⟩, .int .i64 0, .bool false]), 3, 32) := by kernel_rfl
set_option maxRecDepth 100000 in
set_option maxHeartbeats 1600000 in
theorem cloneCol_any (S : Nat → Prop) (a : Option Addr) (cap : Nat) (l : List Cl) (w : World) (h : CellsS S w a (l.flatMap Cl.c)) (hl : l.length ≤ 1000) :
    Calls Tryz.prog 79 #[.slice a l.length cap] w fun e w' => (∃ a' cap', e = .returned (.slice a' l.length cap') ∧ l.length ≤ cap' ∧ w'.ownsRow w.heap.size 86 3 (.slice a' l.length cap') l.length (l.flatMap Cl.c)) ∧ w.grownBy w' none := by
  have hlen := flat_len Cl.c 3 Cl.c_len l
  cases a with
  | none =>
    obtain rfl : l = [] := by
      rcases h with h | ⟨b, off, e, _⟩
      · rw [h] at hlen
        exact List.eq_nil_of_length_eq_zero (by simp at hlen; omega)
      · cases e
    have hE : ∀ w, (binOp .eql 42 (.slice none 0 cap) (.slice none 0 0)).run Tryz.prog w = .ok (.bool true) w := fun w => Lib.run_eql_slice_nil w _ _ _ _ _ _ _ Tryz.underlying42
    clear h hl hlen
    go_enter Tryz.func79, Tryz.ntmps79
    go_wp2_with fail
    go_ret
    exact ⟨⟨none, 0, rfl, Nat.le_refl _, World.ownsRow_nil _ _ _ _⟩, grown_reflT _ _⟩
  | some ad =>
    have HC : Hid (∀ W, w.grownBy W none → ∀ j u, (l.flatMap Cl.c)[j]? = some u → W.cell? (ad.add j) = some u) := Lib.hid fun W hW => (h.keep (.of hW)).at
    have HL := Lib.hid hlen
    obtain ⟨m, hm⟩ : ∃ m, m = l.length := ⟨_, rfl⟩
    have Hm := Lib.hid hm
    rw [← hm] at HL hl ⊢
    clear h hm hlen
    obtain ⟨i0, hi, hz0, hz1, hz2⟩ := info_partsT cl_infoC
    have hE : ∀ w, (binOp .eql 42 (.slice (some ad) m cap) (.slice none 0 0)).run Tryz.prog w = .ok (.bool false) w := fun w => Lib.run_eql_slice_nil w _ _ _ _ _ _ _ Tryz.underlying42
    go_enter Tryz.func79, Tryz.ntmps79
    go_wp2_with (at_builtin; refine wpList_append_own _ rfl _ _ 42 rfl w.heap.size 86 i0 (.agg #[.string ⟨#[]⟩, .int .i64 0, .bool false]) 3 32 Tryz.underlying42 hi hz0 hz1 hz2 rfl (by decide) _ 0 [] rfl (own_madeT _ _ w _ _ rfl (Nat.le_refl _)) ad m cap (l.flatMap Cl.c) rfl HL.out ?c1 ?c2 ?c3 ?c4 ?c5 ?_)
    case c1 => exact HC.out _ (World.grownBy_alloc _ _ _)
    case c2 => exact cl_ones _
    case c3 => unfold maxLen; omega
    case c4 => omega
    case c5 => simp
    intro v' w3 hown' hgrow _
    have K3 := Lib.hid (grown_thenT (World.grownBy_alloc w _ none) hgrow (by intro j hj; simp [Value.ownBlock] at hj; omega))
    have O3 := Lib.hid (show w3.ownsRow w.heap.size 86 3 v' m (l.flatMap Cl.c) by simpa using hown')
    clear hown' hgrow
    go_wp2_with fail
    go_ret
    obtain ⟨a', cap', hv, hw, _⟩ := own_win O3.out
    have hO := O3.out
    rw [hv] at hO
    exact ⟨⟨a', cap', congrArg Ending.returned hv, hw.le, hO⟩, K3.out⟩

theorem kyo_infoC : (Tryz.prog.info? 67).map (fun i => (i.zero, i.size, i.bytes)) = some (some (.agg #[.int .i64 0, .string ⟨#[]⟩, .int .i64 0, .bool false]), 4, 40) := by kernel_rfl
set_option maxRecDepth 100000 in
set_option maxHeartbeats 1600000 in
theorem cloneKyo_any (S : Nat → Prop) (a : Option Addr) (cap : Nat) (l : List Kyo) (w : World) (h : CellsS S w a (l.flatMap Kyo.c)) (hl : l.length ≤ 1000) :
    Calls Tryz.prog 84 #[.slice a l.length cap] w fun e w' => (∃ a' cap', e = .returned (.slice a' l.length cap') ∧ l.length ≤ cap' ∧ w'.ownsRow w.heap.size 67 4 (.slice a' l.length cap') l.length (l.flatMap Kyo.c)) ∧ w.grownBy w' none := by
  have hlen := flat_len Kyo.c 4 Kyo.c_len l
  cases a with
  | none =>
    obtain rfl : l = [] := by
      rcases h with h | ⟨b, off, e, _⟩
      · rw [h] at hlen
        exact List.eq_nil_of_length_eq_zero (by simp at hlen; omega)
      · cases e
    have hE : ∀ w, (binOp .eql 34 (.slice none 0 cap) (.slice none 0 0)).run Tryz.prog w = .ok (.bool true) w := fun w => Lib.run_eql_slice_nil w _ _ _ _ _ _ _ Tryz.underlying34
    clear h hl hlen
    go_enter Tryz.func84, Tryz.ntmps84
    go_wp2_with fail
    go_ret
    exact ⟨⟨none, 0, rfl, Nat.le_refl _, World.ownsRow_nil _ _ _ _⟩, grown_reflT _ _⟩
  | some ad =>
    have HC : Hid (∀ W, w.grownBy W none → ∀ j u, (l.flatMap Kyo.c)[j]? = some u → W.cell? (ad.add j) = some u) := Lib.hid fun W hW => (h.keep (.of hW)).at
    have HL := Lib.hid hlen
    obtain ⟨m, hm⟩ : ∃ m, m = l.length := ⟨_, rfl⟩
    have Hm := Lib.hid hm
    rw [← hm] at HL hl ⊢
    clear h hm hlen
    obtain ⟨i0, hi, hz0, hz1, hz2⟩ := info_partsT kyo_infoC
    have hE : ∀ w, (binOp .eql 34 (.slice (some ad) m cap) (.slice none 0 0)).run Tryz.prog w = .ok (.bool false) w := fun w => Lib.run_eql_slice_nil w _ _ _ _ _ _ _ Tryz.underlying34
    go_enter Tryz.func84, Tryz.ntmps84
    go_wp2_with (at_builtin; refine wpList_append_own _ rfl _ _ 34 rfl w.heap.size 67 i0 (.agg #[.int .i64 0, .string ⟨#[]⟩, .int .i64 0, .bool false]) 4 40 Tryz.underlying34 hi hz0 hz1 hz2 rfl (by decide) _ 0 [] rfl (own_madeT _ _ w _ _ rfl (Nat.le_refl _)) ad m cap (l.flatMap Kyo.c) rfl HL.out ?c1 ?c2 ?c3 ?c4 ?c5 ?_)
    case c1 => exact HC.out _ (World.grownBy_alloc _ _ _)
    case c2 => exact kyo_ones _
    case c3 => unfold maxLen; omega
    case c4 => omega
    case c5 => simp
    intro v' w3 hown' hgrow _
    have K3 := Lib.hid (grown_thenT (World.grownBy_alloc w _ none) hgrow (by intro j hj; simp [Value.ownBlock] at hj; omega))
    have O3 := Lib.hid (show w3.ownsRow w.heap.size 67 4 v' m (l.flatMap Kyo.c) by simpa using hown')
    clear hown' hgrow
    go_wp2_with fail
    go_ret
    obtain ⟨a', cap', hv, hw, _⟩ := own_win O3.out
    have hO := O3.out
    rw [hv] at hO
    exact ⟨⟨a', cap', congrArg Ending.returned hv, hw.le, hO⟩, K3.out⟩

theorem vl_infoC : (Tryz.prog.info? 29).map (fun i => (i.zero, i.size, i.bytes)) = some (some (.agg #[.int .i64 0, .int .i64 0, .string ⟨#[]⟩]), 3, 32) := by kernel_rfl
set_option maxRecDepth 100000 in
set_option maxHeartbeats 1600000 in
theorem cloneVal_any (S : Nat → Prop) (a : Option Addr) (cap : Nat) (l : List Vl) (w : World) (h : CellsS S w a (l.flatMap Vl.cc)) (hl : l.length ≤ 1000) :
    Calls Tryz.prog 111 #[.slice a l.length cap] w fun e w' => (∃ a' cap', e = .returned (.slice a' l.length cap') ∧ l.length ≤ cap' ∧ w'.ownsRow w.heap.size 29 3 (.slice a' l.length cap') l.length (l.flatMap Vl.cc)) ∧ w.grownBy w' none := by
  have hlen := flat_len Vl.cc 3 Vl.cc_len l
  cases a with
  | none =>
    obtain rfl : l = [] := by
      rcases h with h | ⟨b, off, e, _⟩
      · rw [h] at hlen
        exact List.eq_nil_of_length_eq_zero (by simp at hlen; omega)
      · cases e
    have hE : ∀ w, (binOp .eql 30 (.slice none 0 cap) (.slice none 0 0)).run Tryz.prog w = .ok (.bool true) w := fun w => Lib.run_eql_slice_nil w _ _ _ _ _ _ _ Tryz.underlying30
    clear h hl hlen
    go_enter Tryz.func111, Tryz.ntmps111
    go_wp2_with fail
    go_ret
    exact ⟨⟨none, 0, rfl, Nat.le_refl _, World.ownsRow_nil _ _ _ _⟩, grown_reflT _ _⟩
  | some ad =>
    have HC : Hid (∀ W, w.grownBy W none → ∀ j u, (l.flatMap Vl.cc)[j]? = some u → W.cell? (ad.add j) = some u) := Lib.hid fun W hW => (h.keep (.of hW)).at
    have HL := Lib.hid hlen
    obtain ⟨m, hm⟩ : ∃ m, m = l.length := ⟨_, rfl⟩
    have Hm := Lib.hid hm
    rw [← hm] at HL hl ⊢
    clear h hm hlen
    obtain ⟨i0, hi, hz0, hz1, hz2⟩ := info_partsT vl_infoC
    have hE : ∀ w, (binOp .eql 30 (.slice (some ad) m cap) (.slice none 0 0)).run Tryz.prog w = .ok (.bool false) w := fun w => Lib.run_eql_slice_nil w _ _ _ _ _ _ _ Tryz.underlying30
    go_enter Tryz.func111, Tryz.ntmps111
    go_wp2_with (at_builtin; refine wpList_append_own _ rfl _ _ 30 rfl w.heap.size 29 i0 (.agg #[.int .i64 0, .int .i64 0, .string ⟨#[]⟩]) 3 32 Tryz.underlying30 hi hz0 hz1 hz2 rfl (by decide) _ 0 [] rfl (own_madeT _ _ w _ _ rfl (Nat.le_refl _)) ad m cap (l.flatMap Vl.cc) rfl HL.out ?c1 ?c2 ?c3 ?c4 ?c5 ?_)
    case c1 => exact HC.out _ (World.grownBy_alloc _ _ _)
    case c2 => exact vl_ones _
    case c3 => unfold maxLen; omega
    case c4 => omega
    case c5 => simp
    intro v' w3 hown' hgrow _
    have K3 := Lib.hid (grown_thenT (World.grownBy_alloc w _ none) hgrow (by intro j hj; simp [Value.ownBlock] at hj; omega))
    have O3 := Lib.hid (show w3.ownsRow w.heap.size 29 3 v' m (l.flatMap Vl.cc) by simpa using hown')
    clear hown' hgrow
    go_wp2_with fail
    go_ret
    obtain ⟨a', cap', hv, hw, _⟩ := own_win O3.out
    have hO := O3.out
    rw [hv] at hO
    exact ⟨⟨a', cap', congrArg Ending.returned hv, hw.le, hO⟩, K3.out⟩

theorem pm_infoC : (Tryz.prog.info? 33).map (fun i => (i.zero, i.size, i.bytes)) = some (some (.agg z10), 10, 136) := by kernel_rfl
set_option maxRecDepth 100000 in
set_option maxHeartbeats 1600000 in
theorem clonePm_any (S : Nat → Prop) (a : Option Addr) (cap : Nat) (l : List Pm) (w : World) (h : CellsS S w a (l.flatMap Pm.c)) (hl : l.length ≤ 1000) :
    Calls Tryz.prog 112 #[.slice a l.length cap] w fun e w' => (∃ a' cap', e = .returned (.slice a' l.length cap') ∧ l.length ≤ cap' ∧ w'.ownsRow w.heap.size 33 10 (.slice a' l.length cap') l.length (l.flatMap Pm.c)) ∧ w.grownBy w' none := by
  have hlen := flat_len Pm.c 10 Pm.c_len l
  cases a with
  | none =>
    obtain rfl : l = [] := by
      rcases h with h | ⟨b, off, e, _⟩
      · rw [h] at hlen
        exact List.eq_nil_of_length_eq_zero (by simp at hlen; omega)
      · cases e
    have hE : ∀ w, (binOp .eql 31 (.slice none 0 cap) (.slice none 0 0)).run Tryz.prog w = .ok (.bool true) w := fun w => Lib.run_eql_slice_nil w _ _ _ _ _ _ _ Tryz.underlying31
    clear h hl hlen
    go_enter Tryz.func112, Tryz.ntmps112
    go_wp2_with fail
    go_ret
    exact ⟨⟨none, 0, rfl, Nat.le_refl _, World.ownsRow_nil _ _ _ _⟩, grown_reflT _ _⟩
  | some ad =>
    have HC : Hid (∀ W, w.grownBy W none → ∀ j u, (l.flatMap Pm.c)[j]? = some u → W.cell? (ad.add j) = some u) := Lib.hid fun W hW => (h.keep (.of hW)).at
    have HL := Lib.hid hlen
    obtain ⟨m, hm⟩ : ∃ m, m = l.length := ⟨_, rfl⟩
    have Hm := Lib.hid hm
    rw [← hm] at HL hl ⊢
    clear h hm hlen
    obtain ⟨i0, hi, hz0, hz1, hz2⟩ := info_partsT pm_infoC
    have hE : ∀ w, (binOp .eql 31 (.slice (some ad) m cap) (.slice none 0 0)).run Tryz.prog w = .ok (.bool false) w := fun w => Lib.run_eql_slice_nil w _ _ _ _ _ _ _ Tryz.underlying31
    go_enter Tryz.func112, Tryz.ntmps112
    go_wp2_with (at_builtin; refine wpList_append_own _ rfl _ _ 31 rfl w.heap.size 33 i0 (.agg z10) 10 136 Tryz.underlying31 hi hz0 hz1 hz2 rfl (by decide) _ 0 [] rfl (own_madeT _ _ w _ _ rfl (Nat.le_refl _)) ad m cap (l.flatMap Pm.c) rfl HL.out ?c1 ?c2 ?c3 ?c4 ?c5 ?_)
    case c1 => exact HC.out _ (World.grownBy_alloc _ _ _)
    case c2 => exact pm_one _
    case c3 => unfold maxLen; omega
    case c4 => omega
    case c5 => simp
    intro v' w3 hown' hgrow _
    have K3 := Lib.hid (grown_thenT (World.grownBy_alloc w _ none) hgrow (by intro j hj; simp [Value.ownBlock] at hj; omega))
    have O3 := Lib.hid (show w3.ownsRow w.heap.size 33 10 v' m (l.flatMap Pm.c) by simpa using hown')
    clear hown' hgrow
    go_wp2_with fail
    go_ret
    obtain ⟨a', cap', hv, hw, _⟩ := own_win O3.out
    have hO := O3.out
    rw [hv] at hO
    exact ⟨⟨a', cap', congrArg Ending.returned hv, hw.le, hO⟩, K3.out⟩

end Go.Proofs.YtjaclmoobfeikaaGreatDoor
namespace Go.Proofs.YtjaclmoobfeikaaGreatDoor
open Go.RowKit

/-- What lies anywhere, or nothing, appended to one's own. -/
theorem step_append_own_any (w : World) {ops : Array Oper} {o : Oper} {act : Act} {K : Act → World → Prop} {Q : Exit → Act → World → Prop} {F : Prop} (hgd : o.guard = none) (s x : Operand) {sl e : TypeId} {z : Value} {sz by' : Nat} (E : ElT sl e z sz by')
    (ho : o.op = .call { callee := .builtin .append, args := #[s, x], argTypes := #[sl, sl] })
    (base : Nat) (v : Value) (n : Nat) (xs : List Value) (hs : act.eval s = v) (hown : w.ownsRow base e sz v n xs)
    (A : Option Addr) (m c : Nat) (news : List Value) (hx : act.eval x = .slice A m c) (hA : A = none → m = 0 ∧ c = 0) (hl : news.length = m * sz) (hnews : ∀ ad, A = some ad → ∀ j u, news[j]? = some u → w.cell? (ad.add j) = some u) (h1 : ∀ u ∈ news, u.oneCell' = true)
    (h63 : n + m ≤ 1000000) (hbase : base ≤ w.heap.size)
    (h : ∀ v' w', w'.ownsRow base e sz v' (n + m) (xs ++ news) → w.grownBy w' v.ownBlock → K (act.put o.dst v') w') :
    if Region.wanted o (yielded ops act.tmps) = true then Oper.wp Tryz.prog o act w K Q else F := by
  obtain ⟨i0, hi, hz0, hz1, hz2⟩ := E.inf
  have hw : Region.wanted o (yielded ops act.tmps) = true := by simp [Region.wanted, hgd]
  rw [if_pos hw]
  cases A with
  | none =>
    obtain ⟨rfl, rfl⟩ := hA rfl
    obtain rfl : news = [] := List.eq_nil_of_length_eq_zero (by omega)
    have hrun := run_append_owned_none (P := Tryz.prog) (w := w) base sl o.type e i0 sz E.und hi v n xs hown
    have hk := h v w (by rw [List.append_nil]; exact hown) (grown_reflT _ _)
    unfold Oper.wp
    simp only [execOp, ho, resolve, invoke, builtin, Sem.run_bind, Sem.run_pure, Result.andThen_ok, List.map_toArray, List.map_cons, List.map_nil, hs, hx, hrun]
    exact hk
  | some ad =>
    exact wp_append_own w s x sl ho base e i0 z sz by' E.und hi hz0 hz1 hz2 E.zc E.pos v n xs hs hown ad m c news hx hl (hnews ad rfl) h1 (by unfold maxLen; omega) (by have := E.few; have : (n + m) * by' ≤ 1000000 * 256 := Nat.mul_le_mul h63 this; omega) hbase fun v' w' h2 h3 _ => h v' w' h2 h3
theorem Win.nil_of {sz : Nat} {w : World} {a : Option Addr} {cap n : Nat} {xs : List Value} (h : Win sz w a cap n xs) : a = none → n = 0 ∧ cap = 0 := by
  intro e
  have := h.le
  rcases h.mem with h | ⟨_, _, h, _⟩
  · exact ⟨by omega, h⟩
  · rw [h] at e; cases e
theorem Win.at {sz : Nat} {w : World} {a : Option Addr} {cap n : Nat} {xs : List Value} (h : Win sz w a cap n xs) : ∀ ad, a = some ad → ∀ j u, xs[j]? = some u → w.cell? (ad.add j) = some u := by
  intro ad e j u hj
  have h1 := h.len
  have h2 := h.le
  rcases h.mem with hm | ⟨g, off, e2, hc, _⟩
  · rw [List.eq_nil_of_length_eq_zero (l := xs) (by rw [h1, show n = 0 by omega]; simp)] at hj
    simp at hj
  · rw [e2] at e; cases e
    rw [add_atT]
    exact hc j u hj
theorem own_baseN {w : World} {base base' : Nat} {e : TypeId} {size : Nat} {v : Value} {n : Nat} {xs : List Value} (h : w.ownsRow base e size v n xs) (hb : base' ≤ base) : w.ownsRow base' e size v n xs :=
  ⟨h.1, h.2.imp id fun ⟨g, cap, cur, hv, hg, r⟩ => ⟨g, cap, cur, hv, Nat.le_trans hb hg, r⟩⟩
set_option maxRecDepth 100000 in
set_option maxHeartbeats 3200000 in
theorem asked_any (S : Nat → Prop) (y : Qm) (w : World) (hi : CellsS S w y.ia (y.items.flatMap Itm.c)) (ho : CellsS S w y.oa (y.order.flatMap Kyo.c)) (li : y.items.length ≤ 1000) (lo : y.order.length ≤ 1000) :
    Calls Tryz.prog 21 #[.agg y.c] w fun e w' => (∃ v, e = .returned v ∧ w'.ownsRow w.heap.size 65 3 v (y.items.length + y.order.length) (y.items.flatMap Itm.c ++ y.order.flatMap fun k => k.item.c)) ∧ w.grownBy w' none := by
  have HC := Lib.hid (fun W (hW : w.grownBy W none) => cloneItm_any S y.ia y.ic y.items W (hi.keep (.of hW)) li)
  have HO := Lib.hid (fun W (hW : w.grownBy W none) => ordered_any S y W (ho.keep (.of hW)) lo)
  obtain ⟨ia1, ic1, its1, al1, ta1, ⟨k1, c1, rr1, v1, o1, la1, lc1, li1, ka1, kc1, ks1, pp1⟩, ga1, gc1, gr1, oa1, oc1, od1, lim1⟩ := y
  show Calls Tryz.prog 21 #[.agg #[.slice ia1 its1.length ic1, .bool al1, .string ta1, .int .i64 (k1 : Nat), .string c1, .int .i64 (rr1 : Nat), .int .i64 v1.k, .int .i64 v1.n, .string v1.s, .string o1, .slice la1 li1.length lc1, .slice ka1 ks1.length kc1, .int .i64 (pp1 : Nat), .slice ga1 gr1.length gc1, .slice oa1 od1.length oc1, .int .i64 lim1, .int .i64 0]] w _
  replace HO : Hid (∀ W, w.grownBy W none → Calls Tryz.prog 40 #[.agg #[.slice ia1 its1.length ic1, .bool al1, .string ta1, .int .i64 (k1 : Nat), .string c1, .int .i64 (rr1 : Nat), .int .i64 v1.k, .int .i64 v1.n, .string v1.s, .string o1, .slice la1 li1.length lc1, .slice ka1 ks1.length kc1, .int .i64 (pp1 : Nat), .slice ga1 gr1.length gc1, .slice oa1 od1.length oc1, .int .i64 lim1, .int .i64 0]] W fun e w' => ∃ a cap, e = .returned (.slice a od1.length cap) ∧ Win 3 w' a cap od1.length (od1.flatMap fun k => k.item.c) ∧ (∀ k, bk a k → W.heap.size ≤ k) ∧ W.grownBy w' none) := HO
  dsimp only at hi ho li lo HC ⊢
  have HL1 := Lib.hid (flat_len Itm.c 3 Itm.c_len its1)
  have HL2 := Lib.hid (flat_len (fun k : Kyo => k.item.c) 3 (fun _ => rfl) od1)
  have H1 : Hid (∀ u ∈ od1.flatMap fun k => k.item.c, u.oneCell' = true) := Lib.hid (by
    have := itm_ones (od1.map Kyo.item)
    rwa [List.flatMap_map] at this)
  generalize its1.flatMap Itm.c = xs1 at *
  generalize (od1.flatMap fun k : Kyo => k.item.c) = xs2 at *
  generalize its1.length = n1 at *
  generalize li1.length = n2 at *
  generalize ks1.length = n4 at *
  generalize gr1.length = n6 at *
  generalize od1.length = n at *
  clear hi ho
  have K0 := Lib.hid (World.grownBy_alloc w (.cells #[.slice ia1 n1 ic1, .bool al1, .string ta1, .int .i64 (k1 : Nat), .string c1, .int .i64 (rr1 : Nat), .int .i64 v1.k, .int .i64 v1.n, .string v1.s, .string o1, .slice la1 n2 lc1, .slice ka1 n4 kc1, .int .i64 (pp1 : Nat), .slice ga1 n6 gc1, .slice oa1 n oc1, .int .i64 lim1, .int .i64 0] 36) none)
  have B1 := heap_alloc_new w (.cells #[.slice ia1 n1 ic1, .bool al1, .string ta1, .int .i64 (k1 : Nat), .string c1, .int .i64 (rr1 : Nat), .int .i64 v1.k, .int .i64 v1.n, .string v1.s, .string o1, .slice la1 n2 lc1, .slice ka1 n4 kc1, .int .i64 (pp1 : Nat), .slice ga1 n6 gc1, .slice oa1 n oc1, .int .i64 lim1, .int .i64 0] 36)
  obtain ⟨a0, a1, a2, a3, a4, a5, a6, a7, a8, a9, a10, a11, a12, a13, a14, a15, a16⟩ := cells17 B1
  have B0 := Lib.hid (show ((w.alloc (.cells #[.slice ia1 n1 ic1, .bool al1, .string ta1, .int .i64 (k1 : Nat), .string c1, .int .i64 (rr1 : Nat), .int .i64 v1.k, .int .i64 v1.n, .string v1.s, .string o1, .slice la1 n2 lc1, .slice ka1 n4 kc1, .int .i64 (pp1 : Nat), .slice ga1 n6 gc1, .slice oa1 n oc1, .int .i64 lim1, .int .i64 0] 36)).drew).heap[w.heap.size]? = some (.cells #[.slice ia1 n1 ic1, .bool al1, .string ta1, .int .i64 (k1 : Nat), .string c1, .int .i64 (rr1 : Nat), .int .i64 v1.k, .int .i64 v1.n, .string v1.s, .string o1, .slice la1 n2 lc1, .slice ka1 n4 kc1, .int .i64 (pp1 : Nat), .slice ga1 n6 gc1, .slice oa1 n oc1, .int .i64 lim1, .int .i64 0] 36 (0, 0)) from B1)
  clear B1
  go_enter Tryz.func21, Tryz.ntmps21
  go_wp2_with fail
  go_region_law (first
    | ((try go_simp); go_at_call 39; (with_reducible refine (HC.out _ (by first | exact KO.out | exact grown_drewT K0.out)).mono ?_); rintro e w5 ⟨⟨a5', e5, rfl, z5, o5⟩, g5⟩
       have G5 := Lib.hid g5
       have KC : Hid (w.grownBy w5 none) := Lib.hid (World.grownBy.trans (by first | exact KO.out | exact grown_drewT K0.out) g5)
       have O5 := Lib.hid (own_baseN (base' := w.heap.size) o5 (by first | exact KO.out.size | exact K0.out.size))
       have BC : Hid (w5.heap[w.heap.size]? = some (.cells #[.slice ia1 n1 ic1, .bool al1, .string ta1, .int .i64 (k1 : Nat), .string c1, .int .i64 (rr1 : Nat), .int .i64 v1.k, .int .i64 v1.n, .string v1.s, .string o1, .slice la1 n2 lc1, .slice ka1 n4 kc1, .int .i64 (pp1 : Nat), .slice ga1 n6 gc1, .slice oa1 n oc1, .int .i64 lim1, .int .i64 0] 36 (0, 0))) := Lib.hid (blk_grown g5 (by first | exact BO.out | exact B0.out))
       obtain ⟨d0, d1, d2, d3, d4, d5, d6, d7, d8, d9, d10, d11, d12, d13, d14, d15, d16⟩ := cells17 BC.out
       clear g5 o5)
    | ((try go_simp); go_at_call 40; (with_reducible refine (HO.out _ (by first | exact KC.out | exact grown_drewT K0.out)).mono ?_); rintro e w6 ⟨a6', e6, rfl, z6, l6, g6⟩
       have G6 := Lib.hid g6
       have KO : Hid (w.grownBy w6 none) := Lib.hid (World.grownBy.trans (by first | exact KC.out | exact grown_drewT K0.out) g6)
       have W6 := Lib.hid z6
       have BO : Hid (w6.heap[w.heap.size]? = some (.cells #[.slice ia1 n1 ic1, .bool al1, .string ta1, .int .i64 (k1 : Nat), .string c1, .int .i64 (rr1 : Nat), .int .i64 v1.k, .int .i64 v1.n, .string v1.s, .string o1, .slice la1 n2 lc1, .slice ka1 n4 kc1, .int .i64 (pp1 : Nat), .slice ga1 n6 gc1, .slice oa1 n oc1, .int .i64 lim1, .int .i64 0] 36 (0, 0))) := Lib.hid (blk_grown g6 (by first | exact BC.out | exact B0.out))
       obtain ⟨d0, d1, d2, d3, d4, d5, d6, d7, d8, d9, d10, d11, d12, d13, d14, d15, d16⟩ := cells17 BO.out
       clear g6 z6 l6)
    | (refine step_append_own_any _ (by rfl) (.tmp 5) (.tmp 7) itm_el (by rfl) w.heap.size _ n1 xs1 (by rfl) (by first | exact O5.out.kept G6.out (by first | (left; rfl) | (cases a5' <;> simp [Value.ownBlock])) | exact O5.out) a6' n e6 xs2 (by rfl) ?qa HL2.out ?qn H1.out (by omega) (by first | exact KO.out.size | exact KC.out.size) ?_
       case qa => exact W6.out.nil_of
       case qn => exact (by first | exact (W6.out.keepG G5.out).at | exact W6.out.at)
       intro v7 w7 o7 g7
       have O7 := Lib.hid o7
       have G7 := Lib.hid g7
       clear o7 g7)
    | fail)
  all_goals
    go_wp2_with fail
    go_ret
    exact ⟨⟨_, rfl, O7.out⟩, grown_thenT (by first | exact KO.out | exact KC.out) G7.out (fun j hj => (World.ownsRow.lt O5.out j hj).1)⟩
end Go.Proofs.YtjaclmoobfeikaaGreatDoor
namespace Go.Proofs.YtjaclmoobfeikaaGreatDoor
open Go.RowKit

/-- Some elements more, that lie anywhere, or none. -/
theorem run_append_winM {sl e : TypeId} {z : Value} {sz by' : Nat} (E : ElT sl e z sz by') {w : World} {a : Option Addr} {cap n : Nat} {xs : List Value} (h : Win sz w a cap n xs) (hcap : cap ≠ 0)
    (A : Option Addr) (m c : Nat) (news : List Value) (hA : A = none → m = 0) (hnl : news.length = m * sz) (hn : n + m ≤ 1000000) (hnews : ∀ ad, A = some ad → ∀ j u, news[j]? = some u → w.cell? (ad.add j) = some u) (h1 : ∀ u ∈ news, u.oneCell' = true) (ty : TypeId) :
    ∃ a' cap' w', (Builtin.append_ #[sl, sl] ty #[.slice a n cap, .slice A m c]).run Tryz.prog w = .ok (.slice a' (n + m) cap') w' ∧ Win sz w' a' cap' (n + m) (xs ++ news) ∧ Only (bk a) w w' ∧ (∀ k, bk a' k → bk a k ∨ w.heap.size ≤ k) ∧ cap' ≠ 0 := by
  obtain ⟨i0, hi, hz0, hz1, hz2⟩ := E.inf
  have hlen := h.len
  have hpos := E.pos
  have hby := E.few
  have hle := h.le
  have hmx : n + m ≤ maxLen := by unfold maxLen; omega
  have hbb : (n + m) * by' ≤ 140737488355328 := by
    have : (n + m) * by' ≤ 1000000 * 256 := Nat.mul_le_mul hn hby
    omega
  obtain ⟨g, off, rfl, hc, hs, hf⟩ := h.mem.resolve_left hcap
  cases A with
  | none =>
    obtain rfl := hA rfl
    obtain rfl : news = [] := List.eq_nil_of_length_eq_zero (by omega)
    refine ⟨some ⟨g, off, none⟩, cap, w, ?_, by rw [List.append_nil]; exact h, Only.refl _ w, fun k hk => .inl hk, hcap⟩
    simp [Builtin.append_, run_underlying E.und, sizeOf, typeInfo, hi, Builtin.lenOf, Builtin.firstCells, hle, storeCells]
  | some ad =>
    by_cases hroom : n + m ≤ cap
    · have hsz : n * sz + m * sz ≤ cap * sz := by
        have := Nat.mul_le_mul_right sz hroom
        rw [Nat.add_mul] at this; omega
      have hr := run_append_room_cells (P := Tryz.prog) w sl ty e i0 E.und hi g off n cap ad m c news (by rw [hz1, hnl]) (hnews ad rfl) h1 hroom
        (fun j hj => by rw [hz1, Nat.add_assoc]; exact hs _ (by omega)) (fun j hj => hf _)
      rw [hz1] at hr
      refine ⟨_, _, _, hr, h.put (by omega) (by omega) (by rw [List.length_append, hlen, hnl, Nat.add_mul]) hroom (fun j u hj => ?_), (only_setCells g news _ w).mono (fun k _ e => by rw [bk_some]; exact e), fun k hk => .inl hk, hcap⟩
      by_cases hlt : j < n * sz
      · rw [List.getElem?_append_left (by omega)] at hj
        exact .inr ⟨.inl hlt, hj⟩
      · rw [List.getElem?_append_right (by omega), hlen] at hj
        exact .inl ⟨by omega, hj⟩
    · obtain ⟨v', w', hrun, r1, r2⟩ := run_append_arg_grows (P := Tryz.prog) w sl ty e i0 z sz by' E.und hi hz0 hz1 hz2 E.zc hpos ⟨g, off, none⟩ n cap xs hlen (fun j u hj => by rw [add_atT]; exact hc j u hj) ad m c news hnl (hnews ad rfl) (by omega) hmx hbb
      obtain ⟨a', cap', rfl, hw, hb⟩ := own_win r1
      exact ⟨a', cap', w', hrun, hw, .of_none r2, fun k hk => .inr (World.ownsRow.lt r1 k (hb k hk)).1, by have := hw.le; omega⟩
theorem wpList_append_winM {ops : Array Oper} {rest : List Oper} {o : Oper} {act : Act} {Q : Exit → Act → World → Prop} {w : World} (hgd : o.guard = none) (s x : Operand) {sl e : TypeId} {z : Value} {sz by' : Nat} (E : ElT sl e z sz by')
    (ho : o.op = .call { callee := .builtin .append, args := #[s, x], argTypes := #[sl, sl] })
    {a : Option Addr} {cap n : Nat} {xs : List Value} (h : Win sz w a cap n xs) (hcap : cap ≠ 0)
    (hs : act.eval s = .slice a n cap) (A : Option Addr) (m c : Nat) (hx : act.eval x = .slice A m c) (news : List Value) (hA : A = none → m = 0) (hnl : news.length = m * sz) (hn : n + m ≤ 1000000) (hnews : ∀ ad, A = some ad → ∀ j u, news[j]? = some u → w.cell? (ad.add j) = some u) (h1 : ∀ u ∈ news, u.oneCell' = true)
    (hk : ∀ a' cap' w', Win sz w' a' cap' (n + m) (xs ++ news) → Only (bk a) w w' → (∀ k, bk a' k → bk a k ∨ w.heap.size ≤ k) → cap' ≠ 0 → wpList Tryz.prog ops Q rest (act.put o.dst (.slice a' (n + m) cap')) w') :
    wpList Tryz.prog ops Q (o :: rest) act w := by
  obtain ⟨a', cap', w', hr, h2, h3, h4, h5⟩ := run_append_winM E h hcap A m c news hA hnl hn hnews h1 o.type
  have hK := hk a' cap' w' h2 h3 h4 h5
  refine wpList_plain hgd fun K hK' => ?_
  unfold Oper.wp
  simp only [execOp, ho, resolve, invoke, builtin, Sem.run_bind, Sem.run_pure, Result.andThen_ok, List.map_toArray, List.map_cons, List.map_nil, hs, hx, hr]
  exact hK' _ _ hK
/-- The same at a step of a region that draws. -/
theorem step_append_winM {ops : Array Oper} {o : Oper} {act : Act} {K : Act → World → Prop} {Q : Exit → Act → World → Prop} {F : Prop} {w : World} (hgd : o.guard = none) (s x : Operand) {sl e : TypeId} {z : Value} {sz by' : Nat} (E : ElT sl e z sz by')
    (ho : o.op = .call { callee := .builtin .append, args := #[s, x], argTypes := #[sl, sl] })
    {a : Option Addr} {cap n : Nat} {xs : List Value} (h : Win sz w a cap n xs) (hcap : cap ≠ 0)
    (hs : act.eval s = .slice a n cap) (A : Option Addr) (m c : Nat) (hx : act.eval x = .slice A m c) (news : List Value) (hA : A = none → m = 0) (hnl : news.length = m * sz) (hn : n + m ≤ 1000000) (hnews : ∀ ad, A = some ad → ∀ j u, news[j]? = some u → w.cell? (ad.add j) = some u) (h1 : ∀ u ∈ news, u.oneCell' = true)
    (hk : ∀ a' cap' w', Win sz w' a' cap' (n + m) (xs ++ news) → Only (bk a) w w' → (∀ k, bk a' k → bk a k ∨ w.heap.size ≤ k) → cap' ≠ 0 → K (act.put o.dst (.slice a' (n + m) cap')) w') :
    if Region.wanted o (yielded ops act.tmps) = true then Oper.wp Tryz.prog o act w K Q else F := by
  have hw : Region.wanted o (yielded ops act.tmps) = true := by simp [Region.wanted, hgd]
  rw [if_pos hw]
  obtain ⟨a', cap', w', hr, h2, h3, h4, h5⟩ := run_append_winM E h hcap A m c news hA hnl hn hnews h1 o.type
  unfold Oper.wp execOp
  simp only [ho, resolve, invoke, builtin, Sem.run_bind, Sem.run_pure, Result.andThen_ok, List.map_toArray, List.map_cons, List.map_nil, hs, hx, hr]
  exact hk a' cap' w' h2 h3 h4 h5
end Go.Proofs.YtjaclmoobfeikaaGreatDoor
