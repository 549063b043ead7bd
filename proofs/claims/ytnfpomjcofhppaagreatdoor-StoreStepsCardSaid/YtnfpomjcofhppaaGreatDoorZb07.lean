/- tree's top. Journals in memory: commits without changes, in a window of a block. Contracts of schema's fit and Row. -/
import Derived.Test.YtnfpomjcofhppaaGreatDoorZb06
import Derived.Deep.RegionWith
import Derived.Deep.RegionHeld3
import Derived.BigQuiet
import Derived.StillTailTactics
import Derived.ArgAppend
import Derived.Maps.AppendAt
import Derived.Lib.Hide
namespace Go.Proofs.YtnfpomjcofhppaaGreatDoor
open Go.RowKit

theorem region_tailT {P : Program} {id : Nat} {Q : Exit → Act → World → Prop} {a : Act} {w : World} {l : List Oper} (n : Nat) (hm : P.follows .mixedOrders = true) (hB : Region.lexTailB .any l.toArray n = true)
    (h : wpStill P l.toArray w.drew (fun a' => wpList P l.toArray Q (l.drop n) a' w.drew) (l.take n) a) : (Code.region id l.toArray true).wp P Q a w := wp_region_still_tail n hm hB h
set_option maxRecDepth 100000 in
set_option maxHeartbeats 6400000 in
theorem top_gen (hl hr nl nr m q : Nat) (lp rp ka va : Option Addr) (kc vc : Nat) (w : World) (b1 : hl ≤ 4611686018427387904) (b2 : hr ≤ 4611686018427387904) (b3 : nl ≤ 2305843009213693952) (b4 : nr ≤ 2305843009213693952)
    (H1 : Hid (∀ W, w.grownBy W none → Calls Tryz.prog 95 #[.pointer lp] W fun e w' => e = .returned (.int .i64 hl) ∧ W = w'))
    (H2 : Hid (∀ W, w.grownBy W none → Calls Tryz.prog 95 #[.pointer rp] W fun e w' => e = .returned (.int .i64 hr) ∧ W = w'))
    (H3 : Hid (∀ W, w.grownBy W none → Calls Tryz.prog 45 #[.pointer lp] W fun e w' => e = .returned (.int .i64 nl) ∧ W = w'))
    (H4 : Hid (∀ W, w.grownBy W none → Calls Tryz.prog 45 #[.pointer rp] W fun e w' => e = .returned (.int .i64 nr) ∧ W = w')) :
    Calls Tryz.prog 98 #[.pointer lp, .agg #[.slice ka m kc, .slice va q vc], .pointer rp] w fun e w' => e = .returned (.pointer (some ⟨w.heap.size + 1, 0, none⟩)) ∧ w.grownBy w' none ∧ w'.heap[w.heap.size + 1]? = some (.cells #[.slice ka m kc, .slice va q vc, .pointer lp, .pointer rp, .int .i64 (max (hl : Int) hr + 1), .int .i64 ((nl : Int) + 1 + nr)] 176) := by
  have K0 := Lib.hid (World.grownBy_alloc w (.cells #[.slice ka m kc, .slice va q vc] 174) none)
  go_enter Tryz.func98, Tryz.ntmps98
  go_wp2_with fail
  refine region_tailT 16 (by kernel_rfl) (by kernel_rfl) ?_
  simp only [List.take_succ_cons, List.take_zero, List.drop_succ_cons, List.drop_zero]
  repeat still_step
  still_call ((H1.out _ (grown_drewT K0.out)).mono fun e w'' h => ⟨h.1, h.2.symm⟩)
  repeat still_step
  still_call ((H2.out _ (grown_drewT K0.out)).mono fun e w'' h => ⟨h.1, h.2.symm⟩)
  repeat still_step
  still_call ((H3.out _ (grown_drewT K0.out)).mono fun e w'' h => ⟨h.1, h.2.symm⟩)
  repeat still_step
  still_call ((H4.out _ (grown_drewT K0.out)).mono fun e w'' h => ⟨h.1, h.2.symm⟩)
  repeat still_step
  refine wpStill_nil ?_
  go_wp2_with fail
  go_ret
  have e1 : IntKind.i64.wrap (max (hl : Int) hr + 1) = max (hl : Int) hr + 1 := by rw [IntKind.wrap_i64]; omega
  have e2 : IntKind.i64.wrap ((nl : Int) + 1) = (nl : Int) + 1 := by rw [IntKind.wrap_i64]; omega
  have e3 : IntKind.i64.wrap ((nl : Int) + 1 + nr) = (nl : Int) + 1 + nr := by rw [IntKind.wrap_i64]; omega
  simp only [e1, e2, e3]
  refine ⟨rfl, grown_drewT (K0.out.trans (World.grownBy_alloc _ _ none)), ?_⟩
  have e := heap_alloc_new (w.alloc (.cells #[.slice ka m kc, .slice va q vc] 174)) (.cells #[.slice ka m kc, .slice va q vc, .pointer lp, .pointer rp, .int .i64 (max (hl : Int) hr + 1), .int .i64 ((nl : Int) + 1 + nr)] 176)
  rw [World.size_alloc] at e
  exact e
/-- A node that is made. -/
theorem top_any (S : Nat → Prop) (l r : Tre) (k v : List Vl) (lp rp ka va : Option Addr) (kc vc : Nat) (w : World) (hS : ∀ b, w.heap.size ≤ b → S b) (hl : TrAt S w l lp) (hr : TrAt S w r rp) (hk : RwS S w ka k) (hv : RwS S w va v) (hn : l.n + r.n ≤ 1073741824) :
    Calls Tryz.prog 98 #[.pointer lp, .agg #[.slice ka k.length kc, .slice va v.length vc], .pointer rp] w fun e w' => (∃ q, e = .returned (.pointer q) ∧ TrAt S w' (.node l k v r) q) ∧ w.grownBy w' none := by
  have a1 := Tr.h_le l
  have a2 := Tr.h_le r
  refine (top_gen l.h r.h l.n r.n k.length v.length lp rp ka va kc vc w (by omega) (by omega) (by omega) (by omega) (Lib.hid fun W hW => height_any S l lp W (hl.keep (.of hW))) (Lib.hid fun W hW => height_any S r rp W (hr.keep (.of hW))) (Lib.hid fun W hW => len_any S l lp W (hl.keep (.of hW))) (Lib.hid fun W hW => len_any S r rp W (hr.keep (.of hW)))).mono ?_
  rintro e w' ⟨rfl, hg, hb⟩
  refine ⟨⟨_, rfl, w.heap.size + 1, ka, kc, va, vc, lp, rp, rfl, hS _ (by omega), (Array.getElem?_eq_some_iff.1 hb).1, ⟨cell_of_row _ _ 0 _ _ _ hb, cell_of_row _ _ 1 _ _ _ hb, cell_of_row _ _ 2 _ _ _ hb, cell_of_row _ _ 3 _ _ _ hb, ?_, ?_⟩, hk.keep (.of hg), hv.keep (.of hg), hl.keep (.of hg), hr.keep (.of hg)⟩, hg⟩
  · rw [cell_of_row _ _ 4 _ _ _ hb]
    show some (Value.int .i64 (max (l.h : Int) r.h + 1)) = _
    congr 2
    simp only [Tr.h]
    omega
  · rw [cell_of_row _ _ 5 _ _ _ hb]
    show some (Value.int .i64 ((l.n : Int) + 1 + r.n)) = _
    congr 2
end Go.Proofs.YtnfpomjcofhppaaGreatDoor
namespace Go.Proofs.YtnfpomjcofhppaaGreatDoor
open Go.RowKit

/-- The cells of n commits without changes behind a version. -/
def cmL (low : Int) : Nat → List Value
  | 0 => []
  | n + 1 => cmL low n ++ [.int .i64 (low + 1 + n), .slice none 0 0]
theorem cmL_len (low : Int) (n : Nat) : (cmL low n).length = n * 2 := by
  induction n with
  | zero => rfl
  | succ n ih => simp [cmL, ih]; omega
theorem cmL_cells {P : Nat → Value → Prop} {low : Int} : ∀ {n : Nat}, (∀ i, i < n → P (i * 2) (.int .i64 (low + 1 + i)) ∧ P (i * 2 + 1) (.slice none 0 0)) → ∀ j u, (cmL low n)[j]? = some u → P j u
  | 0, _, j, u, h => by simp [cmL] at h
  | n + 1, hp, j, u, h => by
    simp only [cmL] at h
    by_cases hj : j < (cmL low n).length
    · rw [List.getElem?_append_left hj] at h
      exact cmL_cells (fun i hi => hp i (by omega)) j u h
    · rw [List.getElem?_append_right (by omega)] at h
      rw [cmL_len] at h hj
      have hn := hp n (by omega)
      obtain ⟨k, hk⟩ : ∃ k, k = j - n * 2 := ⟨_, rfl⟩
      rw [← hk] at h
      match k, hk, h with
      | 0, hk, h => simp at h; subst h; rw [show j = n * 2 by omega]; exact hn.1
      | 1, hk, h => simp at h; subst h; rw [show j = n * 2 + 1 by omega]; exact hn.2
      | k + 2, _, h => simp at h
theorem cmL_at (low : Int) : ∀ n i, i < n → (cmL low n)[i * 2]? = some (.int .i64 (low + 1 + i)) ∧ (cmL low n)[i * 2 + 1]? = some (.slice none 0 0)
  | n + 1, i, hi => by
    simp only [cmL]
    have hl := cmL_len low n
    by_cases h : i < n
    · have := cmL_at low n i h
      rw [List.getElem?_append_left (by omega), List.getElem?_append_left (by omega)]
      exact this
    · obtain rfl : i = n := by omega
      rw [List.getElem?_append_right (by omega), List.getElem?_append_right (by omega), hl]
      simp
theorem cmL_one (low : Int) (n : Nat) : ∀ u ∈ cmL low n, u.oneCell' = true := by
  induction n with
  | zero => intro u hu; simp [cmL] at hu
  | succ n ih =>
    intro u hu
    simp only [cmL, List.mem_append, List.mem_cons, List.not_mem_nil, or_false] at hu
    rcases hu with hu | rfl | rfl
    · exact ih u hu
    · rfl
    · rfl
/-- A window that holds n commits behind a version. -/
def Kp (B J : Nat) (w : World) (a : Option Addr) (cap : Nat) (low : Int) (n : Nat) : Prop :=
  n ≤ cap ∧ cap ≤ maxLen ∧ (cap = 0 ∨ ∃ g off cs, a = some ⟨g, off, none⟩ ∧ B ≤ g ∧ g ≠ J ∧ w.heap[g]? = some (.cells cs 36 (0, 0)) ∧ off + cap * 2 ≤ cs.size ∧ ∀ i, i < n → cs[off + i * 2]? = some (.int .i64 (low + 1 + i)) ∧ cs[off + i * 2 + 1]? = some (.slice none 0 0))
/-- The journal's own block. -/
def Jn (J : Nat) (w : World) (room en : Int) (a : Option Addr) (n cap : Nat) : Prop := w.heap[J]? = some (.cells #[.int .i64 room, .int .i64 en, .slice a n cap] 135 (0, 0))
theorem Jn.lt {J : Nat} {w : World} {room en : Int} {a : Option Addr} {n cap : Nat} (h : Jn J w room en a n cap) : J < w.heap.size := by
  rcases Nat.lt_or_ge J w.heap.size with h' | h'
  · exact h'
  · rw [Jn, Array.getElem?_eq_none h'] at h; cases h
theorem Jn.cells {J : Nat} {w : World} {room en : Int} {a : Option Addr} {n cap : Nat} (h : Jn J w room en a n cap) :
    w.cell? ⟨J, 0, none⟩ = some (.int .i64 room) ∧ w.cell? ⟨J, 1, none⟩ = some (.int .i64 en) ∧ w.cell? ⟨J, 2, none⟩ = some (.slice a n cap) ∧ w.frozen? ⟨J, 0, none⟩ = false ∧ w.frozen? ⟨J, 1, none⟩ = false ∧ w.frozen? ⟨J, 2, none⟩ = false := by
  have f : ∀ o, w.frozen? ⟨J, o, none⟩ = false := fun o => by unfold Jn at h; simp [World.frozen?, h]
  exact ⟨cell_of_row _ _ 0 _ _ _ h, cell_of_row _ _ 1 _ _ _ h, cell_of_row _ _ 2 _ _ _ h, f 0, f 1, f 2⟩
theorem Jn.keep {J : Nat} {w w' : World} {room en : Int} {a : Option Addr} {n cap : Nat} {row : Option Nat} (h : Jn J w room en a n cap) (hg : w.grownBy w' row) (hr : some J ≠ row) : Jn J w' room en a n cap :=
  (hg.block J h.lt hr).trans h
theorem Jn.setEnd {J : Nat} {w : World} {room en e2 : Int} {a : Option Addr} {n cap : Nat} (h : Jn J w room en a n cap) : Jn J (w.setCell ⟨J, 1, none⟩ (.int .i64 e2)) room e2 a n cap := by
  unfold Jn at h ⊢
  simp [World.setCell, Array.getElem?_modify, h]
theorem Jn.setKept {J : Nat} {w : World} {room en : Int} {a a2 : Option Addr} {n cap n2 cap2 : Nat} (h : Jn J w room en a n cap) : Jn J (w.setCell ⟨J, 2, none⟩ (.slice a2 n2 cap2)) room en a2 n2 cap2 := by
  unfold Jn at h ⊢
  simp [World.setCell, Array.getElem?_modify, h]
theorem Kp.keep {B J : Nat} {w w' : World} {a : Option Addr} {cap n : Nat} {low : Int} {row : Option Nat} (h : Kp B J w a cap low n) (hg : w.grownBy w' row) (hr : ∀ k, row = some k → k = J ∨ k < B) : Kp B J w' a cap low n := by
  refine ⟨h.1, h.2.1, h.2.2.imp id fun ⟨g, off, cs, e, hb, hj, hh, hs, hc⟩ => ⟨g, off, cs, e, hb, hj, ?_, hs, hc⟩⟩
  rw [hg.block g (Array.getElem?_eq_some_iff.1 hh).1 (fun e => by rcases hr g e.symm with rfl | h; exact hj rfl; omega)]
  exact hh
theorem Kp.at {B J : Nat} {w : World} {a : Option Addr} {cap n : Nat} {low : Int} (h : Kp B J w a cap low n) (hn : 0 < cap) : ∃ g off, a = some ⟨g, off, none⟩ ∧ B ≤ g ∧ g ≠ J ∧ g < w.heap.size ∧ (∀ o, w.frozen? ⟨g, o, none⟩ = false) ∧ (∀ o, o < cap * 2 → (w.cell? ⟨g, off + o, none⟩).isSome = true) ∧ ∀ i, i < n → w.cell? ⟨g, off + i * 2, none⟩ = some (.int .i64 (low + 1 + i)) ∧ w.cell? ⟨g, off + i * 2 + 1, none⟩ = some (.slice none 0 0) := by
  rcases h.2.2 with h0 | ⟨g, off, cs, e, hb, hj, hh, hs, hc⟩
  · omega
  · refine ⟨g, off, e, hb, hj, (Array.getElem?_eq_some_iff.1 hh).1, fun o => by simp [World.frozen?, hh], fun o ho => ?_, fun i hi => ?_⟩
    · rw [cell_of_row w g _ cs _ _ hh, Array.getElem?_eq_getElem (by omega)]; rfl
    · rw [cell_of_row w g _ cs _ _ hh, cell_of_row w g _ cs _ _ hh]; exact hc i hi
/-- A journal that keeps the n last of its commits. -/
def JAt (B J : Nat) (w : World) (room en : Int) (n : Nat) : Prop := B ≤ J ∧ ∃ a cap, Jn J w room en a n cap ∧ Kp B J w a cap (en - n) n
theorem JAt.keep {B J : Nat} {w w' : World} {room en : Int} {n : Nat} (h : JAt B J w room en n) (hg : w.grownBy w' none) : JAt B J w' room en n := by
  obtain ⟨hb, a, cap, h1, h2⟩ := h
  exact ⟨hb, a, cap, h1.keep hg (by simp), h2.keep hg (by simp)⟩
theorem Kp.frozenless {w : World} {g : Nat} {cs : Array Value} (i : Nat) (v : Value) (h : w.heap[g]? = some (.cells cs 36 (0, 0))) : (w.setCell ⟨g, i, none⟩ v).heap[g]? = some (.cells (cs.setIfInBounds i v) 36 (0, 0)) := by
  simp [World.setCell, Array.getElem?_modify, h]
theorem below_set {B : Nat} {w w' : World} (h : Below B w w') {g : Nat} (hg : B ≤ g) (i : Nat) (v : Value) : Below B w (w'.setCell ⟨g, i, none⟩ v) := h.setCell hg v
theorem two_news (x y : Value) {w : World} {ad : Addr} (h0 : w.cell? ad = some x) (h1 : w.cell? (ad.add 1) = some y) : ∀ j u, [x, y][j]? = some u → w.cell? (ad.add j) = some u := by
  intro j u hj
  match j, hj with
  | 0, hj =>
    simp at hj
    subst hj
    have e : ad.add 0 = ad := by unfold Addr.add; split <;> simp_all
    rw [e]; exact h0
  | 1, hj => simp at hj; subst hj; exact h1
theorem com_info : (Tryz.prog.info? 36).map (fun i => (i.zero, i.size, i.bytes)) = some (some (.agg #[.int .i64 0, .slice none 0 0]), 2, 32) := by kernel_rfl
/-- One commit more. -/
theorem run_append_kp {B J : Nat} {w : World} {a : Option Addr} {cap n : Nat} {low : Int} (h : Kp B J w a cap low n) (hB : B ≤ w.heap.size) (hJ : J < w.heap.size) (hn : n ≤ 1000000)
    (ad : Addr) (c : Nat) (hnews : ∀ j u, [Value.int .i64 (low + 1 + n), .slice none 0 0][j]? = some u → w.cell? (ad.add j) = some u) (ty : TypeId) :
    ∃ a' cap' w', (Builtin.append_ #[27, 27] ty #[.slice a n cap, .slice (some ad) 1 c]).run Tryz.prog w = .ok (.slice a' (n + 1) cap') w' ∧ Kp B J w' a' cap' low (n + 1) ∧ Below B w w' ∧ (∀ k, k < w.heap.size → (∀ g off, a = some ⟨g, off, none⟩ → 0 < cap → k ≠ g) → w'.heap[k]? = w.heap[k]?) := by
  obtain ⟨i0, hi, hz0, hz1, hz2⟩ := info_partsT com_info
  have hlen := cmL_len low n
  have h1 : ∀ u ∈ [Value.int .i64 (low + 1 + n), .slice none 0 0], u.oneCell' = true := by
    intro u hu
    simp only [List.mem_cons, List.not_mem_nil, or_false] at hu
    rcases hu with rfl | rfl <;> rfl
  have own : ∀ v' w', w'.ownsRow w.heap.size 36 2 v' (n + 1) (cmL low n ++ [.int .i64 (low + 1 + n), .slice none 0 0]) → ∃ a' cap', v' = .slice a' (n + 1) cap' ∧ Kp B J w' a' cap' low (n + 1) := by
    intro v' w' ho
    rcases ho.2 with ⟨_, h0⟩ | ⟨g, cc, cur, hv, hb, hg, hc, hcm, hcs, htk⟩
    · omega
    · refine ⟨_, cc, hv, hc, hcm, .inr ⟨g, 0, cur, rfl, by omega, by omega, hg, by omega, fun i hi => ?_⟩⟩
      have ha := cmL_at low (n + 1) i hi
      have hsn : cmL low (n + 1) = cur.toList.take ((n + 1) * 2) := htk.symm
      rw [hsn, List.getElem?_take, List.getElem?_take, if_pos (by omega), if_pos (by omega)] at ha
      simpa using ha
  by_cases hroom : n + 1 ≤ cap
  · rcases h.2.2 with h0 | ⟨g, off, cs, rfl, hb, hj, hh, hs, hc⟩
    · omega
    · have hr := run_append_room_cells (P := Tryz.prog) w 27 ty 36 i0 Tryz.underlying27 hi g off n cap ad 1 c _ (by rw [hz1]; rfl) hnews h1 hroom
        (fun j hj => by rw [cell_of_row w g _ cs _ _ hh, hz1]; simp at hj; rw [Array.getElem?_eq_getElem (by omega)]; rfl)
        (fun j hj => by simp [World.frozen?, hh])
      rw [hz1] at hr
      refine ⟨_, _, _, hr, ⟨hroom, h.2.1, .inr ⟨g, off, (cs.setIfInBounds (off + n * 2) (.int .i64 (low + 1 + n))).setIfInBounds (off + n * 2 + 1) (.slice none 0 0), rfl, hb, hj, Kp.frozenless _ _ (Kp.frozenless _ _ hh), by simpa using hs, fun i hi => ?_⟩⟩, below_set (below_set (Below.refl _ _) hb _ _) hb _ _, fun k hk hne => ?_⟩
      · rcases Nat.lt_or_ge i n with hlt | hge
        · have := hc i hlt
          rw [Array.getElem?_setIfInBounds_ne (by omega), Array.getElem?_setIfInBounds_ne (by omega), Array.getElem?_setIfInBounds_ne (by omega), Array.getElem?_setIfInBounds_ne (by omega)]
          exact this
        · obtain rfl : i = n := by omega
          refine ⟨?_, ?_⟩
          · rw [Array.getElem?_setIfInBounds_ne (by omega), Array.getElem?_setIfInBounds_self_of_lt (by omega)]
          · rw [Array.getElem?_setIfInBounds_self_of_lt (by simp; omega)]
      · have hkg : k ≠ g := hne g off rfl (by omega)
        show ((w.setCell _ _).setCell _ _).heap[k]? = _
        rw [Below.heap_setCell _ _ _ _ hkg, Below.heap_setCell _ _ _ _ hkg]
  · obtain rfl : cap = n := by have := h.1; omega
    have fin : ∀ v' w', (Builtin.append_ #[27, 27] ty #[.slice a cap cap, .slice (some ad) 1 c]).run Tryz.prog w = .ok v' w' → w'.ownsRow w.heap.size 36 2 v' (cap + 1) (cmL low cap ++ [.int .i64 (low + 1 + cap), .slice none 0 0]) → w.grownBy w' none → ∃ a' cap' w', (Builtin.append_ #[27, 27] ty #[.slice a cap cap, .slice (some ad) 1 c]).run Tryz.prog w = .ok (.slice a' (cap + 1) cap') w' ∧ Kp B J w' a' cap' low (cap + 1) ∧ Below B w w' ∧ (∀ k, k < w.heap.size → (∀ g off, a = some ⟨g, off, none⟩ → 0 < cap → k ≠ g) → w'.heap[k]? = w.heap[k]?) := by
      intro v' w' hr ho hg
      obtain ⟨a', cap', rfl, hk⟩ := own v' w' ho
      exact ⟨a', cap', w', hr, hk, (below_grownT hg).mono hB, fun k hk _ => hg.block k hk (by simp)⟩
    have hmx : cap + 1 ≤ maxLen := by unfold maxLen; omega
    rcases h.2.2 with h0 | ⟨g, off, cs, rfl, hb, hj, hh, hs, hc⟩
    · subst h0
      cases a with
      | none =>
        obtain ⟨v', w', hrun, r1, r2, _⟩ := run_append_own (P := Tryz.prog) w w.heap.size 27 ty 36 i0 (.agg #[.int .i64 0, .slice none 0 0]) 2 32 Tryz.underlying27 hi hz0 hz1 hz2 rfl (by decide) (.slice none 0 0) 0 [] (World.ownsRow_nil w _ _ 2) ad 1 c _ rfl hnews h1 (by simpa using hmx) (by simp) (Nat.le_refl _)
        exact fin v' w' hrun (by simpa [cmL] using r1) ⟨r2.os, r2.tape, r2.output, r2.size, fun k hk _ => r2.block k hk (by simp [Value.ownBlock])⟩
      | some a' =>
        obtain ⟨v', w', hrun, r1, r2⟩ := run_append_arg_grows (P := Tryz.prog) w 27 ty 36 i0 (.agg #[.int .i64 0, .slice none 0 0]) 2 32 Tryz.underlying27 hi hz0 hz1 hz2 rfl (by decide) a' 0 0 [] (by simp) (by intro _ _ h'; simp at h') ad 1 c _ rfl hnews (by omega) (by simpa using hmx) (by simp)
        exact fin v' w' hrun (by simpa [cmL] using r1) r2
    · obtain ⟨v', w', hrun, r1, r2⟩ := run_append_arg_grows (P := Tryz.prog) w 27 ty 36 i0 (.agg #[.int .i64 0, .slice none 0 0]) 2 32 Tryz.underlying27 hi hz0 hz1 hz2 rfl (by decide) ⟨g, off, none⟩ cap cap (cmL low cap) hlen (cmL_cells (P := fun j u => w.cell? ((⟨g, off, none⟩ : Addr).add j) = some u) fun i hi => by
          rw [add_atT, add_atT, cell_of_row w g _ cs _ _ hh, cell_of_row w g _ cs _ _ hh]; exact hc i hi) ad 1 c _ rfl hnews (by omega) hmx (by omega)
      exact fin v' w' hrun r1 r2
/-- One commit more, at a step of a region that draws. -/
theorem step_append_kp {ops : Array Oper} {o : Oper} {a : Act} {K : Act → World → Prop} {Q : Exit → Act → World → Prop} {E : Prop} {w : World} (hgd : o.guard = none) (s x : Operand)
    (ho : o.op = .call { callee := .builtin .append, args := #[s, x], argTypes := #[27, 27] })
    {B J : Nat} {ao : Option Addr} {cap n : Nat} {low v : Int} (h : Kp B J w ao cap low n) (hB : B ≤ w.heap.size) (hJ : J < w.heap.size) (hn : n ≤ 1000000) (hv : v = low + 1 + n)
    (hs : a.eval s = .slice ao n cap) (ad : Addr) (c : Nat) (hx : a.eval x = .slice (some ad) 1 c) (hnews : ∀ j u, [Value.int .i64 v, .slice none 0 0][j]? = some u → w.cell? (ad.add j) = some u)
    (hk : ∀ a' cap' w', Kp B J w' a' cap' low (n + 1) → Below B w w' → (∀ k, k < w.heap.size → (∀ g off, ao = some ⟨g, off, none⟩ → 0 < cap → k ≠ g) → w'.heap[k]? = w.heap[k]?) → K (a.put o.dst (.slice a' (n + 1) cap')) w') :
    if Region.wanted o (yielded ops a.tmps) = true then Oper.wp Tryz.prog o a w K Q else E := by
  have hw : Region.wanted o (yielded ops a.tmps) = true := by simp [Region.wanted, hgd]
  rw [if_pos hw]
  subst hv
  obtain ⟨a', cap', w', hr, h1, h2, h3⟩ := run_append_kp h hB hJ hn ad c hnews o.type
  unfold Oper.wp execOp
  simp only [ho, resolve, invoke, builtin, Sem.run_bind, Sem.run_pure, Result.andThen_ok, List.map_toArray, List.map_cons, List.map_nil, hs, hx, hr]
  exact hk a' cap' w' h1 h2 h3
end Go.Proofs.YtnfpomjcofhppaaGreatDoor
namespace Go.Proofs.YtnfpomjcofhppaaGreatDoor
open Go.RowKit

/-- A row that lies in memory. -/
def VvAt (B : Nat) (w : World) (a : Option Addr) (l : List Vv) : Prop :=
  l.length ≤ 9223372036854775807 ∧ (l = [] ∨ ∃ b off, a = some ⟨b, off, none⟩ ∧ b < B ∧ ∀ i, i < l.length → w.cell? ⟨b, off + i * 3, none⟩ = some (.int .i64 (l.getD i default).k) ∧ w.cell? ⟨b, off + i * 3 + 1, none⟩ = some (.int .i64 (l.getD i default).n) ∧ w.cell? ⟨b, off + i * 3 + 2, none⟩ = some (.string (l.getD i default).s))
theorem VvAt.keep {B : Nat} {w w' : World} {a : Option Addr} {l : List Vv} (h : VvAt B w a l) {row : Option Nat} (hg : w.grownBy w' row) (hr : ∀ k, row = some k → B ≤ k) : VvAt B w' a l := by
  refine ⟨h.1, h.2.imp id fun ⟨b, off, e, hlt, hc⟩ => ⟨b, off, e, hlt, fun i hi => ?_⟩⟩
  have hb : some b ≠ row := fun e => by have := hr b e.symm; omega
  exact ⟨hg.cell (hc i hi).1 hb, hg.cell (hc i hi).2.1 hb, hg.cell (hc i hi).2.2 hb⟩
theorem VvAt.mono {B B' : Nat} {w : World} {a : Option Addr} {l : List Vv} (h : VvAt B w a l) (hB : B ≤ B') : VvAt B' w a l := ⟨h.1, h.2.imp id fun ⟨b, off, e, hlt, hc⟩ => ⟨b, off, e, by omega, hc⟩⟩
theorem VvAt.at {B : Nat} {w : World} {a : Option Addr} {l : List Vv} (h : VvAt B w a l) {i : Nat} (hi : i < l.length) : ∃ b off, a = some ⟨b, off, none⟩ ∧ b < B ∧ w.cell? ⟨b, off + i * 3, none⟩ = some (.int .i64 (l.getD i default).k) ∧ w.cell? ⟨b, off + i * 3 + 1, none⟩ = some (.int .i64 (l.getD i default).n) ∧ w.cell? ⟨b, off + i * 3 + 2, none⟩ = some (.string (l.getD i default).s) := by
  rcases h.2 with h | ⟨b, off, e, hlt, hc⟩
  · rw [h] at hi; simp at hi
  · exact ⟨b, off, e, hlt, hc i hi⟩
/-- Is it a row of these columns? -/
def Fits (l : List Cl) (r : List Vv) : Prop := r.length = l.length ∧ ∀ i, i < l.length → holdsB (l.getD i default) (r.getD i default) = true
set_option maxRecDepth 100000 in
set_option maxHeartbeats 3200000 in
theorem fit_any (a ra : Option Addr) (cap rcap : Nat) (l : List Cl) (r : List Vv) (w : World) (h : ColsAt w.heap.size w a l) (hr : VvAt w.heap.size w ra r) :
    Calls Tryz.prog 104 #[.slice a l.length cap, .slice ra r.length rcap] w fun e w' => ((Fits l r → e = .returned (.int .i64 0)) ∧ (¬ Fits l r → e = .returned (.int .i64 20))) ∧ w.grownBy w' none := by
  by_cases hl : r.length = l.length
  · have H := Lib.hid h
    have HR := Lib.hid hr
    have hlen := h.1
    have hl2 := Lib.hid hl
    obtain ⟨n, hn⟩ : ∃ n, n = l.length := ⟨_, rfl⟩
    have Hn := Lib.hid hn
    rw [hl, ← hn]
    rw [← hn] at hlen
    clear h hr hl hn
    go_enter Tryz.func104, Tryz.ntmps104
    go_wp2_with fail
    go_loopw [14] (fun i wr => ∃ (k : Nat), i = .int .i64 k ∧ k ≤ n ∧ Hid (∀ j, j < k → holdsB (l.getD j default) (r.getD j default) = true) ∧ Hid (w.grownBy wr none)) (fun i _ => n - (intOf i).toNat)
    case atStart => exact ⟨0, rfl, by omega, Lib.hid (fun j hj => by omega), Lib.hid (grown_refl6 _ _)⟩
    case round =>
      obtain ⟨k, rfl, hk, E, KR⟩ := hrel
      by_cases hlt : k < n
      · obtain ⟨b, off, rfl, _, c0, c1, c2⟩ := (H.out.keep KR.out (by simp)).at (i := k) (by rw [← Hn.out]; exact hlt)
        obtain ⟨b2, off2, rfl, hb2, v0, v1, v2⟩ := (HR.out.keep KR.out (by simp)).at (i := k) (by rw [hl2.out, ← Hn.out]; exact hlt)
        obtain ⟨x, hx⟩ : ∃ x, x = l.getD k default := ⟨_, rfl⟩
        obtain ⟨y, hy⟩ : ∃ y, y = r.getD k default := ⟨_, rfl⟩
        rw [← hx] at c0 c1 c2
        rw [← hy] at v0 v1 v2
        have Hx := Lib.hid hx
        have Hy := Lib.hid hy
        have HH := Lib.hid (fun W => holds_any x y W)
        have HB : Hid (∀ (B : Bool), holdsB x y = B → holdsB (l.getD k default) (r.getD k default) = B) := Lib.hid fun B h => by rw [← hx, ← hy]; exact h
        generalize holdsB x y = hb at *
        obtain ⟨xn, xk, xb⟩ := x
        obtain ⟨yk, yn, ys⟩ := y
        simp only at c0 c1 c2 v0 v1 v2 HH
        clear hx hy
        have o0 : ∀ o, (wr.alloc o).cell? ⟨b2, off2 + k * 3, none⟩ = some (.int .i64 yk) := fun o => (World.grownBy_alloc wr o none).cell v0 (by simp)
        have o1 : ∀ o, (wr.alloc o).cell? ⟨b2, off2 + k * 3 + 1, none⟩ = some (.int .i64 yn) := fun o => (World.grownBy_alloc wr o none).cell v1 (by simp)
        have o2 : ∀ o, (wr.alloc o).cell? ⟨b2, off2 + k * 3 + 2, none⟩ = some (.string ys) := fun o => (World.grownBy_alloc wr o none).cell v2 (by simp)
        have KA := Lib.hid (KR.out.trans (World.grownBy_alloc wr (.cells #[.string xn, .int .i64 xk, .bool xb] 114) none))
        cases hb
        · have HB1 := Lib.hid (HB.out false rfl)
          go_wp2_with fail
          go_region_with (go_at_call 112; (with_reducible refine (HH.out _).mono ?_); rintro e w4 ⟨rfl, hg4⟩; have K4 := Lib.hid hg4)
          all_goals
            go_wp2_with fail
            go_ret
            exact ⟨⟨fun hf => by (have := hf.2 k (by rw [← Hn.out]; exact hlt); rw [HB1.out] at this; cases this), fun _ => rfl⟩, (grown_drew6 KA.out).trans K4.out⟩
        · have HB1 := Lib.hid (HB.out true rfl)
          have E2 : Hid (∀ j, j < k + 1 → holdsB (l.getD j default) (r.getD j default) = true) := Lib.hid fun j hj => by
            by_cases e : j = k
            · rw [e]; exact HB1.out
            · exact E.out j (by omega)
          go_wp2_with fail
          go_region_with (go_at_call 112; (with_reducible refine (HH.out _).mono ?_); rintro e w4 ⟨rfl, hg4⟩; have K4 := Lib.hid hg4)
          all_goals
            go_wp2_with fail
            go_roundw
            case rel => exact ⟨k + 1, by go_num, by omega, E2, Lib.hid ((grown_drew6 KA.out).trans K4.out)⟩
            case measure => simp [intOf]; omega
      · obtain rfl : k = n := by omega
        go_wp2_with fail
        go_ret
        exact ⟨⟨fun _ => rfl, fun hf => absurd ⟨hl2.out, by rw [← Hn.out]; exact E.out⟩ hf⟩, KR.out⟩
  · have tt : ((r.length : Int) != (l.length : Int)) = true := by rw [bne_iff_ne]; omega
    have HN := Lib.hid (show ¬ Fits l r from fun h => hl h.1)
    generalize l.length = m at *
    generalize r.length = q at *
    clear h hr hl
    go_enter Tryz.func104, Tryz.ntmps104
    go_wp2_with fail
    go_ret
    exact ⟨⟨fun h => absurd h HN.out, fun _ => rfl⟩, grown_refl6 _ _⟩
set_option maxHeartbeats 1600000 in
theorem row_any6 (N : ByteArray) (K : Int) (a ra : Option Addr) (cap rcap : Nat) (l : List Cl) (r : List Vv) (w : World) (h : ColsAt w.heap.size w a l) (hr : VvAt w.heap.size w ra r) :
    Calls Tryz.prog 90 #[.agg #[.string N, .slice a l.length cap, .int .i64 K], .slice ra r.length rcap] w fun e w' => ((Fits l r → e = .returned (.int .i64 0)) ∧ (¬ Fits l r → e = .returned (.int .i64 20))) ∧ w.grownBy w' none := by
  have HF := Lib.hid (fun W (hW : w.grownBy W none) => fit_any a ra cap rcap l r W ((h.keep hW (by simp)).mono hW.size) ((hr.keep hW (by simp)).mono hW.size))
  generalize l.length = m at *
  generalize r.length = q at *
  clear h hr
  by_cases hf : Fits l r
  · have HF1 := Lib.hid (fun W hW => (HF.out W hW).mono fun e w' h => And.intro (h.1.1 hf) h.2)
    have HP := Lib.hid hf
    clear hf HF
    go_enter Tryz.func90, Tryz.ntmps90
    go_wp2_with fail
    refine (HF1.out _ (World.grownBy_alloc _ _ _)).mono ?_
    rintro e w2 ⟨rfl, hg⟩
    have K2 := Lib.hid ((World.grownBy_alloc w _ none).trans hg)
    clear hg
    go_wp2_with fail
    go_ret
    exact ⟨⟨fun _ => rfl, fun h => absurd HP.out h⟩, K2.out⟩
  · have HF1 := Lib.hid (fun W hW => (HF.out W hW).mono fun e w' h => And.intro (h.1.2 hf) h.2)
    have HP := Lib.hid hf
    clear hf HF
    go_enter Tryz.func90, Tryz.ntmps90
    go_wp2_with fail
    refine (HF1.out _ (World.grownBy_alloc _ _ _)).mono ?_
    rintro e w2 ⟨rfl, hg⟩
    have K2 := Lib.hid ((World.grownBy_alloc w _ none).trans hg)
    clear hg
    go_wp2_with fail
    go_ret
    exact ⟨⟨fun h => absurd h HP.out, fun _ => rfl⟩, K2.out⟩
end Go.Proofs.YtnfpomjcofhppaaGreatDoor
