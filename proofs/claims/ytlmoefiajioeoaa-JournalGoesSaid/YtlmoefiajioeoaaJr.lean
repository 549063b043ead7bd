/- Journals in memory: commits without changes, in a window of a block. -/
import Derived.Test.YtlmoefiajioeoaaTrC
import Derived.ArgAppend
import Derived.Maps.AppendAt
import Derived.Lib.Hide
namespace Go.Proofs.Ytlmoefiajioeoaa
open Go.RowKit

/-- The cells of n commits without changes behind a version. -/
def cmL (low : Int) : Nat → List Value
  | 0 => []
  | n + 1 => cmL low n ++ [.int .i64 (low + 1 + n), .slice none 0 0]
theorem cmL_len (low : Int) (n : Nat) : (cmL low n).length = n * 2 := by
  induction n with
  | zero => rfl
  | succ n ih => simp [cmL, ih]; omega
theorem cmL_cells {P : Nat → Value → Prop} {low : Int} : ∀ {n : Nat}, (∀ i, i < n → P (i * 2) (.int .i64 (low + 1 + i)) ∧ P (i * 2 + 1) (.slice none 0 0)) → ∀ j u, (cmL low n)[j]? = some u → P j u
  | 0, _, j, u, h => by simp [cmL] at h
  | n + 1, hp, j, u, h => by
    simp only [cmL] at h
    by_cases hj : j < (cmL low n).length
    · rw [List.getElem?_append_left hj] at h
      exact cmL_cells (fun i hi => hp i (by omega)) j u h
    · rw [List.getElem?_append_right (by omega)] at h
      rw [cmL_len] at h hj
      have hn := hp n (by omega)
      obtain ⟨k, hk⟩ : ∃ k, k = j - n * 2 := ⟨_, rfl⟩
      rw [← hk] at h
      match k, hk, h with
      | 0, hk, h => simp at h; subst h; rw [show j = n * 2 by omega]; exact hn.1
      | 1, hk, h => simp at h; subst h; rw [show j = n * 2 + 1 by omega]; exact hn.2
      | k + 2, _, h => simp at h
theorem cmL_at (low : Int) : ∀ n i, i < n → (cmL low n)[i * 2]? = some (.int .i64 (low + 1 + i)) ∧ (cmL low n)[i * 2 + 1]? = some (.slice none 0 0)
  | n + 1, i, hi => by
    simp only [cmL]
    have hl := cmL_len low n
    by_cases h : i < n
    · have := cmL_at low n i h
      rw [List.getElem?_append_left (by omega), List.getElem?_append_left (by omega)]
      exact this
    · obtain rfl : i = n := by omega
      rw [List.getElem?_append_right (by omega), List.getElem?_append_right (by omega), hl]
      simp
theorem cmL_one (low : Int) (n : Nat) : ∀ u ∈ cmL low n, u.oneCell' = true := by
  induction n with
  | zero => intro u hu; simp [cmL] at hu
  | succ n ih =>
    intro u hu
    simp only [cmL, List.mem_append, List.mem_cons, List.not_mem_nil, or_false] at hu
    rcases hu with hu | rfl | rfl
    · exact ih u hu
    · rfl
    · rfl
/-- A window that holds n commits behind a version. -/
def Kp (B J : Nat) (w : World) (a : Option Addr) (cap : Nat) (low : Int) (n : Nat) : Prop :=
  n ≤ cap ∧ cap ≤ maxLen ∧ (cap = 0 ∨ ∃ g off cs, a = some ⟨g, off, none⟩ ∧ B ≤ g ∧ g ≠ J ∧ w.heap[g]? = some (.cells cs 57 (0, 0)) ∧ off + cap * 2 ≤ cs.size ∧ ∀ i, i < n → cs[off + i * 2]? = some (.int .i64 (low + 1 + i)) ∧ cs[off + i * 2 + 1]? = some (.slice none 0 0))
/-- The journal's own block. -/
def Jn (J : Nat) (w : World) (room en : Int) (a : Option Addr) (n cap : Nat) : Prop := w.heap[J]? = some (.cells #[.int .i64 room, .int .i64 en, .slice a n cap] 96 (0, 0))
theorem Jn.lt {J : Nat} {w : World} {room en : Int} {a : Option Addr} {n cap : Nat} (h : Jn J w room en a n cap) : J < w.heap.size := by
  rcases Nat.lt_or_ge J w.heap.size with h' | h'
  · exact h'
  · rw [Jn, Array.getElem?_eq_none h'] at h; cases h
theorem Jn.cells {J : Nat} {w : World} {room en : Int} {a : Option Addr} {n cap : Nat} (h : Jn J w room en a n cap) :
    w.cell? ⟨J, 0, none⟩ = some (.int .i64 room) ∧ w.cell? ⟨J, 1, none⟩ = some (.int .i64 en) ∧ w.cell? ⟨J, 2, none⟩ = some (.slice a n cap) ∧ w.frozen? ⟨J, 0, none⟩ = false ∧ w.frozen? ⟨J, 1, none⟩ = false ∧ w.frozen? ⟨J, 2, none⟩ = false := by
  have f : ∀ o, w.frozen? ⟨J, o, none⟩ = false := fun o => by unfold Jn at h; simp [World.frozen?, h]
  exact ⟨cell_of_row _ _ 0 _ _ _ h, cell_of_row _ _ 1 _ _ _ h, cell_of_row _ _ 2 _ _ _ h, f 0, f 1, f 2⟩
theorem Jn.keep {J : Nat} {w w' : World} {room en : Int} {a : Option Addr} {n cap : Nat} {row : Option Nat} (h : Jn J w room en a n cap) (hg : w.grownBy w' row) (hr : some J ≠ row) : Jn J w' room en a n cap :=
  (hg.block J h.lt hr).trans h
theorem Jn.setEnd {J : Nat} {w : World} {room en e2 : Int} {a : Option Addr} {n cap : Nat} (h : Jn J w room en a n cap) : Jn J (w.setCell ⟨J, 1, none⟩ (.int .i64 e2)) room e2 a n cap := by
  unfold Jn at h ⊢
  simp [World.setCell, Array.getElem?_modify, h]
theorem Jn.setKept {J : Nat} {w : World} {room en : Int} {a a2 : Option Addr} {n cap n2 cap2 : Nat} (h : Jn J w room en a n cap) : Jn J (w.setCell ⟨J, 2, none⟩ (.slice a2 n2 cap2)) room en a2 n2 cap2 := by
  unfold Jn at h ⊢
  simp [World.setCell, Array.getElem?_modify, h]
theorem Kp.keep {B J : Nat} {w w' : World} {a : Option Addr} {cap n : Nat} {low : Int} {row : Option Nat} (h : Kp B J w a cap low n) (hg : w.grownBy w' row) (hr : ∀ k, row = some k → k = J ∨ k < B) : Kp B J w' a cap low n := by
  refine ⟨h.1, h.2.1, h.2.2.imp id fun ⟨g, off, cs, e, hb, hj, hh, hs, hc⟩ => ⟨g, off, cs, e, hb, hj, ?_, hs, hc⟩⟩
  rw [hg.block g (Array.getElem?_eq_some_iff.1 hh).1 (fun e => by rcases hr g e.symm with rfl | h; exact hj rfl; omega)]
  exact hh
theorem Kp.at {B J : Nat} {w : World} {a : Option Addr} {cap n : Nat} {low : Int} (h : Kp B J w a cap low n) (hn : 0 < cap) : ∃ g off, a = some ⟨g, off, none⟩ ∧ B ≤ g ∧ g ≠ J ∧ g < w.heap.size ∧ (∀ o, w.frozen? ⟨g, o, none⟩ = false) ∧ (∀ o, o < cap * 2 → (w.cell? ⟨g, off + o, none⟩).isSome = true) ∧ ∀ i, i < n → w.cell? ⟨g, off + i * 2, none⟩ = some (.int .i64 (low + 1 + i)) ∧ w.cell? ⟨g, off + i * 2 + 1, none⟩ = some (.slice none 0 0) := by
  rcases h.2.2 with h0 | ⟨g, off, cs, e, hb, hj, hh, hs, hc⟩
  · omega
  · refine ⟨g, off, e, hb, hj, (Array.getElem?_eq_some_iff.1 hh).1, fun o => by simp [World.frozen?, hh], fun o ho => ?_, fun i hi => ?_⟩
    · rw [cell_of_row w g _ cs _ _ hh, Array.getElem?_eq_getElem (by omega)]; rfl
    · rw [cell_of_row w g _ cs _ _ hh, cell_of_row w g _ cs _ _ hh]; exact hc i hi
/-- A journal that keeps the n last of its commits. -/
def JAt (B J : Nat) (w : World) (room en : Int) (n : Nat) : Prop := B ≤ J ∧ ∃ a cap, Jn J w room en a n cap ∧ Kp B J w a cap (en - n) n
theorem JAt.keep {B J : Nat} {w w' : World} {room en : Int} {n : Nat} (h : JAt B J w room en n) (hg : w.grownBy w' none) : JAt B J w' room en n := by
  obtain ⟨hb, a, cap, h1, h2⟩ := h
  exact ⟨hb, a, cap, h1.keep hg (by simp), h2.keep hg (by simp)⟩
theorem Kp.frozenless {w : World} {g : Nat} {cs : Array Value} (i : Nat) (v : Value) (h : w.heap[g]? = some (.cells cs 57 (0, 0))) : (w.setCell ⟨g, i, none⟩ v).heap[g]? = some (.cells (cs.setIfInBounds i v) 57 (0, 0)) := by
  simp [World.setCell, Array.getElem?_modify, h]
theorem below_set {B : Nat} {w w' : World} (h : Below B w w') {g : Nat} (hg : B ≤ g) (i : Nat) (v : Value) : Below B w (w'.setCell ⟨g, i, none⟩ v) := h.setCell hg v
theorem two_news (x y : Value) {w : World} {ad : Addr} (h0 : w.cell? ad = some x) (h1 : w.cell? (ad.add 1) = some y) : ∀ j u, [x, y][j]? = some u → w.cell? (ad.add j) = some u := by
  intro j u hj
  match j, hj with
  | 0, hj =>
    simp at hj
    subst hj
    have e : ad.add 0 = ad := by unfold Addr.add; split <;> simp_all
    rw [e]; exact h0
  | 1, hj => simp at hj; subst hj; exact h1
theorem com_info : (Try.prog.info? 57).map (fun i => (i.zero, i.size, i.bytes)) = some (some (.agg #[.int .i64 0, .slice none 0 0]), 2, 32) := by kernel_rfl
/-- One commit more. -/
theorem run_append_kp {B J : Nat} {w : World} {a : Option Addr} {cap n : Nat} {low : Int} (h : Kp B J w a cap low n) (hB : B ≤ w.heap.size) (hJ : J < w.heap.size) (hn : n ≤ 1000000)
    (ad : Addr) (c : Nat) (hnews : ∀ j u, [Value.int .i64 (low + 1 + n), .slice none 0 0][j]? = some u → w.cell? (ad.add j) = some u) (ty : TypeId) :
    ∃ a' cap' w', (Builtin.append_ #[61, 61] ty #[.slice a n cap, .slice (some ad) 1 c]).run Try.prog w = .ok (.slice a' (n + 1) cap') w' ∧ Kp B J w' a' cap' low (n + 1) ∧ Below B w w' ∧ (∀ k, k < w.heap.size → (∀ g off, a = some ⟨g, off, none⟩ → 0 < cap → k ≠ g) → w'.heap[k]? = w.heap[k]?) := by
  obtain ⟨i0, hi, hz0, hz1, hz2⟩ := info_partsT com_info
  have hlen := cmL_len low n
  have h1 : ∀ u ∈ [Value.int .i64 (low + 1 + n), .slice none 0 0], u.oneCell' = true := by
    intro u hu
    simp only [List.mem_cons, List.not_mem_nil, or_false] at hu
    rcases hu with rfl | rfl <;> rfl
  have own : ∀ v' w', w'.ownsRow w.heap.size 57 2 v' (n + 1) (cmL low n ++ [.int .i64 (low + 1 + n), .slice none 0 0]) → ∃ a' cap', v' = .slice a' (n + 1) cap' ∧ Kp B J w' a' cap' low (n + 1) := by
    intro v' w' ho
    rcases ho.2 with ⟨_, h0⟩ | ⟨g, cc, cur, hv, hb, hg, hc, hcm, hcs, htk⟩
    · omega
    · refine ⟨_, cc, hv, hc, hcm, .inr ⟨g, 0, cur, rfl, by omega, by omega, hg, by omega, fun i hi => ?_⟩⟩
      have ha := cmL_at low (n + 1) i hi
      have hsn : cmL low (n + 1) = cur.toList.take ((n + 1) * 2) := htk.symm
      rw [hsn, List.getElem?_take, List.getElem?_take, if_pos (by omega), if_pos (by omega)] at ha
      simpa using ha
  by_cases hroom : n + 1 ≤ cap
  · rcases h.2.2 with h0 | ⟨g, off, cs, rfl, hb, hj, hh, hs, hc⟩
    · omega
    · have hr := run_append_room_cells (P := Try.prog) w 61 ty 57 i0 Try.underlying61 hi g off n cap ad 1 c _ (by rw [hz1]; rfl) hnews h1 hroom
        (fun j hj => by rw [cell_of_row w g _ cs _ _ hh, hz1]; simp at hj; rw [Array.getElem?_eq_getElem (by omega)]; rfl)
        (fun j hj => by simp [World.frozen?, hh])
      rw [hz1] at hr
      refine ⟨_, _, _, hr, ⟨hroom, h.2.1, .inr ⟨g, off, (cs.setIfInBounds (off + n * 2) (.int .i64 (low + 1 + n))).setIfInBounds (off + n * 2 + 1) (.slice none 0 0), rfl, hb, hj, Kp.frozenless _ _ (Kp.frozenless _ _ hh), by simpa using hs, fun i hi => ?_⟩⟩, below_set (below_set (Below.refl _ _) hb _ _) hb _ _, fun k hk hne => ?_⟩
      · rcases Nat.lt_or_ge i n with hlt | hge
        · have := hc i hlt
          rw [Array.getElem?_setIfInBounds_ne (by omega), Array.getElem?_setIfInBounds_ne (by omega), Array.getElem?_setIfInBounds_ne (by omega), Array.getElem?_setIfInBounds_ne (by omega)]
          exact this
        · obtain rfl : i = n := by omega
          refine ⟨?_, ?_⟩
          · rw [Array.getElem?_setIfInBounds_ne (by omega), Array.getElem?_setIfInBounds_self_of_lt (by omega)]
          · rw [Array.getElem?_setIfInBounds_self_of_lt (by simp; omega)]
      · have hkg : k ≠ g := hne g off rfl (by omega)
        show ((w.setCell _ _).setCell _ _).heap[k]? = _
        rw [Below.heap_setCell _ _ _ _ hkg, Below.heap_setCell _ _ _ _ hkg]
  · obtain rfl : cap = n := by have := h.1; omega
    have fin : ∀ v' w', (Builtin.append_ #[61, 61] ty #[.slice a cap cap, .slice (some ad) 1 c]).run Try.prog w = .ok v' w' → w'.ownsRow w.heap.size 57 2 v' (cap + 1) (cmL low cap ++ [.int .i64 (low + 1 + cap), .slice none 0 0]) → w.grownBy w' none → ∃ a' cap' w', (Builtin.append_ #[61, 61] ty #[.slice a cap cap, .slice (some ad) 1 c]).run Try.prog w = .ok (.slice a' (cap + 1) cap') w' ∧ Kp B J w' a' cap' low (cap + 1) ∧ Below B w w' ∧ (∀ k, k < w.heap.size → (∀ g off, a = some ⟨g, off, none⟩ → 0 < cap → k ≠ g) → w'.heap[k]? = w.heap[k]?) := by
      intro v' w' hr ho hg
      obtain ⟨a', cap', rfl, hk⟩ := own v' w' ho
      exact ⟨a', cap', w', hr, hk, (below_grownT hg).mono hB, fun k hk _ => hg.block k hk (by simp)⟩
    have hmx : cap + 1 ≤ maxLen := by unfold maxLen; omega
    rcases h.2.2 with h0 | ⟨g, off, cs, rfl, hb, hj, hh, hs, hc⟩
    · subst h0
      cases a with
      | none =>
        obtain ⟨v', w', hrun, r1, r2, _⟩ := run_append_own (P := Try.prog) w w.heap.size 61 ty 57 i0 (.agg #[.int .i64 0, .slice none 0 0]) 2 32 Try.underlying61 hi hz0 hz1 hz2 rfl (by decide) (.slice none 0 0) 0 [] (World.ownsRow_nil w _ _ 2) ad 1 c _ rfl hnews h1 (by simpa using hmx) (by simp) (Nat.le_refl _)
        exact fin v' w' hrun (by simpa [cmL] using r1) ⟨r2.os, r2.tape, r2.output, r2.size, fun k hk _ => r2.block k hk (by simp [Value.ownBlock])⟩
      | some a' =>
        obtain ⟨v', w', hrun, r1, r2⟩ := run_append_arg_grows (P := Try.prog) w 61 ty 57 i0 (.agg #[.int .i64 0, .slice none 0 0]) 2 32 Try.underlying61 hi hz0 hz1 hz2 rfl (by decide) a' 0 0 [] (by simp) (by intro _ _ h'; simp at h') ad 1 c _ rfl hnews (by omega) (by simpa using hmx) (by simp)
        exact fin v' w' hrun (by simpa [cmL] using r1) r2
    · obtain ⟨v', w', hrun, r1, r2⟩ := run_append_arg_grows (P := Try.prog) w 61 ty 57 i0 (.agg #[.int .i64 0, .slice none 0 0]) 2 32 Try.underlying61 hi hz0 hz1 hz2 rfl (by decide) ⟨g, off, none⟩ cap cap (cmL low cap) hlen (cmL_cells (P := fun j u => w.cell? ((⟨g, off, none⟩ : Addr).add j) = some u) fun i hi => by
          rw [add_atT, add_atT, cell_of_row w g _ cs _ _ hh, cell_of_row w g _ cs _ _ hh]; exact hc i hi) ad 1 c _ rfl hnews (by omega) hmx (by omega)
      exact fin v' w' hrun r1 r2
/-- One commit more, at a step of a region that draws. -/
theorem step_append_kp {ops : Array Oper} {o : Oper} {a : Act} {K : Act → World → Prop} {Q : Exit → Act → World → Prop} {E : Prop} {w : World} (hgd : o.guard = none) (s x : Operand)
    (ho : o.op = .call { callee := .builtin .append, args := #[s, x], argTypes := #[61, 61] })
    {B J : Nat} {ao : Option Addr} {cap n : Nat} {low v : Int} (h : Kp B J w ao cap low n) (hB : B ≤ w.heap.size) (hJ : J < w.heap.size) (hn : n ≤ 1000000) (hv : v = low + 1 + n)
    (hs : a.eval s = .slice ao n cap) (ad : Addr) (c : Nat) (hx : a.eval x = .slice (some ad) 1 c) (hnews : ∀ j u, [Value.int .i64 v, .slice none 0 0][j]? = some u → w.cell? (ad.add j) = some u)
    (hk : ∀ a' cap' w', Kp B J w' a' cap' low (n + 1) → Below B w w' → (∀ k, k < w.heap.size → (∀ g off, ao = some ⟨g, off, none⟩ → 0 < cap → k ≠ g) → w'.heap[k]? = w.heap[k]?) → K (a.put o.dst (.slice a' (n + 1) cap')) w') :
    if Region.wanted o (yielded ops a.tmps) = true then Oper.wp Try.prog o a w K Q else E := by
  have hw : Region.wanted o (yielded ops a.tmps) = true := by simp [Region.wanted, hgd]
  rw [if_pos hw]
  subst hv
  obtain ⟨a', cap', w', hr, h1, h2, h3⟩ := run_append_kp h hB hJ hn ad c hnews o.type
  unfold Oper.wp execOp
  simp only [ho, resolve, invoke, builtin, Sem.run_bind, Sem.run_pure, Result.andThen_ok, List.map_toArray, List.map_cons, List.map_nil, hs, hx, hr]
  exact hk a' cap' w' h1 h2 h3
end Go.Proofs.Ytlmoefiajioeoaa
