/- slices.Clone at a row, and tree's top. -/
import Derived.Test.YtlmoefiajioeoaaTrB
import Derived.Lib.SliceRun
namespace Go.Proofs.Ytlmoefiajioeoaa
open Go.RowKit

def vCT (x : Vl) : List Value := [.int .i64 x.k, .int .i64 x.n, .string x.s]
theorem add_atT (g o j : Nat) : (⟨g, o, none⟩ : Addr).add j = ⟨g, o + j, none⟩ := by
  unfold Addr.add
  split
  · subst_vars; rfl
  · rfl
theorem vCT_one (l : List Vl) : ∀ u ∈ l.flatMap vCT, u.oneCell' = true := by
  intro u hu
  rw [List.mem_flatMap] at hu
  obtain ⟨x, _, hu⟩ := hu
  simp only [vCT, List.mem_cons, List.not_mem_nil, or_false] at hu
  rcases hu with rfl | rfl | rfl <;> rfl
theorem vCT_len (l : List Vl) : (l.flatMap vCT).length = l.length * 3 := by
  induction l with
  | nil => rfl
  | cons x l ih => rw [List.flatMap_cons, List.length_append, ih]; simp [vCT]; omega
theorem vCT_at (l : List Vl) : ∀ i, i < l.length → (l.flatMap vCT)[i * 3]? = some (.int .i64 (l.getD i default).k) ∧ (l.flatMap vCT)[i * 3 + 1]? = some (.int .i64 (l.getD i default).n) ∧ (l.flatMap vCT)[i * 3 + 2]? = some (.string (l.getD i default).s) := by
  induction l with
  | nil => intro i hi; simp at hi
  | cons x l ih =>
    intro i hi
    rw [List.flatMap_cons]
    match i, hi with
    | 0, _ => exact ⟨rfl, rfl, rfl⟩
    | i + 1, hi =>
      have := ih i (by simpa using hi)
      have e : ∀ o, (vCT x ++ l.flatMap vCT)[(i + 1) * 3 + o]? = (l.flatMap vCT)[i * 3 + o]? := fun o => by
        rw [List.getElem?_append_right (by simp [vCT]; omega)]
        congr 1
        simp [vCT]
        omega
      have e0 := e 0
      simp only [Nat.add_zero] at e0
      rw [e0, e 1, e 2]
      simpa [List.getD] using this
theorem vl_cells {w : World} {b off : Nat} {r : List Vl} (hc : ∀ i, i < r.length → w.cell? ⟨b, off + i * 3, none⟩ = some (.int .i64 (r.getD i default).k) ∧ w.cell? ⟨b, off + i * 3 + 1, none⟩ = some (.int .i64 (r.getD i default).n) ∧ w.cell? ⟨b, off + i * 3 + 2, none⟩ = some (.string (r.getD i default).s)) :
    ∀ n i, i + n = r.length → ∀ j u, ((r.drop i).flatMap vCT)[j]? = some u → w.cell? ((⟨b, off + i * 3, none⟩ : Addr).add j) = some u
  | 0, i, hi, j, u, hj => by rw [List.drop_of_length_le (by omega)] at hj; simp at hj
  | n + 1, i, hi, j, u, hj => by
    have hd : r.drop i = r.getD i default :: r.drop (i + 1) := by rw [List.drop_eq_getElem_cons (by omega)]; simp [List.getD, show i < r.length by omega]
    rw [hd, List.flatMap_cons] at hj
    have h3 := hc i (by omega)
    rw [add_atT]
    match j, hj with
    | 0, hj => simp [vCT] at hj; subst hj; exact h3.1
    | 1, hj => simp [vCT] at hj; subst hj; exact h3.2.1
    | 2, hj => simp [vCT] at hj; subst hj; exact h3.2.2
    | j + 3, hj =>
      have := vl_cells hc n (i + 1) (by omega) j u (by rw [List.getElem?_append_right (by simp [vCT])] at hj; simpa [vCT] using hj)
      rw [add_atT] at this
      rw [show off + i * 3 + (j + 3) = off + (i + 1) * 3 + j by omega]
      exact this
theorem val_infoT : (Try.prog.info? 36).map (fun i => (i.zero, i.size, i.bytes)) = some (some (.agg #[.int .i64 0, .int .i64 0, .string ⟨#[]⟩]), 3, 32) := by kernel_rfl
theorem info_partsT {o : Option TypeInfo} {z : Value} {s b : Nat} (h : o.map (fun i => (i.zero, i.size, i.bytes)) = some (some z, s, b)) : ∃ i, o = some i ∧ i.zero = some z ∧ i.size = s ∧ i.bytes = b := by
  cases o with
  | none => cases h
  | some i => simp at h; exact ⟨i, rfl, h.1, h.2.1, h.2.2⟩
theorem own_madeT (B g : Nat) (w : World) (T : TypeId) (n : Nat) (hg : g = w.heap.size) (hB : B ≤ w.heap.size) : (w.alloc (.cells #[] T)).ownsRow B T n (.slice (some ⟨g, 0, none⟩) 0 0) 0 [] := by
  subst hg
  exact ⟨by simp, .inr ⟨w.heap.size, 0, #[], rfl, hB, heap_alloc_new _ _, Nat.le_refl _, Nat.zero_le _, by simp, by simp⟩⟩
theorem grown_thenT {a b c : World} {row row' : Option Nat} (h : a.grownBy b row) (k : b.grownBy c row') (hr : ∀ j, row' = some j → a.heap.size ≤ j) : a.grownBy c row :=
  ⟨k.os.trans h.os, k.tape.trans h.tape, k.output.trans h.output, Nat.le_trans h.size k.size, fun i hi hne => (k.block i (Nat.lt_of_lt_of_le hi h.size) (fun e => by have := hr i e.symm; omega)).trans (h.block i hi hne)⟩
/-- A row of one's own lies in S. -/
theorem own_rw {S : Nat → Prop} {B : Nat} {w : World} {v : Value} {l : List Vl} (h : w.ownsRow B 36 3 v l.length (l.flatMap vCT)) (hS : ∀ b, B ≤ b → S b) (hl : l.length ≤ 4294967296) (hs : ∀ x ∈ l, x.s.size ≤ maxLen) : ∃ a cap, v = .slice a l.length cap ∧ RwS S w a l := by
  rcases h.2 with ⟨hv, h0⟩ | ⟨g, cap, cur, hv, hb, hg, _⟩
  · exact ⟨none, 0, by rw [hv, h0], hl, hs, .inl (List.eq_nil_of_length_eq_zero h0)⟩
  · have hlt := (h.lt g (by rw [hv]; rfl)).2
    refine ⟨some ⟨g, 0, none⟩, cap, hv, hl, hs, .inr ⟨g, 0, rfl, hS g hb, hlt, fun i hi => ?_⟩⟩
    have c := h.cells (g := g) (by rw [hv]; rfl)
    have k := vCT_at l i hi
    have c0 := c _ _ k.1
    have c1 := c _ _ k.2.1
    have c2 := c _ _ k.2.2
    rw [add_atT] at c0 c1 c2
    exact ⟨c0, c1, c2⟩
set_option maxRecDepth 100000 in
set_option maxHeartbeats 1600000 in
theorem clone_any (S : Nat → Prop) (a : Option Addr) (cap : Nat) (l : List Vl) (w : World) (h : RowAt w a l) (hl : l.length ≤ 4294967296) (hS : ∀ b, w.heap.size ≤ b → S b) :
    Calls Try.prog 42 #[.slice a l.length cap] w fun e w' => (∃ a' cap', e = .returned (.slice a' l.length cap') ∧ (a' = none → cap' = 0) ∧ RwS S w' a' l) ∧ w.grownBy w' none := by
  cases a with
  | none =>
    obtain rfl : l = [] := by
      rcases h.2.2 with h | ⟨b, off, e, _⟩
      · exact h
      · cases e
    have hE : ∀ w, (binOp .eql 24 (.slice none 0 cap) (.slice none 0 0)).run Try.prog w = .ok (.bool true) w := fun w => Lib.run_eql_slice_nil w _ _ _ _ _ _ _ Try.underlying24
    clear h hS hl
    go_enter Try.func42, Try.ntmps42
    go_wp2_with fail
    go_ret
    exact ⟨⟨none, 0, rfl, fun _ => rfl, by simp, by simp, .inl rfl⟩, grown_reflT _ _⟩
  | some ad =>
    have HC : Hid (∀ W, w.grownBy W none → ∀ j u, (l.flatMap vCT)[j]? = some u → W.cell? (ad.add j) = some u) := Lib.hid fun W hW j u hj => by
      rcases h.2.2 with h0 | ⟨b, off, e, hlt, hc⟩
      · rw [h0] at hj; simp at hj
      · cases e
        have := vl_cells (w := W) (b := b) (off := off) (r := l) (fun i hi => ⟨hW.cell (hc i hi).1 (by simp), hW.cell (hc i hi).2.1 (by simp), hW.cell (hc i hi).2.2 (by simp)⟩) l.length 0 (by omega) j u (by simpa using hj)
        simpa using this
    have Hs := Lib.hid h.2.1
    have HL := Lib.hid (vCT_len l)
    obtain ⟨m, hm⟩ : ∃ m, m = l.length := ⟨_, rfl⟩
    have Hm := Lib.hid hm
    rw [← hm] at HL hl ⊢
    clear h hm
    obtain ⟨i0, hi, hz0, hz1, hz2⟩ := info_partsT val_infoT
    have hE : ∀ w, (binOp .eql 24 (.slice (some ad) m cap) (.slice none 0 0)).run Try.prog w = .ok (.bool false) w := fun w => Lib.run_eql_slice_nil w _ _ _ _ _ _ _ Try.underlying24
    go_enter Try.func42, Try.ntmps42
    go_wp2_with (at_builtin; refine wpList_append_own _ rfl _ _ 24 rfl w.heap.size 36 i0 (.agg #[.int .i64 0, .int .i64 0, .string ⟨#[]⟩]) 3 32 Try.underlying24 hi hz0 hz1 hz2 rfl (by decide) _ 0 [] rfl (own_madeT _ _ w _ _ rfl (Nat.le_refl _)) ad m cap (l.flatMap vCT) rfl HL.out ?c1 ?c2 ?c3 ?c4 ?c5 ?_)
    case c1 => exact HC.out _ (World.grownBy_alloc _ _ _)
    case c2 => exact vCT_one _
    case c3 => unfold maxLen; omega
    case c4 => omega
    case c5 => simp
    intro v' w3 hown' hgrow _
    have K3 := Lib.hid (grown_thenT (World.grownBy_alloc w _ none) hgrow (by intro j hj; simp [Value.ownBlock] at hj; omega))
    have O3 := Lib.hid (show w3.ownsRow w.heap.size 36 3 v' l.length (l.flatMap vCT) by rw [← Hm.out]; simpa using hown')
    clear hown' hgrow
    go_wp2_with fail
    go_ret
    obtain ⟨a', cap', hv, hr⟩ := own_rw O3.out hS (by rw [← Hm.out]; exact hl) Hs.out
    rw [← Hm.out] at hv
    refine ⟨⟨a', cap', congrArg Ending.returned hv, fun ha => ?_, hr⟩, K3.out⟩
    subst ha
    rcases O3.out.2 with ⟨e, _⟩ | ⟨g, cc, cur, e, _⟩
    · rw [e] at hv; cases hv; rfl
    · rw [e] at hv; cases hv
end Go.Proofs.Ytlmoefiajioeoaa
