/- A tree and the document's list of pairs beside each other: what is done to one is done to the other. -/
import Derived.Test.YtlmoefiajioeoaaTrU
import Derived.Test.YtlmoefiajioeoaaTrV
import Derived.Test.YtlmoefiajioeoaaTrY
import Derived.Test.YtlmoefiajioeoaaTrHt
namespace Go.Proofs.Ytlmoefiajioeoaa
open Go.RowKit

theorem delP_p (k : List Vl) (l : List Pw) : (delP k l).map Pw.p = Tr.delL rowsOrd k (l.map Pw.p) := by
  induction l with
  | nil => rfl
  | cons x l ih =>
    unfold delP Tr.delL at *
    by_cases h : rowsOrd x.k.l k = 0
    · simp [Pw.p, h] at ih ⊢
      exact ih
    · simp [Pw.p, h] at ih ⊢
      exact ih
theorem insP_p (x : Pw) : ∀ l : List Pw, (insP x l).map Pw.p = Tr.ins rowsOrd x.k.l x.r.l (l.map Pw.p)
  | [] => rfl
  | y :: l => by
    simp only [insP, List.map_cons, Tr.ins]
    by_cases h : rowsOrd x.k.l y.k.l < 0
    · rw [if_pos h, if_pos (by exact h)]; rfl
    · rw [if_neg h, if_neg (by exact h), List.map_cons, insP_p x l]
def doT (d : Bool) (K R : Rw) (t : Tre) : Tre := if d then Tr.del rowsOrd K.l t else Tr.put rowsOrd K.l R.l t
def doP (d : Bool) (K R : Rw) (l : List Pw) : List Pw := if d then delP K.l l else insP ⟨K, R⟩ (delP K.l l)
/-- The tree and the list hold the same. -/
structure Eq7 (t : Tre) (l : List Pw) (j : Nat) : Prop where
  ok : Tr.ok t
  sort : Tr.Sorted rowsOrd t.toL
  same : t.toL = l.map Pw.p
  good : ∀ x ∈ l, x.k.l.all Vl.good = true
  few : l.length ≤ j
theorem Eq7.n {t : Tre} {l : List Pw} {j : Nat} (h : Eq7 t l j) : t.n = l.length := by rw [Tr.n_toL, h.same, List.length_map]
theorem Eq7.nil : Eq7 .nil [] 0 := ⟨trivial, by simp [Tr.toL, Tr.Sorted], rfl, by simp, Nat.le_refl _⟩
theorem Eq7.mono {t : Tre} {l : List Pw} {j k : Nat} (h : Eq7 t l j) (hk : j ≤ k) : Eq7 t l k := ⟨h.ok, h.sort, h.same, h.good, Nat.le_trans h.few hk⟩
theorem doP_len (d : Bool) (K R : Rw) (l : List Pw) : (doP d K R l).length ≤ l.length + 1 := by
  unfold doP
  split
  · exact Nat.le_succ_of_le (delP_len _ _)
  · rw [insP_len]; exact Nat.succ_le_succ (delP_len _ _)
theorem doP_mem {d : Bool} {K R : Rw} {l : List Pw} {x : Pw} (h : x ∈ doP d K R l) : x = ⟨K, R⟩ ∧ d = false ∨ x ∈ l := by
  unfold doP at h
  split at h
  · exact .inr (delP_mem h)
  · rename_i hd
    rcases insP_mem h with h | h
    · exact .inl ⟨h, by simpa using hd⟩
    · exact .inr (delP_mem h)
theorem Eq7.act {t : Tre} {l : List Pw} {j : Nat} (h : Eq7 t l j) (d : Bool) {K : Rw} (R : Rw) (hg : K.l.all Vl.good = true) : Eq7 (doT d K R t) (doP d K R l) (j + 1) := by
  refine ⟨?_, ?_, ?_, fun x hx => ?_, Nat.le_trans (doP_len d K R l) (by have := h.few; omega)⟩
  · unfold doT; split
    · exact (Tr.del_ok rowsOrd t K.l h.ok).1
    · exact (Tr.put_ok rowsOrd K.l R.l t h.ok).1
  · unfold doT; split
    · rw [Tr.del_toL ro_ord t K.l h.sort]; exact Tr.delL_sorted h.sort
    · rw [Tr.put_toL ro_ord K.l R.l t h.sort]; exact Tr.putL_sorted ro_ord h.sort
  · unfold doT doP; split
    · rw [Tr.del_toL ro_ord t K.l h.sort, delP_p, h.same]
    · rw [Tr.put_toL ro_ord K.l R.l t h.sort, insP_p, delP_p, h.same]; rfl
  · rcases doP_mem hx with ⟨e, _⟩ | h'
    · rw [e]; exact hg
    · exact h.good x h'
theorem look_none {key : List Vl} {l : List Pw} (h : ∀ x ∈ l, rowsOrd x.k.l key ≠ 0) : lookL key (l.map Pw.p) = none := by
  unfold lookL
  rw [List.find?_eq_none.2 (fun x hx e => ?_)]
  · rfl
  · rw [List.mem_map] at hx
    obtain ⟨y, hy, rfl⟩ := hx
    exact h y hy (by simpa [Pw.p] using e)
theorem look_hit {key : List Vl} : ∀ {l : List Pw} {j : Nat}, j < l.length → (∀ x ∈ l.take j, rowsOrd x.k.l key ≠ 0) → rowsOrd (l.getD j default).k.l key = 0 → lookL key (l.map Pw.p) = some (l.getD j default).r.l
  | [], j, h, _, _ => by simp at h
  | x :: l, 0, _, _, h0 => by
    have h0' : rowsOrd x.k.l key = 0 := by simpa using h0
    simp [lookL, Pw.p, h0']
  | x :: l, j + 1, h, hn, h0 => by
    have hx : rowsOrd x.k.l key ≠ 0 := hn x (by simp)
    have ih := look_hit (key := key) (l := l) (j := j) (by simpa using h) (fun y hy => hn y (by simp [hy])) (by simpa using h0)
    have e : lookL key ((x :: l).map Pw.p) = lookL key (l.map Pw.p) := by
      unfold lookL
      rw [List.map_cons, List.find?_cons_of_neg (by simpa [Pw.p] using hx)]
    rw [e, ih]
    simp
/-- The rows from a key on. -/
def fromP (key : List Vl) (l : List Pw) : List Rw := (l.filter fun x => !decide (rowsOrd x.k.l key < 0)).map Pw.r
theorem fromP_step {key : List Vl} {l : List Pw} {j : Nat} (h : j < l.length) : fromP key (l.take (j + 1)) = fromP key (l.take j) ++ (if rowsOrd (l.getD j default).k.l key < 0 then [] else [(l.getD j default).r]) := by
  rw [take_at h]
  unfold fromP
  rw [List.filter_append, List.map_append]
  congr 1
  generalize l.getD j default = y
  by_cases hz : rowsOrd y.k.l key < 0
  · rw [if_pos hz]; simp [hz]
  · rw [if_neg hz]; simp [hz]
theorem fromP_rows {key : List Vl} {l : List Pw} : (fromP key l).map Rw.l = (fromL key (l.map Pw.p)).map Prod.snd := by
  induction l with
  | nil => rfl
  | cons x l ih =>
    unfold fromP fromL at *
    by_cases hz : rowsOrd x.k.l key < 0
    · simp [Pw.p, hz] at ih ⊢
      exact ih
    · simp [Pw.p, hz] at ih ⊢
      exact ih
theorem fromP_mem {key : List Vl} {l : List Pw} {x : Rw} (h : x ∈ fromP key l) : ∃ y ∈ l, x = y.r := by
  unfold fromP at h
  rw [List.mem_map] at h
  obtain ⟨y, hy, rfl⟩ := h
  exact ⟨y, (List.mem_filter.1 hy).1, rfl⟩
theorem fromP_len (key : List Vl) (l : List Pw) : (fromP key l).length ≤ l.length := by
  unfold fromP
  rw [List.length_map]
  exact List.length_filter_le _ _
end Go.Proofs.Ytlmoefiajioeoaa
