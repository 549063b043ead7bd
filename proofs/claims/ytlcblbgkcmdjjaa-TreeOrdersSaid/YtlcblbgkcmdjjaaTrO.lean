/- What TreeOrders' trees hold. -/
import Derived.Test.YtlcblbgkcmdjjaaTrDf
import Derived.Test.YtlcblbgkcmdjjaaTrA
namespace Go.Proofs.Ytlcblbgkcmdjjaa
open Go.RowKit

/-- A tree of the ints of a list, each at itself. -/
structure KS (ks : List Int) (t : Tre) : Prop where
  bal : Tr.ok t
  sort : Tr.Sorted rowsOrd t.toL
  of : ∀ x ∈ t.toL, ∃ a ∈ ks, x = ([viV a], [viV a])
  has : ∀ a ∈ ks, ([viV a], [viV a]) ∈ t.toL
  few : t.n ≤ ks.length
theorem KS.nil : KS [] .nil := ⟨trivial, by simp [Tr.toL, Tr.Sorted], by simp [Tr.toL], by simp, by simp [Tr.n]⟩
theorem viV_inj {a b : Int} (h : ([viV a] : List Vl) = [viV b]) : a = b := by simpa [viV] using h
theorem mem_ins_self {k v : List Vl} : ∀ l : List (List Vl × List Vl), (k, v) ∈ Tr.ins rowsOrd k v l
  | [] => by simp [Tr.ins]
  | x :: l => by
    simp only [Tr.ins]
    split
    · simp
    · simp [mem_ins_self l]
theorem mem_ins_of {k v : List Vl} {y : List Vl × List Vl} : ∀ {l : List (List Vl × List Vl)}, y ∈ l → y ∈ Tr.ins rowsOrd k v l
  | x :: l, h => by
    simp only [Tr.ins]
    split
    · simp [h]
    · rcases List.mem_cons.1 h with rfl | h
      · simp
      · simp [mem_ins_of h]
theorem KS.put {ks : List Int} {t : Tre} (h : KS ks t) (a : Int) : KS (ks ++ [a]) (Tr.put rowsOrd [viV a] [viV a] t) := by
  have e := Tr.put_toL ro_ord [viV a] [viV a] t h.sort
  refine ⟨(Tr.put_ok rowsOrd _ _ t h.bal).1, by rw [e]; exact Tr.putL_sorted ro_ord h.sort, fun x hx => ?_, fun b hb => ?_, ?_⟩
  · rw [e] at hx
    rcases Tr.mem_ins _ hx with rfl | hx
    · exact ⟨a, by simp, rfl⟩
    · obtain ⟨b, hb, hxb⟩ := h.of x (List.mem_filter.1 hx).1
      exact ⟨b, by simp [hb], hxb⟩
  · rw [e]
    by_cases hab : b = a
    · subst hab; exact mem_ins_self _
    · refine mem_ins_of (List.mem_filter.2 ⟨h.has b ?_, ?_⟩)
      · rcases List.mem_append.1 hb with hb | hb
        · exact hb
        · exact absurd (by simpa using hb) hab
      · have : rowsOrd [viV b] [viV a] ≠ 0 := fun e => hab (viV_inj ((ro_zero _ _).1 e))
        simpa using this
  · have := Tr.put_n rowsOrd [viV a] [viV a] t
    have := h.few
    rw [List.length_append]; simp; omega
/-- Two rising lists of the same pairs are one. -/
theorem sorted_ext : ∀ {l m : List (List Vl × List Vl)}, Tr.Sorted rowsOrd l → Tr.Sorted rowsOrd m → (∀ x, x ∈ l ↔ x ∈ m) → l = m
  | [], [], _, _, _ => rfl
  | [], y :: m, _, _, h => by have := (h y).2 (by simp); simp at this
  | x :: l, [], _, _, h => by have := (h x).1 (by simp); simp at this
  | x :: l, y :: m, hl, hm, h => by
    have hl' := List.pairwise_cons.1 hl
    have hm' := List.pairwise_cons.1 hm
    have irr : ∀ z : List Vl × List Vl, ¬ rowsOrd z.1 z.1 < 0 := fun z hz => by have := (ro_zero z.1 z.1).2 rfl; omega
    have hxy : x = y := by
      rcases List.mem_cons.1 ((h x).1 (by simp)) with e | e
      · exact e
      · rcases List.mem_cons.1 ((h y).2 (by simp)) with e' | e'
        · exact e'.symm
        · have h1 := hm'.1 x e
          have h2 := hl'.1 y e'
          have := ro_turn y.1 x.1
          omega
    subst hxy
    congr 1
    refine sorted_ext hl'.2 hm'.2 (fun z => ⟨fun hz => ?_, fun hz => ?_⟩)
    · rcases List.mem_cons.1 ((h z).1 (by simp [hz])) with e | e
      · subst e; exact absurd (hl'.1 z hz) (irr z)
      · exact e
    · rcases List.mem_cons.1 ((h z).2 (by simp [hz])) with e | e
      · subst e; exact absurd (hm'.1 z hz) (irr z)
      · exact e
theorem KS.same {ks ms : List Int} {t u : Tre} (h : KS ks t) (h' : KS ms u) (hm : ∀ a, a ∈ ks ↔ a ∈ ms) : t.toL = u.toL :=
  sorted_ext h.sort h'.sort (fun x => ⟨fun hx => by
    obtain ⟨a, ha, rfl⟩ := h.of x hx
    exact h'.has a ((hm a).1 ha), fun hx => by
    obtain ⟨a, ha, rfl⟩ := h'.of x hx
    exact h.has a ((hm a).2 ha)⟩)
/-- What is left of the keys. -/
structure LS (ks : List Int) (gone : List Int) (t : Tre) : Prop where
  bal : Tr.ok t
  sort : Tr.Sorted rowsOrd t.toL
  of : ∀ x ∈ t.toL, ∃ a ∈ ks, a ∉ gone ∧ x.1 = [viV a]
  few : t.n ≤ ks.length
theorem KS.ls {ks : List Int} {t : Tre} (h : KS ks t) : LS ks [] t := ⟨h.bal, h.sort, fun x hx => by
  obtain ⟨a, ha, rfl⟩ := h.of x hx
  exact ⟨a, ha, by simp, rfl⟩, h.few⟩
theorem LS.del {ks gone : List Int} {t : Tre} (h : LS ks gone t) (a : Int) : LS ks (gone ++ [a]) (Tr.del rowsOrd [viV a] t) ∧ lookL [viV a] (Tr.toL (Tr.del rowsOrd [viV a] t)) = none := by
  have e := Tr.del_toL ro_ord t [viV a] h.sort
  refine ⟨⟨(Tr.del_ok rowsOrd t _ h.bal).1, by rw [e]; exact Tr.delL_sorted h.sort, fun x hx => ?_, Nat.le_trans (Tr.del_n rowsOrd t _) h.few⟩, ?_⟩
  · rw [e] at hx
    obtain ⟨hx1, hx2⟩ := List.mem_filter.1 hx
    obtain ⟨b, hb, hg, hxb⟩ := h.of x hx1
    refine ⟨b, hb, fun hm => ?_, hxb⟩
    rcases List.mem_append.1 hm with hm | hm
    · exact hg hm
    · have hba : b = a := by simpa using hm
      subst hba
      rw [hxb] at hx2
      simp [(ro_zero _ _).2 rfl] at hx2
  · rw [e]
    unfold lookL
    rw [List.find?_eq_none.2 (fun x hx he => ?_)]
    · rfl
    · obtain ⟨_, hx2⟩ := List.mem_filter.1 hx
      rw [he] at hx2
      simp at hx2
theorem LS.none {ks gone : List Int} {t : Tre} (h : LS ks gone t) (hg : ∀ a ∈ ks, a ∈ gone) : t = .nil := by
  apply Tr.n_zero
  rw [Tr.n_toL]
  cases hl : t.toL with
  | nil => rfl
  | cons x l =>
    obtain ⟨a, ha, hn, _⟩ := h.of x (by rw [hl]; simp)
    exact absurd (hg a ha) hn
/-- The index that comes round. -/
theorem round_all {n c : Nat} (hn : 0 < n) {i : Nat} (hi : i < n) : ∃ j, j < n ∧ (j + c) % n = i := by
  refine ⟨(i + (n - c % n)) % n, Nat.mod_lt _ hn, ?_⟩
  rw [Nat.mod_add_mod]
  have hc : c % n < n := Nat.mod_lt _ hn
  have e : i + (n - c % n) + c = i + n * (1 + c / n) := by
    have := Nat.div_add_mod c n
    rw [Nat.mul_add, Nat.mul_one]
    omega
  rw [e, Nat.add_mul_mod_self_left, Nat.mod_eq_of_lt hi]
/-- Rows of ints that rise. -/
theorem rises {ks : List Int} {t : Tre} (h : KS ks t) {i j : Nat} (hij : i < j) (hj : j < (t.toL.map Prod.snd).length) : ∃ a b : Int, (t.toL.map Prod.snd).getD i [] = [viV a] ∧ (t.toL.map Prod.snd).getD j [] = [viV b] ∧ a < b := by
  rw [List.length_map] at hj
  have hi : i < t.toL.length := by omega
  obtain ⟨a, _, ea⟩ := h.of (t.toL[i]) (List.getElem_mem hi)
  obtain ⟨b, _, eb⟩ := h.of (t.toL[j]) (List.getElem_mem hj)
  have hlt := List.pairwise_iff_getElem.1 h.sort i j hi hj hij
  rw [ea, eb] at hlt
  refine ⟨a, b, by simp [List.getD, hi, ea], by simp [List.getD, hj, eb], ?_⟩
  simp only at hlt
  apply Classical.byContradiction
  intro hn
  by_cases hab : a = b
  · subst hab
    have := (ro_zero [viV a] [viV a]).2 rfl
    omega
  · have h1 : (viV a).ord (viV b) = 1 := by
      unfold Vl.ord viV
      unfold ordC
      simp [or3, cmp3]
      omega
    simp only [rowsOrd, h1] at hlt
    simp at hlt
end Go.Proofs.Ytlcblbgkcmdjjaa
