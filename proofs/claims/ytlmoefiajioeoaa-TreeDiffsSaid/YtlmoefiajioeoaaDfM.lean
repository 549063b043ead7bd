/- Where two sorted lists differ: by walking beside each other, and by asking for each key. -/
import Derived.Test.YtlmoefiajioeoaaTk
namespace Go.Proofs.Ytlmoefiajioeoaa
open Go.RowKit

abbrev PL := List (List Vl × List Vl)
/-- Two lists beside each other. -/
def diffL : PL → PL → PL
  | [], [] => []
  | (_, r) :: a, [] => (r, []) :: diffL a []
  | [], (_, r) :: b => ([], r) :: diffL [] b
  | (k, r) :: a, (k', r') :: b => if rowsOrd k k' < 0 then (r, []) :: diffL a ((k', r') :: b) else if 0 < rowsOrd k k' then ([], r') :: diffL ((k, r) :: a) b else if rowsOrd r r' = 0 then diffL a b else (r, r') :: diffL a b
termination_by a b => a.length + b.length
/-- Their keys. -/
def mergeK : PL → PL → List (List Vl)
  | [], [] => []
  | (k, _) :: a, [] => k :: mergeK a []
  | [], (k, _) :: b => k :: mergeK [] b
  | (k, r) :: a, (k', r') :: b => if rowsOrd k k' < 0 then k :: mergeK a ((k', r') :: b) else if 0 < rowsOrd k k' then k' :: mergeK ((k, r) :: a) b else k :: mergeK a b
termination_by a b => a.length + b.length
/-- What is told of one key. -/
def askL (a b : PL) (k : List Vl) : PL :=
  match lookL k a, lookL k b with
  | some x, none => [(x, [])]
  | none, some y => [([], y)]
  | some x, some y => if rowsOrd x y = 0 then [] else [(x, y)]
  | none, none => []
theorem look_cons_ne {k k' : List Vl} {r : List Vl} {l : PL} (h : rowsOrd k' k ≠ 0) : lookL k ((k', r) :: l) = lookL k l := by
  unfold lookL
  rw [List.find?_cons_of_neg (by simpa using h)]
theorem look_cons_eq {k k' : List Vl} {r : List Vl} {l : PL} (h : rowsOrd k' k = 0) : lookL k ((k', r) :: l) = some r := by
  unfold lookL
  rw [List.find?_cons_of_pos (by simpa using h)]
  rfl
theorem look_above {k : List Vl} {l : PL} (h : ∀ x ∈ l, rowsOrd k x.1 < 0) : lookL k l = none := by
  unfold lookL
  rw [List.find?_eq_none.2 (fun x hx e => ?_)]
  · rfl
  · have e' : rowsOrd x.1 k = 0 := by simpa using e
    have := h x hx
    rw [(ro_zero _ _).1 e', (ro_zero k k).2 rfl] at this
    omega
theorem mergeK_mem : ∀ (a b : PL) (k : List Vl), k ∈ mergeK a b → (∃ x ∈ a, x.1 = k) ∨ (∃ x ∈ b, x.1 = k)
  | [], [], k, h => by simp [mergeK] at h
  | (k1, r) :: a, [], k, h => by
    rw [mergeK, List.mem_cons] at h
    rcases h with rfl | h
    · exact .inl ⟨_, List.mem_cons_self, rfl⟩
    · rcases mergeK_mem a [] k h with ⟨x, hx, e⟩ | ⟨x, hx, e⟩
      · exact .inl ⟨x, by simp [hx], e⟩
      · simp at hx
  | [], (k1, r) :: b, k, h => by
    rw [mergeK, List.mem_cons] at h
    rcases h with rfl | h
    · exact .inr ⟨_, List.mem_cons_self, rfl⟩
    · rcases mergeK_mem [] b k h with ⟨x, hx, e⟩ | ⟨x, hx, e⟩
      · simp at hx
      · exact .inr ⟨x, by simp [hx], e⟩
  | (k1, r) :: a, (k2, r2) :: b, k, h => by
    rw [mergeK] at h
    split at h
    · rw [List.mem_cons] at h
      rcases h with rfl | h
      · exact .inl ⟨_, List.mem_cons_self, rfl⟩
      · rcases mergeK_mem a ((k2, r2) :: b) k h with ⟨x, hx, e⟩ | h
        · exact .inl ⟨x, by simp [hx], e⟩
        · exact .inr h
    · split at h
      · rw [List.mem_cons] at h
        rcases h with rfl | h
        · exact .inr ⟨_, List.mem_cons_self, rfl⟩
        · rcases mergeK_mem ((k1, r) :: a) b k h with h | ⟨x, hx, e⟩
          · exact .inl h
          · exact .inr ⟨x, by simp [hx], e⟩
      · rw [List.mem_cons] at h
        rcases h with rfl | h
        · exact .inl ⟨_, List.mem_cons_self, rfl⟩
        · rcases mergeK_mem a b k h with ⟨x, hx, e⟩ | ⟨x, hx, e⟩
          · exact .inl ⟨x, by simp [hx], e⟩
          · exact .inr ⟨x, by simp [hx], e⟩
termination_by a b => a.length + b.length
theorem mem_mergeK : ∀ (a b : PL) (k : List Vl), (∃ x ∈ a, x.1 = k) ∨ (∃ x ∈ b, x.1 = k) → k ∈ mergeK a b
  | [], [], k, h => by simp at h
  | (k1, r) :: a, [], k, h => by
    rw [mergeK, List.mem_cons]
    rcases h with ⟨x, hx, e⟩ | ⟨x, hx, _⟩
    · rcases List.mem_cons.1 hx with rfl | hx
      · exact .inl e.symm
      · exact .inr (mem_mergeK a [] k (.inl ⟨x, hx, e⟩))
    · simp at hx
  | [], (k1, r) :: b, k, h => by
    rw [mergeK, List.mem_cons]
    rcases h with ⟨x, hx, _⟩ | ⟨x, hx, e⟩
    · simp at hx
    · rcases List.mem_cons.1 hx with rfl | hx
      · exact .inl e.symm
      · exact .inr (mem_mergeK [] b k (.inr ⟨x, hx, e⟩))
  | (k1, r) :: a, (k2, r2) :: b, k, h => by
    rw [mergeK]
    by_cases h1 : rowsOrd k1 k2 < 0
    · rw [if_pos h1, List.mem_cons]
      rcases h with ⟨x, hx, e⟩ | h
      · rcases List.mem_cons.1 hx with rfl | hx
        · exact .inl e.symm
        · exact .inr (mem_mergeK a _ k (.inl ⟨x, hx, e⟩))
      · exact .inr (mem_mergeK a _ k (.inr h))
    · rw [if_neg h1]
      by_cases h2 : 0 < rowsOrd k1 k2
      · rw [if_pos h2, List.mem_cons]
        rcases h with h | ⟨x, hx, e⟩
        · exact .inr (mem_mergeK _ b k (.inl h))
        · rcases List.mem_cons.1 hx with rfl | hx
          · exact .inl e.symm
          · exact .inr (mem_mergeK _ b k (.inr ⟨x, hx, e⟩))
      · rw [if_neg h2, List.mem_cons]
        have e12 : k1 = k2 := (ro_zero _ _).1 (by omega)
        rcases h with ⟨x, hx, e⟩ | ⟨x, hx, e⟩
        · rcases List.mem_cons.1 hx with rfl | hx
          · exact .inl e.symm
          · exact .inr (mem_mergeK a b k (.inl ⟨x, hx, e⟩))
        · rcases List.mem_cons.1 hx with rfl | hx
          · exact .inl (by rw [← e]; exact e12.symm)
          · exact .inr (mem_mergeK a b k (.inr ⟨x, hx, e⟩))
termination_by a b => a.length + b.length
/-- Keys that rise. -/
def RiseK (l : List (List Vl)) : Prop := l.Pairwise (fun x y => rowsOrd x y < 0)
theorem ro_lt_of {a b c : List Vl} (h : rowsOrd a b < 0) (e : b = c) : rowsOrd a c < 0 := e ▸ h
theorem ro_gt {a b : List Vl} (h : 0 < rowsOrd a b) : rowsOrd b a < 0 := by have := ro_turn a b; omega
theorem mergeK_rise : ∀ (a b : PL), Tr.Sorted rowsOrd a → Tr.Sorted rowsOrd b → RiseK (mergeK a b)
  | [], [], _, _ => by simp [mergeK, RiseK]
  | (k1, r) :: a, [], ha, hb => by
    have h' := List.pairwise_cons.1 ha
    rw [mergeK]
    refine List.pairwise_cons.2 ⟨fun k hk => ?_, mergeK_rise a [] h'.2 hb⟩
    rcases mergeK_mem a [] k hk with ⟨x, hx, rfl⟩ | ⟨x, hx, _⟩
    · exact h'.1 x hx
    · simp at hx
  | [], (k1, r) :: b, ha, hb => by
    have h' := List.pairwise_cons.1 hb
    rw [mergeK]
    refine List.pairwise_cons.2 ⟨fun k hk => ?_, mergeK_rise [] b ha h'.2⟩
    rcases mergeK_mem [] b k hk with ⟨x, hx, _⟩ | ⟨x, hx, rfl⟩
    · simp at hx
    · exact h'.1 x hx
  | (k1, r) :: a, (k2, r2) :: b, ha, hb => by
    have h1 := List.pairwise_cons.1 ha
    have h2 := List.pairwise_cons.1 hb
    rw [mergeK]
    split
    · rename_i hlt
      refine List.pairwise_cons.2 ⟨fun k hk => ?_, mergeK_rise a _ h1.2 hb⟩
      rcases mergeK_mem a _ k hk with ⟨x, hx, rfl⟩ | ⟨x, hx, rfl⟩
      · exact h1.1 x hx
      · rcases List.mem_cons.1 hx with rfl | hx
        · exact hlt
        · exact ro_trans _ _ _ hlt (h2.1 x hx)
    · split
      · rename_i _ hgt
        have hlt := ro_gt hgt
        refine List.pairwise_cons.2 ⟨fun k hk => ?_, mergeK_rise _ b ha h2.2⟩
        rcases mergeK_mem _ b k hk with ⟨x, hx, rfl⟩ | ⟨x, hx, rfl⟩
        · rcases List.mem_cons.1 hx with rfl | hx
          · exact hlt
          · exact ro_trans _ _ _ hlt (h1.1 x hx)
        · exact h2.1 x hx
      · rename_i n1 n2
        have e12 : k1 = k2 := (ro_zero _ _).1 (by omega)
        refine List.pairwise_cons.2 ⟨fun k hk => ?_, mergeK_rise a b h1.2 h2.2⟩
        rcases mergeK_mem a b k hk with ⟨x, hx, rfl⟩ | ⟨x, hx, rfl⟩
        · exact h1.1 x hx
        · rw [e12]; exact h2.1 x hx
termination_by a b => a.length + b.length
/-- Rising keys that are the same as a set are the same. -/
theorem rise_same : ∀ (l m : List (List Vl)), RiseK l → RiseK m → (∀ k, k ∈ l ↔ k ∈ m) → l = m
  | [], [], _, _, _ => rfl
  | [], y :: m, _, _, h => by have := (h y).2 (by simp); simp at this
  | x :: l, [], _, _, h => by have := (h x).1 (by simp); simp at this
  | x :: l, y :: m, hl, hm, h => by
    have h1 := List.pairwise_cons.1 hl
    have h2 := List.pairwise_cons.1 hm
    have irr : ∀ z : List Vl, ¬ rowsOrd z z < 0 := fun z => by rw [(ro_zero z z).2 rfl]; omega
    have exy : x = y := by
      rcases List.mem_cons.1 ((h x).1 (by simp)) with e | hx
      · exact e
      · rcases List.mem_cons.1 ((h y).2 (by simp)) with e | hy
        · exact e.symm
        · exact absurd (ro_trans _ _ _ (h2.1 x hx) (h1.1 y hy)) (irr y)
    subst exy
    rw [rise_same l m h1.2 h2.2 (fun k => ?_)]
    constructor
    · intro hk
      rcases List.mem_cons.1 ((h k).1 (by simp [hk])) with e | hk'
      · subst e; exact absurd (h1.1 _ hk) (irr _)
      · exact hk'
    · intro hk
      rcases List.mem_cons.1 ((h k).2 (by simp [hk])) with e | hk'
      · subst e; exact absurd (h2.1 _ hk) (irr _)
      · exact hk'
theorem flatMap_same {f g : List Vl → PL} : ∀ {l : List (List Vl)}, (∀ k ∈ l, f k = g k) → l.flatMap f = l.flatMap g
  | [], _ => rfl
  | x :: l, h => by rw [List.flatMap_cons, List.flatMap_cons, h x (by simp), flatMap_same (fun k hk => h k (by simp [hk]))]
theorem ask_step1 {k1 r : List Vl} {a b : PL} {k : List Vl} (h : rowsOrd k1 k < 0) : askL ((k1, r) :: a) b k = askL a b k := by
  unfold askL; rw [look_cons_ne (by omega)]
theorem ask_step2 {k1 r : List Vl} {a b : PL} {k : List Vl} (h : rowsOrd k1 k < 0) : askL a ((k1, r) :: b) k = askL a b k := by
  unfold askL; rw [look_cons_ne (by omega)]
theorem diffL_asks : ∀ (a b : PL), Tr.Sorted rowsOrd a → Tr.Sorted rowsOrd b → diffL a b = (mergeK a b).flatMap (askL a b)
  | [], [], _, _ => by simp [diffL, mergeK]
  | (k1, r) :: a, [], ha, hb => by
    have h' := List.pairwise_cons.1 ha
    have hm := List.pairwise_cons.1 (by have := mergeK_rise ((k1, r) :: a) [] ha hb; rw [mergeK] at this; exact this)
    have e : askL ((k1, r) :: a) [] k1 = [(r, [])] := by unfold askL; rw [look_cons_eq ((ro_zero _ _).2 rfl)]; rfl
    rw [diffL, mergeK, List.flatMap_cons, diffL_asks a [] h'.2 hb, e, flatMap_same (fun k hk => ask_step1 (hm.1 k hk))]
    rfl
  | [], (k1, r) :: b, ha, hb => by
    have h' := List.pairwise_cons.1 hb
    have hm := List.pairwise_cons.1 (by have := mergeK_rise [] ((k1, r) :: b) ha hb; rw [mergeK] at this; exact this)
    have e : askL [] ((k1, r) :: b) k1 = [([], r)] := by unfold askL; rw [look_cons_eq ((ro_zero _ _).2 rfl)]; rfl
    rw [diffL, mergeK, List.flatMap_cons, diffL_asks [] b ha h'.2, e, flatMap_same (fun k hk => ask_step2 (hm.1 k hk))]
    rfl
  | (k1, r) :: a, (k2, r2) :: b, ha, hb => by
    have h1 := List.pairwise_cons.1 ha
    have h2 := List.pairwise_cons.1 hb
    have hR := mergeK_rise ((k1, r) :: a) ((k2, r2) :: b) ha hb
    rw [mergeK] at hR
    rw [diffL, mergeK]
    by_cases c1 : rowsOrd k1 k2 < 0
    · rw [if_pos c1] at hR
      have hm := List.pairwise_cons.1 hR
      have hn : lookL k1 ((k2, r2) :: b) = none := look_above (fun x hx => by
        rcases List.mem_cons.1 hx with rfl | hx
        · exact c1
        · exact ro_trans _ _ _ c1 (h2.1 x hx))
      have e : askL ((k1, r) :: a) ((k2, r2) :: b) k1 = [(r, [])] := by unfold askL; rw [look_cons_eq ((ro_zero _ _).2 rfl), hn]
      rw [if_pos c1, if_pos c1, List.flatMap_cons, diffL_asks a _ h1.2 hb, e, flatMap_same (fun k hk => ask_step1 (hm.1 k hk))]
      rfl
    · rw [if_neg c1] at hR
      rw [if_neg c1, if_neg c1]
      by_cases c2 : 0 < rowsOrd k1 k2
      · rw [if_pos c2] at hR
        have hm := List.pairwise_cons.1 hR
        have c2' := ro_gt c2
        have hn : lookL k2 ((k1, r) :: a) = none := look_above (fun x hx => by
          rcases List.mem_cons.1 hx with rfl | hx
          · exact c2'
          · exact ro_trans _ _ _ c2' (h1.1 x hx))
        have e : askL ((k1, r) :: a) ((k2, r2) :: b) k2 = [([], r2)] := by unfold askL; rw [hn, look_cons_eq ((ro_zero _ _).2 rfl)]
        rw [if_pos c2, if_pos c2, List.flatMap_cons, diffL_asks _ b ha h2.2, e, flatMap_same (fun k hk => ask_step2 (hm.1 k hk))]
        rfl
      · rw [if_neg c2] at hR
        have hm := List.pairwise_cons.1 hR
        have e12 : k1 = k2 := (ro_zero _ _).1 (by omega)
        have e : askL ((k1, r) :: a) ((k2, r2) :: b) k1 = if rowsOrd r r2 = 0 then [] else [(r, r2)] := by unfold askL; rw [look_cons_eq ((ro_zero _ _).2 rfl), look_cons_eq ((ro_zero _ _).2 e12.symm)]
        rw [if_neg c2, if_neg c2, List.flatMap_cons, diffL_asks a b h1.2 h2.2, e, flatMap_same (l := mergeK a b) (f := askL ((k1, r) :: a) ((k2, r2) :: b)) (g := askL a b) (fun k hk => by rw [ask_step1 (hm.1 k hk), ask_step2 (by rw [← e12]; exact hm.1 k hk)])]
        split
        · rfl
        · rfl
termination_by a b => a.length + b.length
theorem diffL_len : ∀ (a b : PL), (diffL a b).length ≤ a.length + b.length
  | [], [] => by simp [diffL]
  | (_, r) :: a, [] => by rw [diffL]; have := diffL_len a []; simp at *; omega
  | [], (_, r) :: b => by rw [diffL]; have := diffL_len [] b; simp at *; omega
  | (k, r) :: a, (k', r') :: b => by
    rw [diffL]
    split
    · have := diffL_len a ((k', r') :: b); simp at *; omega
    · split
      · have := diffL_len ((k, r) :: a) b; simp at *; omega
      · split
        · have := diffL_len a b; simp at *; omega
        · have := diffL_len a b; simp at *; omega
termination_by a b => a.length + b.length
end Go.Proofs.Ytlmoefiajioeoaa
